import PyProof.Rows.All
import Wide.All
import OpenK.AllK
import Wide.FinOn
import Lean
import PyProof.EqAt
import PyProof.EqKinds
import PyProof.TupleCall
import PyProof.ExcBaseAll.ValueError
import PyProof.EnumMake
import PyProof.Rows.EnumRows
import PyProof.TupleIter
import PyProof.DictValues
import PyProof.CollectStr
import PySem.Builtin.Int.W1All
import PyProof.DictRoadsH
import PyProof.DictKinds
import PyProof.FactsAll.NoneType
import KE.KRevIter
import PyProof.FactsAll.list_3
import KE.KDictList
import PyProof.DictIter
import PyProof.DictWalks
import PyProof.ListRange
import PyProof.Rows.SumAny
import PyProof.Rows.SeqCalls
import PyProof.P3In
import PySem.Challenge.RW_wormyard_k66_what_waits
set_option Elab.async false
set_option linter.all false
set_option maxRecDepth 100000
set_option maxHeartbeats 4000000
namespace L2
open PySem PySem.Spec PyProof.Rows
abbrev Key:=Sum Int Str
def keyIs:Key→Value→Bool
  | .inl k,v=>Value.isInt k v
  | .inr x,v=>Value.isStrOf x v
def keyH (w:World):Key→Int
  | .inl k=>hashInt k
  | .inr x=>hashStr w x
theorem keyIs_shape:∀ {k:Key} {v:Value},keyIs k v=true→(∃ i t,k=Sum.inl i∧v=Value.int i t)∨(∃ x t,k=Sum.inr x∧v=Value.str x t)
  | .inl i,v,h=>by
    obtain ⟨t,e⟩:=Value.isInt_shape (k:=i) (v:=v) h
    exact .inl ⟨i,t,rfl,e⟩
  | .inr x,v,h=>by
    obtain ⟨t,e⟩:=Value.isStrOf_shape (x:=x) (v:=v) h
    exact .inr ⟨x,t,rfl,e⟩
theorem key_ll (a b:Int):decide ((Sum.inl a:Key)=Sum.inl b)=(a == b):=by
  by_cases e:a=b
  · subst e; simp
  · have h:¬ (Sum.inl a:Key)=Sum.inl b:=fun q=>e (Sum.inl.inj q)
    rw [decide_eq_false h]
    exact (beq_eq_false_iff_ne.mpr e).symm
theorem key_rr (a b:Str):decide ((Sum.inr a:Key)=Sum.inr b)=decide (a=b):=by
  by_cases e:a=b
  · subst e; simp
  · have h:¬ (Sum.inr a:Key)=Sum.inr b:=fun q=>e (Sum.inr.inj q)
    rw [decide_eq_false h,decide_eq_false e]
theorem key_lr (a:Int) (b:Str):decide ((Sum.inl a:Key)=Sum.inr b)=false:=decide_eq_false (fun q=>nomatch q)
theorem key_rl (a:Str) (b:Int):decide ((Sum.inr a:Key)=Sum.inl b)=false:=decide_eq_false (fun q=>nomatch q)
def mixKind (prog:Program) (w:World):PySem.KeyKind prog w Key where
  is:=keyIs
  hash:=keyH w
  inj:=fun v a b ha hb=>by
    rcases keyIs_shape ha with ⟨i,t,rfl,rfl⟩ | ⟨x,t,rfl,rfl⟩
    · rcases keyIs_shape hb with ⟨j,u,rfl,e⟩ | ⟨y,u,rfl,e⟩
      · injection e with e1 _; rw [e1]
      · exact nomatch e
    · rcases keyIs_shape hb with ⟨j,u,rfl,e⟩ | ⟨y,u,rfl,e⟩
      · exact nomatch e
      · injection e with e1 _; rw [e1]
  byValue:=fun k v h=>by
    rcases keyIs_shape h with ⟨i,t,rfl,rfl⟩ | ⟨x,t,rfl,rfl⟩ <;> rfl
  pyHash:=fun hv h=>by
    rcases keyIs_shape hv with ⟨i,t,rfl,rfl⟩ | ⟨x,t,rfl,rfl⟩
    · exact wpAny_pyHash_int h
    · exact wpAny_pyHash_str h
  eqBool:=fun hu hv h=>by
    rcases keyIs_shape hu with ⟨i,t,rfl,rfl⟩ | ⟨x,t,rfl,rfl⟩
    · rcases keyIs_shape hv with ⟨j,u,rfl,rfl⟩ | ⟨y,u,rfl,rfl⟩
      · rw [key_ll] at h; exact wpAny_eqBool_int h
      · rw [key_lr] at h; exact SeqAt.EqAt.int_str i t y u _ _ _ _ h
    · rcases keyIs_shape hv with ⟨j,u,rfl,rfl⟩ | ⟨y,u,rfl,rfl⟩
      · rw [key_rl] at h; exact SeqAt.EqAt.str_int x t j u _ _ _ _ h
      · rw [key_rr] at h; exact wpAny_eqBool_str h
  «strs»:=fun k x t v h=>by
    rcases keyIs_shape h with ⟨i,u,rfl,e⟩ | ⟨y,u,rfl,e⟩
    · exact nomatch e
    · injection e with e1 _
      subst e1
      cases v <;> rfl
end L2
namespace L2
open PySem PySem.Spec PyProof.Rows
inductive V where
  | non | bl (b:Bool) | int (i:Int) | str (x:Str) | byt (b:Array UInt8) | flt (b:UInt64) | ref (a:Addr) | ty (n:String)
  deriving DecidableEq
def RelV:V→Value→Prop
  | .non,u=>u=Value.none
  | .bl b,u=>u=Value.bool b
  | .int i,u=>∃ t,u=Value.int i t
  | .str x,u=>∃ t,u=Value.str x t
  | .byt b,u=>∃ t,u=Value.bytes b t
  | .flt b,u=>∃ t,u=Value.float b t
  | .ref a,u=>u=Value.ref a
  | .ty n,u=>u=Value.type n
abbrev Vals:List V→List Value→Prop:=Paired RelV
theorem Vals.length {xs:List V} {us:List Value} (r:Vals xs us):xs.length=us.length:=Paired.length r
theorem Vals.get:∀ {xs:List V} {us:List Value} {i:Nat} {x:V},Vals xs us→xs[i]? = some x→∃ u,us[i]? = some u∧RelV x u
  | _,_,_,_, .nil,e=>by simp at e
  | _,_,0,_, .cons r _,e=>by simp at e; subst e; exact ⟨_,rfl,r⟩
  | _,_,i + 1,x, .cons _ t,e=>by
    obtain ⟨u,h1,h2⟩:=Vals.get (i:=i) (x:=x) t (by simpa using e)
    exact ⟨u,by simpa using h1,h2⟩
theorem Vals.set {x:V} {u:Value} (r:RelV x u):∀ {xs:List V} {us:List Value} (i:Nat),Vals xs us→Vals (xs.set i x) (us.set i u)
  | _,_,_, .nil => .nil
  | _,_,0, .cons _ t => .cons r t
  | _,_,i + 1, .cons q t => .cons q (Vals.set r i t)
theorem Vals.append:∀ {xs ys:List V} {us ws:List Value},Vals xs us→Vals ys ws→Vals (xs ++ ys) (us ++ ws)
  | _,_,_,_, .nil,s=>s
  | _,_,_,_, .cons r t,s => .cons r (Vals.append t s)
theorem Vals.take:∀ {xs:List V} {us:List Value} (n:Nat),Vals xs us→Vals (xs.take n) (us.take n)
  | _,_,0,_ => .nil
  | _,_,_ + 1, .nil => .nil
  | _,_,n + 1, .cons r t => .cons r (Vals.take n t)
theorem Vals.drop:∀ {xs:List V} {us:List Value} (n:Nat),Vals xs us→Vals (xs.drop n) (us.drop n)
  | _,_,0,r=>r
  | _,_,_ + 1, .nil => .nil
  | _,_,n + 1, .cons _ t=>Vals.drop n t
def RelO:Option V→Option Value→Prop
  | some v,some u=>RelV v u
  | none,none=>True
  | _,_=>False
def KV {κ:Type}:List (κ × V)→List (κ × Value)→Prop:=Paired fun (p:κ × V) (q:κ × Value)=>p.1=q.1∧RelV p.2 q.2
def kV:Key→V
  | .inl i => .int i
  | .inr x => .str x
inductive HO where
    | lst (xs:List V)
    | tup (xs:List V)
    | dK (kvs:List (Key × V)) | dT (kvs:List (List Key × V))
    | set (S:Int→Bool) (n:Nat)
    | ins (C dx:Addr) (fs:List (Str × V))
    | own (x:Addr)
    | xd (fs:List (Str × V))
    | met (f x:Addr)
    | rng (lo hi:Int)
    | frz (o:Obj) (u:HO)
    | tbl (ps:Array Value)
    | ext (φ:Heap→Prop)
abbrev Hp:=Addr→Option HO
def upd (H:Hp) (a:Addr) (o:HO):Hp:=fun b=>if b=a then some o else H b
theorem upd_same {H:Hp} {a:Addr} {o:HO}:upd H a o a=some o:=by unfold upd; rw [if_pos rfl]
theorem upd_ne {H:Hp} {a b:Addr} {o:HO} (h:b ≠ a):upd H a o b=H b:=by unfold upd; rw [if_neg h]
theorem ne_of {H:Hp} {a b:Addr} {o u:HO} (h:H a=some o) (h':H b=some u) (d:o ≠ u):a ≠ b:=by
  intro e; subst e; rw [h] at h'; exact d (Option.some.inj h')
theorem ne_of_none {H:Hp} {a b:Addr} {o:HO} (h:H a=some o) (h':H b=none):a ≠ b:=by
  intro e; subst e; rw [h] at h'; cases h'
def IsTupN (h:Heap) (a:Addr) (items:Array Value):Prop:=∃ o,h.get? a=some o∧(o.cls = .type "tuple"∧∃ n,o.data = .seq items n)∧o.dict=none
theorem IsTupN.isTup {h:Heap} {a:Addr} {items:Array Value}:IsTupN h a items→IsTup h a items:=fun ⟨o,e,c,_⟩=>⟨o,e,c⟩
theorem IsTupN.new (h:Heap) (items:Array Value):IsTupN (h.push { cls := .type "tuple",data := .seq items }) h.objs.size items:=⟨_,Heap.get?_push_size _ rfl,⟨rfl,_,rfl⟩,rfl⟩
section
variable (P:Program) (w:World)
def ObjOk (H:Hp) (h:Heap) (a:Addr):HO→Prop
  | .lst xs=>xs.length ≤ sizeLine∧∃ (its:List Value) (n:Nat),Vals xs its∧h.get? a=some { cls := .type "list",data := .seq its.toArray n }
  | .tup xs=>xs.length ≤ sizeLine∧∃ its:List Value,Vals xs its∧IsTupN h a its.toArray
  | .dK kvs=>kvs.length ≤ sizeLine∧(a == sysModules)=false∧∃ vs,KV kvs vs∧h.DictOf (mixKind P w) a vs
  | .dT kvs=>kvs.length ≤ sizeLine∧(a == sysModules)=false∧∃ xs:List (List Key × Addr × Value),
      Paired (fun (p:List Key × V) (q:List Key × Addr × Value)=>p.1=q.1∧H q.2.1=some (.tup (p.1.map kV))∧RelV p.2 q.2.2) kvs xs ∧
      ∃ o es ep,h.get? a=some o∧o.ExactDict∧o.data = .dict es ep∧es.toList=xs.map (entryOfKey (tupleKind (mixKind P w)))∧(xs.map (·.1)).Nodup
  | .set S n=>h.SetOf (intKind P w) a S n
  | .ins C dx fs=>H dx=some (.own a)∧fs.length ≤ 1000∧dx ≠ a∧h.get? a=some (PySem.W.instObj C dx) ∧
      ∃ mA,h.Ns1 dx mA∧(∀ f,RelO (fs.lookup f) (mA f))∧PySem.Within mA (fs.map (·.1))
  | .own _=>∃ o,h.get? a=some o
  | .xd fs=>∃ mA,h.Ns1 a mA∧∀ f,RelO (fs.lookup f) (mA f)
  | .rng lo hi=>∃ t u v,h.get? a=some { cls := .type "range",data := .fields #[.int lo t, .int hi u, .int 1 v] }
  | .frz o u=>h.get? a=some o∧ObjOk H h a u
  | .tbl ps=>h.get? a=some { cls := .none,data := .fields ps }
  | .met f x=>h.get? a=some (PySem.W.methodObj (.ref f) (.ref x))
  | .ext φ=>φ h∧(∃ o,h.get? a=some o)∧∀ h1 h2:Heap,φ h1→(∀ o,h1.get? a=some o→h2.get? a=some o)→φ h2
def HOk (H:Hp) (h:Heap):Prop:=∀ a o,H a=some o→ObjOk P w H h a o
end
section
variable {P:Program} {w:World} {H H':Hp} {h h':Heap} {a:Addr} {o:HO}
theorem ObjOk.lt (x:ObjOk P w H h a o):a < h.objs.size:=by
  cases o with
  | lst xs=>obtain ⟨_,_,_,_,e⟩:=x; exact Heap.lt_size e
  | tup xs=>obtain ⟨_,_,_,p⟩:=x; exact p.isTup.lt
  | dK kvs=>obtain ⟨_,_,_,_,o,_,_,e,_⟩:=x; exact Heap.lt_size e
  | dT kvs=>obtain ⟨_,_,_,_,o,_,_,e,_⟩:=x; exact Heap.lt_size e
  | set S n=>obtain ⟨o,_,_,_,e,_⟩:=x; exact Heap.lt_size e
  | ins C dx fs=>obtain ⟨_,_,_,e,_⟩:=x; exact Heap.lt_size e
  | own y=>obtain ⟨_,e⟩:=x; exact Heap.lt_size e
  | xd fs=>obtain ⟨_,⟨_,_,_,e,_⟩,_⟩:=x; exact Heap.lt_size e
  | rng lo hi=>obtain ⟨_,_,_,e⟩:=x; exact Heap.lt_size e
  | frz ob u=>obtain ⟨e,_⟩:=x; exact Heap.lt_size e
  | tbl ps=>exact Heap.lt_size (show h.get? a=some _ from x)
  | met f y=>exact Heap.lt_size (show h.get? a=some _ from x)
  | ext φ=>obtain ⟨_,⟨_,e⟩,_⟩:=x; exact Heap.lt_size e
theorem Paired.mapP {α β:Type} {F G:α→β→Prop}:∀ {l₁:List α} {l₂:List β},Paired F l₁ l₂→(∀ a b,F a b→G a b)→Paired G l₁ l₂
  | _,_, .nil,_ => .nil
  | _,_, .cons r t,f => .cons (f _ _ r) (Paired.mapP t f)
theorem ObjOk.stay (x:ObjOk P w H h a o) (k:∀ b u,(b=a∨H b=some (.own a))→h.get? b=some u→h'.get? b=some u)
    (ho:∀ b,H b=some (.own a)→H' b=some (.own a)) (ht:∀ b xs,H b=some (.tup xs)→H' b=some (.tup xs)):ObjOk P w H' h' a o:=by
  induction o with
  | lst xs=>obtain ⟨z,its,n,r,e⟩:=x; exact ⟨z,its,n,r,k _ _ (.inl rfl) e⟩
  | tup xs=>obtain ⟨z,its,r,ob,e,c⟩:=x; exact ⟨z,its,r,ob,k _ _ (.inl rfl) e,c⟩
  | dK kvs=>obtain ⟨z,y,vs,r,ob,es,ep,e,c⟩:=x; exact ⟨z,y,vs,r,ob,es,ep,k _ _ (.inl rfl) e,c⟩
  | dT kvs =>
    obtain ⟨z,y,xs,r,ob,es,ep,e,c⟩:=x
    exact ⟨z,y,xs,Paired.mapP r fun p q z=>⟨z.1,ht _ _ z.2.1,z.2.2⟩,ob,es,ep,k _ _ (.inl rfl) e,c⟩
  | set S n=>obtain ⟨ob,es,ep,t,e,c⟩:=x; exact ⟨ob,es,ep,t,k _ _ (.inl rfl) e,c⟩
  | ins C dx fs =>
    obtain ⟨d,z,ne,e,mA,⟨od,es,ep,e2,c⟩,r⟩:=x
    exact ⟨ho _ d,z,ne,k _ _ (.inl rfl) e,mA,⟨od,es,ep,k _ _ (.inr d) e2,c⟩,r⟩
  | own y=>obtain ⟨ob,e⟩:=x; exact ⟨ob,k _ _ (.inl rfl) e⟩
  | xd fs=>obtain ⟨mA,⟨od,es,ep,e,c⟩,r⟩:=x; exact ⟨mA,⟨od,es,ep,k _ _ (.inl rfl) e,c⟩,r⟩
  | rng lo hi=>obtain ⟨t,u,v,e⟩:=x; exact ⟨t,u,v,k _ _ (.inl rfl) e⟩
  | frz ob u ih=>obtain ⟨e,q⟩:=x; exact ⟨k _ _ (.inl rfl) e,ih q⟩
  | tbl ps =>
    have e:h.get? a=some { cls := .none,data := .fields ps }:=x
    show h'.get? a=some { cls := .none,data := .fields ps }
    exact k a _ (.inl rfl) e
  | met f y =>
    have e:h.get? a=some (PySem.W.methodObj (.ref f) (.ref y)):=x
    show h'.get? a=some (PySem.W.methodObj (.ref f) (.ref y))
    exact k a _ (.inl rfl) e
  | ext φ=>obtain ⟨p,⟨o,e⟩,st⟩:=x; exact ⟨st _ _ p fun o q=>k _ _ (.inl rfl) q,⟨o,k _ _ (.inl rfl) e⟩,st⟩
theorem HOk.lt (x:HOk P w H h) (e:H a=some o):a < h.objs.size:=(x a o e).lt
theorem HOk.fresh (x:HOk P w H h) (e:h.objs.size ≤ a):H a=none:=by
  cases q:H a with
  | none=>rfl
  | some u=>exact absurd (Nat.lt_of_lt_of_le (x.lt q) e) (Nat.lt_irrefl _)
theorem HOk.kept (x:HOk P w H h) (k:∀ b u,h.get? b=some u→h'.get? b=some u):HOk P w H h':=fun a o e =>
  (x a o e).stay (fun b u _ q=>k b u q) (fun _ q=>q) fun _ _ q=>q
theorem HOk.laid (x:HOk P w H h) (k:∀ b u,h.get? b=some u→h'.get? b=some u) (hp:h.objs.size ≤ a) (new:ObjOk P w (upd H a o) h' a o):HOk P w (upd H a o) h':=fun b u e=>by
  have hn:=x.fresh hp
  by_cases hb:b=a
  · subst hb; rw [upd_same] at e; cases e; exact new
  · rw [upd_ne hb] at e
    exact (x b u e).stay (fun c v _ q=>k c v q) (fun c q=>by rw [upd_ne (ne_of_none q hn)]; exact q) fun c xs q=>by rw [upd_ne (ne_of_none q hn)]; exact q
end
def Rd (H:Hp) (a:Addr) (u:HO):Prop:=H a=some u∨∃ o,H a=some (.frz o u)
theorem Rd.ok {P:Program} {w:World} {H:Hp} {h:Heap} {a:Addr} {u:HO} (r:Rd H a u) (x:HOk P w H h):ObjOk P w H h a u:=by
  rcases r with r | ⟨o,r⟩
  · exact x a u r
  · obtain ⟨_,q⟩:=x a _ r
    exact q
def Mut:Option HO→Prop
  | some (.lst _)=>True
  | some (.dK _)=>True
  | some (.dT _)=>True
  | some (.set _ _)=>True
  | some (.ins _ _ _)=>True
  | some (.ext _)=>True
  | _=>False
section
variable {P:Program} {w:World} {H:Hp} {h h':Heap} {x e:Addr} {o':HO}
theorem HOk.write (ok:HOk P w H h) (mu:Mut (H x)) (he:e=x∨H e=some (.own x)) (k:∀ b u,b ≠ e→h.get? b=some u→h'.get? b=some u) (heo:∃ u,h'.get? e=some u)
    (new:ObjOk P w (upd H x o') h' x o'):HOk P w (upd H x o') h':=fun b u q=>by
  have nown:∀ c y,H c=some (.own y)→c ≠ x:=fun c y r z=>by subst z; rw [r] at mu; exact mu
  have ntup:∀ c xs,H c=some (.tup xs)→c ≠ x:=fun c xs r z=>by subst z; rw [r] at mu; exact mu
  by_cases hb:b=x
  · subst hb; rw [upd_same] at q; cases q; exact new
  · rw [upd_ne hb] at q
    by_cases hbe:b=e
    · have q':H b=some (.own x):=by
        rcases he with z | z
        · exact absurd (hbe.trans z) hb
        · rw [hbe]; exact z
      rw [q] at q'; cases q'
      obtain ⟨v,hv⟩:=heo
      exact ⟨v,by rw [hbe]; exact hv⟩
    · refine (ok b u q).stay (fun c v hc r=>k c v ?_ r) (fun c r=>by rw [upd_ne (nown c b r)]; exact r) fun c xs r=>by rw [upd_ne (ntup c xs r)]; exact r
      rcases hc with rfl | hc
      · exact hbe
      · rintro rfl
        rcases he with z | z
        · exact nown c b hc z
        · rw [hc] at z; cases z; exact hb rfl
end
structure Un (fs ex:List Addr) (H H':Hp) (h h':Heap):Prop where
  keep:∀ b o,h.get? b=some o→H b=none→b ∉ fs→b ∉ ex→h'.get? b=some o
  slot:∀ b o,h.get? b=some o→H b=none→b ∈ fs→b ∉ ex→∃ sl,h'.get? b=some { o with slots:=sl }
  free:∀ b o,h.get? b=some o→H b=none→b ∉ ex→H' b=none
  there:∀ b o,h.get? b=some o→b ∉ ex→∃ o',h'.get? b=some o'
  tups:∀ b xs,H b=some (.tup xs)→H' b=some (.tup xs)
  frzs:∀ b o u,H b=some (.frz o u)→H' b=some (.frz o u)
  tbls:∀ b ps,H b=some (.tbl ps)→∃ more,H' b=some (.tbl (ps ++ more))
section
variable {fs fs' ex ex':List Addr} {H H1 H2:Hp} {h h1 h2 h':Heap} {a x e:Addr} {o:HO}
theorem Un.any (u:Un fs ex H H1 h h1) {b:Addr} {ob:Obj} (q:h.get? b=some ob) (n:H b=none) (hx:b ∉ ex):∃ sl,h1.get? b=some { ob with slots:=sl }:=by
  by_cases hb:b ∈ fs
  · exact u.slot b ob q n hb hx
  · exact ⟨ob.slots,u.keep b ob q n hb hx⟩
theorem Un.kept (k:∀ b u,h.get? b=some u→h'.get? b=some u):Un fs ex H H h h' :=
  ⟨fun b ob q _ _ _=>k b ob q,fun b ob q _ _ _=>⟨ob.slots,k b ob q⟩,fun _ _ _ n _=>n,fun b ob q _=>⟨ob,k b ob q⟩,fun _ _ q=>q,fun _ _ _ q=>q,fun _ ps q=>⟨#[],by rw [q]; simp⟩⟩
theorem Un.refl:Un fs ex H H h h:=Un.kept fun _ _ q=>q
theorem Un.laid (k:∀ b u,h.get? b=some u→h'.get? b=some u) (hp:h.objs.size ≤ a) (hn:H a=none):Un fs ex H (upd H a o) h h' where
  keep:=fun b u q _ _ _=>k b u q
  slot:=fun b u q _ _ _=>⟨u.slots,k b u q⟩
  free:=fun b u q n _=>by rw [upd_ne (Nat.ne_of_lt (Nat.lt_of_lt_of_le (Heap.lt_size q) hp))]; exact n
  there:=fun b u q _=>⟨u,k b u q⟩
  tups:=fun b xs q=>by rw [upd_ne (ne_of_none q hn)]; exact q
  frzs:=fun b u xs q=>by rw [upd_ne (ne_of_none q hn)]; exact q
  tbls:=fun b ps q=>⟨#[],by rw [upd_ne (ne_of_none q hn),q]; simp⟩
theorem Un.write (mu:Mut (H x)) (he:e=x∨H e=some (.own x)) (k:∀ b u,b ≠ e→h.get? b=some u→h'.get? b=some u) (heo:∃ u,h'.get? e=some u):Un fs ex H (upd H x o) h h':=by
  have hx:∀ b,H b=none→b ≠ x:=fun b n z=>by subst z; rw [n] at mu; exact mu
  have hb:∀ b,H b=none→b ≠ e:=fun b n z=>by
    subst z
    rcases he with r | r
    · exact hx b n r
    · rw [n] at r; cases r
  have hm:∀ b u,H b=some u→¬ Mut (some u)→b ≠ x:=fun b u q nm z=>by subst z; rw [q] at mu; exact nm mu
  refine ⟨fun b u q n _ _=>k b u (hb b n) q,fun b u q n _ _=>⟨u.slots,k b u (hb b n) q⟩,fun b u q n _=>by rw [upd_ne (hx b n)]; exact n,fun b u q _=>?_,
    fun b xs q=>by rw [upd_ne (hm b _ q fun z=>z)]; exact q,fun b u xs q=>by rw [upd_ne (hm b _ q fun z=>z)]; exact q,fun b ps q=>⟨#[],by rw [upd_ne (hm b _ q fun z=>z),q]; simp⟩⟩
  by_cases hbe:b=e
  · subst hbe; exact heo
  · exact ⟨u,k b u hbe q⟩
end
def trk (h:Heap) (H:Hp):List Addr:=(List.range h.objs.size).filter fun a=>(H a).isSome
def hidT (h:Heap) (H:Hp):Heap:=PySem.W.hideAll h (trk h H)
theorem hidT_size (h:Heap) (H:Hp):(hidT h H).objs.size=h.objs.size:=PySem.W.hideAll_size _ _
theorem hidT_get {h:Heap} {H:Hp} {b:Addr} {o:Obj} (e:h.get? b=some o) (n:H b=none):(hidT h H).get? b=some o :=
  PySem.W.hideAll_get _ e fun hm=>by
    have q:(H b).isSome=true:=(List.mem_filter.mp hm).2
    rw [n] at q; simp at q
theorem of_hidT {h:Heap} {H:Hp} {b:Addr} {o:Obj} (e:(hidT h H).get? b=some o):h.get? b=some o∧H b=none:=by
  have e':h.get? b=some o:=PySem.W.of_hideAll (trk h H) e
  refine ⟨e',?_⟩
  cases q:H b with
  | none=>rfl
  | some x =>
    have hm:b ∈ trk h H:=List.mem_filter.mpr ⟨List.mem_range.mpr (Heap.lt_size e'),by simp [q]⟩
    have z:(hidT h H).get? b=none:=PySem.W.hideAll_none (trk h H) hm
    rw [z] at e; cases e
def allNews (g h:Heap) (L:Addr):List (Addr × Obj):=(List.range h.objs.size).filterMap fun a=>if a=L∨(g.get? a).isSome=true then none else (h.get? a).map fun o=>(a,o)
def rest (g h:Heap) (L d:Addr):List (Addr × Obj):=(allNews g h L).filter fun p=>decide (p.1 ≠ d)
end L2
namespace L2
open PySem PySem.Spec PyProof.Rows
structure Mod (K:PySem.W.Frag) (mg:Str→Option Value) (base:Heap):Prop where
  kin:K.In base
  glob:base.Ns mainGlobals mg
  blt:∃ mb,base.Ns builtinsNs mb∧∀ x:Str,x ≠ "__name__"→mb x=bootBuiltins x
  nolimit:base.NoLimit
structure Cx where
  prog:Program
  w:World
  K:PySem.W.Frag
  mg:Str→Option Value
  base:Heap
  A:Around
  N:List Str
  s₀:Shared
  H₀:Hp
  env:Env
  outer:List Env
  stack:List Env
  ex:List Addr
  fn:Str→Bool
  calm:Bool
  pn:List (Addr × Obj)
  xe:Value→Shared→Prop
def frs (l:List Env):List Addr:=l.filterMap (·.frame)
abbrev Cx.fs (X:Cx):List Addr:=frs X.outer
def Vis (sc:Scope) (x:Str):Prop:=sc.names.lookup x=some .local∨sc.names.lookup x=some .cell∨sc.names.lookup x=some .free
def Loc (sc:Scope) (x:Str):Prop:=sc.names.lookup x=some .local∨sc.names.lookup x=some .cell
def Look (env:Env) (h:Heap) (m:Str→Option Value) (x:Str) (u:Value):Prop :=
  (env.kindOf x=some .local∧m x=some u)∨((env.kindOf x=some .cell∨env.kindOf x=some .free)∧∃ c,env.cells.lookup x=some c∧h.IsCell c (some u))
structure Cx.Ok (X:Cx):Prop where
  mod:Mod X.K X.mg X.base
  kind:X.env.scope.kind = .function
  glob:X.env.globals=mainGlobals
  blt:X.env.builtins=builtinsNs
  above:X.s₀.heap.objs.size ≤ X.env.locals
  inj:∀ x y c,X.env.cells.lookup x=some c→X.env.cells.lookup y=some c→x=y
  has:∀ x,(X.env.kindOf x=some .cell∨X.env.kindOf x=some .free)→∃ c,X.env.cells.lookup x=some c
  cab:∀ x c,X.fn x=true→X.env.cells.lookup x=some c→X.s₀.heap.objs.size ≤ c
  hd:X.calm=true→X.A.handled=none
  frames:X.A.frames=some X.stack
  stk:X.stack=X.outer∨(X.stack=X.env :: X.outer∧X.env.frame=some X.env.locals)
  exf:∀ b ∈ X.ex,b ≠ X.env.locals∧∀ x c,X.env.cells.lookup x=some c→c ≠ b
  bs:∀ b o,X.base.get? b=some o→X.s₀.heap.get? b=some o∧X.H₀ b=none
  bsz:X.base.objs.size ≤ X.s₀.heap.objs.size
  noex:∀ b o,X.base.get? b=some o→b ∉ X.ex
  exfs:∀ b ∈ X.ex,b ∉ X.fs
  funs:X.s₀.heap.FunFrames X.base X.outer
  frf:∀ b ∈ X.fs,X.H₀ b=none
structure Inv (X:Cx) (pins:List (Addr × Obj)) (σ:List (Option V)) (H:Hp) (s:Shared):Prop where
  ok:X.Ok
  os:s.os=X.s₀.os
  bare:AllBare s.gens
  base:Un X.fs X.ex X.H₀ H X.s₀.heap s.heap
  loc:∃ m,s.heap.Ns X.env.locals m∧∀ (i:Nat) (x:Str) (v:V),X.N[i]? = some x→σ[i]? = some (some v)→Vis X.env.scope x→∃ u,RelV v u∧Look X.env s.heap m x u
  cell:∀ x c,X.env.cells.lookup x=some c→∃ v,s.heap.IsCell c v
  free:H X.env.locals=none
  freeC:∀ x c,X.env.cells.lookup x=some c→H c=none
  pin:∀ p ∈ X.pn ++ pins,s.heap.get? p.1=some p.2∧H p.1=none∧p.1 ≠ X.env.locals∧p.1 ∉ X.fs∧∀ v,p.2.data ≠ .cell v
  hok:HOk X.prog X.w H s.heap
  len:σ.length=X.N.length
section
variable {X:Cx} {pins:List (Addr × Obj)} {σ:List (Option V)} {H H':Hp} {s:Shared} {h':Heap}
theorem Cx.Ok.nofr (ok:X.Ok) {b:Addr} {o:Obj} (e:X.base.get? b=some o):b ∉ X.fs:=fun hb=>by
  have:=(ok.funs.mem hb).1
  rw [e] at this; cases this
theorem Inv.bs (I:Inv X pins σ H s):∀ b o,X.base.get? b=some o→s.heap.get? b=some o∧H b=none:=fun b o e =>
  ⟨I.base.keep b o (I.ok.bs b o e).1 (I.ok.bs b o e).2 (I.ok.nofr e) (I.ok.noex b o e),I.base.free b o (I.ok.bs b o e).1 (I.ok.bs b o e).2 (I.ok.noex b o e)⟩
theorem Inv.bk (I:Inv X pins σ H s):∀ b o,X.base.get? b=some o→s.heap.get? b=some o:=fun b o e=>(I.bs b o e).1
theorem Inv.mod (I:Inv X pins σ H s):Mod X.K X.mg X.base:=I.ok.mod
theorem Inv.kIn (I:Inv X pins σ H s):X.K.In s.heap:=I.ok.mod.kin.keeps I.bk
theorem Inv.lt (I:Inv X pins σ H s):X.env.locals < s.heap.objs.size:=let ⟨_,hn,_⟩:=I.loc; hn.lt
theorem Inv.sz (I:Inv X pins σ H s):X.s₀.heap.objs.size ≤ s.heap.objs.size:=Nat.le_trans I.ok.above (Nat.le_of_lt I.lt)
theorem Inv.nofs (I:Inv X pins σ H s) {a:Addr} (h:s.heap.objs.size ≤ a):a ∉ X.fs:=fun hb=>by
  obtain ⟨_,o,ho,_⟩:=I.ok.funs.mem hb
  exact absurd (Nat.lt_of_lt_of_le (Heap.lt_size ho) (Nat.le_trans I.sz h)) (Nat.lt_irrefl _)
theorem Inv.cne (I:Inv X pins σ H s):∀ x c,X.env.cells.lookup x=some c→c ≠ X.env.locals:=fun x c e z=>by
  obtain ⟨v,o,ho,hd⟩:=I.cell x c e
  obtain ⟨m,⟨o',es,ep,ho',hd',_⟩,_⟩:=I.loc
  rw [z,ho'] at ho; cases ho; rw [hd'] at hd; cases hd
theorem Inv.funs (I:Inv X pins σ H s):s.heap.FunFrames X.base X.outer:=by
  have all:∀ (l:List Env),(∀ b ∈ frs l,b ∈ X.fs)→X.s₀.heap.FunFrames X.base l→s.heap.FunFrames X.base l:=by
    intro l
    induction l with
    | nil=>intro _ _; trivial
    | cons env r ih =>
      intro hs hl
      obtain ⟨hk,⟨L,o,hf,hn,ho,hd⟩,hr⟩:=hl
      have hL:L ∈ X.fs:=hs L (by unfold frs; rw [List.filterMap_cons,hf]; exact List.mem_cons_self)
      obtain ⟨sl,e⟩:=I.base.slot L o ho (I.ok.frf L hL) hL fun z=>I.ok.exfs L z hL
      exact ⟨hk,⟨L,_,hf,hn,e,hd⟩,ih (fun b hb=>hs b (by unfold frs; rw [List.filterMap_cons,hf]; exact List.mem_cons_of_mem _ hb)) hr⟩
  exact all X.outer (fun _ hb=>hb) I.ok.funs
theorem Inv.stack (I:Inv X pins σ H s):s.heap.FunFrames X.base X.stack:=by
  rcases I.ok.stk with e | ⟨e,hf⟩
  · rw [e]; exact I.funs
  · rw [e]
    obtain ⟨m,hn,_⟩:=I.loc
    refine .cons (by rw [I.ok.kind]; decide) hf hn ?_ I.funs
    exact Heap.get?_none_of_le (Nat.le_trans I.ok.bsz I.ok.above)
theorem Inv.stkSub (I:Inv X pins σ H s):∀ b ∈ frs X.stack,b ∈ X.env.locals :: X.fs:=fun b hb=>by
  rcases I.ok.stk with e | ⟨e,hf⟩
  · rw [e] at hb; exact List.mem_cons_of_mem _ hb
  · rw [e] at hb
    unfold frs at hb
    rw [List.filterMap_cons,hf] at hb
    exact hb
theorem Inv.stkFree (I:Inv X pins σ H s):∀ b ∈ frs X.stack,H b=none:=fun b hb=>by
  rcases List.mem_cons.mp (I.stkSub b hb) with e | hb
  · rw [e]; exact I.free
  · obtain ⟨_,o,ho,_⟩:=I.ok.funs.mem hb
    exact I.base.free b o ho (I.ok.frf b hb) fun z=>I.ok.exfs b z hb
theorem Inv.step {g':Array GenState} {t':Nat} {d':Drawn} {ch:List Addr} (I:Inv X pins σ H s)
    (hch:∀ b ∈ ch,(b ∈ X.ex∨X.s₀.heap.objs.size ≤ b)∧b ≠ X.env.locals∧(∀ x c,X.env.cells.lookup x=some c→c ≠ b)∧∀ p ∈ X.pn ++ pins,p.1 ≠ b)
    (keep:∀ b o,b ≠ X.env.locals→b ∉ X.fs→b ∉ ch→s.heap.get? b=some o→H b=none→h'.get? b=some o)
    (slot:∀ b o,b ≠ X.env.locals→b ∈ X.fs→b ∉ ch→s.heap.get? b=some o→H b=none→∃ sl,h'.get? b=some { o with slots:=sl }) (free:∀ b o,b ∉ ch→s.heap.get? b=some o→H b=none→H' b=none)
    (there:∀ b o,b ∉ ch→s.heap.get? b=some o→∃ o',h'.get? b=some o')
    (tups:∀ b xs,H b=some (.tup xs)→H' b=some (.tup xs)) (frzs:∀ b o u,H b=some (.frz o u)→H' b=some (.frz o u)) (tbls:∀ b ps,H b=some (.tbl ps)→∃ more,H' b=some (.tbl (ps ++ more)))
    (ns:∀ m,s.heap.Ns X.env.locals m→h'.Ns X.env.locals m) (hok:HOk X.prog X.w H' h') (hg:AllBare g') :
    Inv X pins σ H' { s with heap:=h',gens:=g',drawn:=d',toks:=t' }:=by
  have neL:∀ b o,X.s₀.heap.get? b=some o→b ≠ X.env.locals:=fun b o e=>Nat.ne_of_lt (Nat.lt_of_lt_of_le (Heap.lt_size e) I.ok.above)
  have neC:∀ b o,X.s₀.heap.get? b=some o→b ∉ X.ex→b ∉ ch:=fun b o e hx hb=>by
    rcases (hch b hb).1 with z | z
    · exact hx z
    · exact absurd (Nat.lt_of_lt_of_le (Heap.lt_size e) z) (Nat.lt_irrefl _)
  have cellK:∀ x c,X.env.cells.lookup x=some c→∀ v,s.heap.IsCell c v→h'.IsCell c v:=fun x c e v ⟨o,ho,hd⟩=>by
    have nch:c ∉ ch:=fun z=>(hch c z).2.2.1 x c e rfl
    by_cases hc:c ∈ X.fs
    · obtain ⟨sl,q⟩:=slot c o (I.cne x c e) hc nch ho (I.freeC x c e)
      exact ⟨_,q,hd⟩
    · exact ⟨o,keep c o (I.cne x c e) hc nch ho (I.freeC x c e),hd⟩
  refine ⟨I.ok,I.os,hg,⟨fun b o e n hb hx=>?_,fun b o e n hb hx=>?_,fun b o e n hx=>?_,fun b o e hx=>?_,fun b xs e=>tups b xs (I.base.tups b xs e),fun b o xs e=>frzs b o xs (I.base.frzs b o xs e),fun b ps e=>?_⟩,?_,fun x c e=>?_,?_,fun x c e=>?_,fun p hp=>?_,hok,I.len⟩
  · exact keep b o (neL b o e) hb (neC b o e hx) (I.base.keep b o e n hb hx) (I.base.free b o e n hx)
  · obtain ⟨sl,e1⟩:=I.base.slot b o e n hb hx
    obtain ⟨sl',e2⟩:=slot b _ (neL b o e) hb (neC b o e hx) e1 (I.base.free b o e n hx)
    exact ⟨sl',e2⟩
  · obtain ⟨o',e1⟩:=I.base.there b o e hx
    exact free b o' (neC b o e hx) e1 (I.base.free b o e n hx)
  · obtain ⟨o',e1⟩:=I.base.there b o e hx
    exact there b o' (neC b o e hx) e1
  · obtain ⟨m1,e1⟩:=I.base.tbls b ps e
    obtain ⟨m2,e2⟩:=tbls b _ e1
    exact ⟨m1 ++ m2,by rw [e2,Array.append_assoc]⟩
  · obtain ⟨m,hn,hl⟩:=I.loc
    refine ⟨m,ns m hn,fun i x v e1 e2 e3=>?_⟩
    obtain ⟨u,r,l⟩:=hl i x v e1 e2 e3
    refine ⟨u,r,?_⟩
    rcases l with l | ⟨k,c,e,z⟩
    · exact .inl l
    · exact .inr ⟨k,c,e,cellK x c e _ z⟩
  · obtain ⟨v,z⟩:=I.cell x c e
    exact ⟨v,cellK x c e v z⟩
  · obtain ⟨m,⟨o,_,_,ho,_⟩,_⟩:=I.loc
    exact free _ o (fun z=>(hch _ z).2.1 rfl) ho I.free
  · obtain ⟨v,o,ho,hd⟩:=I.cell x c e
    exact free c o (fun z=>(hch c z).2.2.1 x c e rfl) ho (I.freeC x c e)
  · obtain ⟨e,n,ne,nf,d⟩:=I.pin p hp
    have nch:p.1 ∉ ch:=fun z=>(hch p.1 z).2.2.2 p hp rfl
    exact ⟨keep p.1 p.2 ne nf nch e n,free p.1 p.2 nch e n,ne,nf,d⟩
theorem Inv.un {t':Nat} (I:Inv X pins σ H s) (u:Un X.fs [] H H' s.heap h') (hok:HOk X.prog X.w H' h'):Inv X pins σ H' { s with heap:=h',toks:=t' }:=by
  obtain ⟨m,⟨o,es,ep,ho,r⟩,_⟩:=id I.loc
  obtain ⟨sl,hL⟩:=u.any ho I.free (by simp)
  exact I.step (g':=s.gens) (d':=s.drawn) (ch:=[]) (fun _ z=>nomatch z) (fun b o _ hb _ e n=>u.keep b o e n hb (by simp)) (fun b o _ hb _ e n=>u.slot b o e n hb (by simp)) (fun b o _ e n=>u.free b o e n (by simp)) (fun b o _ e=>u.there b o e (by simp)) u.tups u.frzs u.tbls (fun m' hm=>by
    obtain ⟨o',es',ep',ho',r'⟩:=hm
    rw [ho] at ho'; cases ho'
    exact ⟨_,es',ep',hL,r'⟩) hok I.bare
theorem Inv.call {g':Array GenState} {t':Nat} {d':Drawn} {ch:List Addr} (I:Inv X pins σ H s) (u:Un (frs X.stack) ch H H' s.heap h') (hok:HOk X.prog X.w H' h') (hg:AllBare g')
    (hch:∀ b ∈ ch,(b ∈ X.ex∨X.s₀.heap.objs.size ≤ b)∧b ≠ X.env.locals∧(∀ x c,X.env.cells.lookup x=some c→c ≠ b)∧∀ p ∈ X.pn ++ pins,p.1 ≠ b) :
    Inv X pins σ H' { s with heap:=h',gens:=g',drawn:=d',toks:=t' }:=by
  obtain ⟨m,⟨o,es,ep,ho,r⟩,_⟩:=id I.loc
  obtain ⟨sl,hL⟩:=u.any ho I.free fun z=>(hch _ z).2.1 rfl
  exact I.step (ch:=ch) hch (fun b o hL hb hc e n=>u.keep b o e n (fun z=>(List.mem_cons.mp (I.stkSub b z)).elim hL hb) hc) (fun b o _ _ hc e n=>u.any e n hc) (fun b o hc e n=>u.free b o e n hc) (fun b o hc e=>u.there b o e hc) u.tups u.frzs u.tbls (fun m' hm=>by
    obtain ⟨o',es',ep',ho',r'⟩:=hm
    rw [ho] at ho'; cases ho'
    exact ⟨_,es',ep',hL,r'⟩) hok hg
theorem Inv.turned {t':Nat} {it:Addr} (I:Inv X pins σ H s) (k:∀ b o,b ≠ it→s.heap.get? b=some o→h'.get? b=some o) (hn:H it=none) (hL:it ≠ X.env.locals)
    (h1:it ∈ X.ex∨X.s₀.heap.objs.size ≤ it) (h2:∀ x c,X.env.cells.lookup x=some c→c ≠ it) (h3:∀ p ∈ X.pn ++ pins,p.1 ≠ it):Inv X pins σ H { s with heap:=h',toks:=t' }:=by
  have nit:∀ b u,H b=some u→b ≠ it:=fun b u e z=>by rw [z,hn] at e; cases e
  refine I.step (g':=s.gens) (d':=s.drawn) (ch:=[it]) (fun b hb=>?_) (fun b o _ _ hc e _=>k b o (fun z=>hc (by simp [z])) e) (fun b o _ _ hc e _=>⟨o.slots,k b o (fun z=>hc (by simp [z])) e⟩) (fun _ _ _ _ n=>n)
    (fun b o hc e=>⟨o,k b o (fun z=>hc (by simp [z])) e⟩) (fun _ _ e=>e) (fun _ _ _ e=>e) (fun b ps e=>⟨#[],by rw [e]; simp⟩) (fun m hm=>?_) (fun b u e=>?_) I.bare
  · have e:b=it:=by simpa using hb
    subst e
    exact ⟨h1,hL,h2,h3⟩
  · obtain ⟨o,es,ep,ho,r⟩:=hm
    exact ⟨o,es,ep,k _ o (Ne.symm hL) ho,r⟩
  · refine (I.hok b u e).stay (fun c v hc q=>k c v ?_ q) (fun _ q=>q) fun _ _ q=>q
    rcases hc with z | z
    · rw [z]; exact nit b u e
    · exact nit c _ z
theorem Inv.tok (I:Inv X pins σ H s) (t:Nat):Inv X pins σ H { s with toks:=t }:=I.un (h':=s.heap) (t':=t) Un.refl I.hok
theorem Inv.kept {t':Nat} (I:Inv X pins σ H s) (k:∀ b u,s.heap.get? b=some u→h'.get? b=some u):Inv X pins σ H { s with heap:=h',toks:=t' }:=I.un (Un.kept k) (I.hok.kept k)
theorem Inv.laid {a:Addr} {o:HO} {t':Nat} (I:Inv X pins σ H s) (k:∀ b u,s.heap.get? b=some u→h'.get? b=some u) (hp:s.heap.objs.size ≤ a) (new:ObjOk X.prog X.w (upd H a o) h' a o) :
    Inv X pins σ (upd H a o) { s with heap:=h',toks:=t' }:=I.un (Un.laid k hp (I.hok.fresh hp)) (I.hok.laid k hp new)
theorem Inv.write {x e:Addr} {o:HO} {t':Nat} (I:Inv X pins σ H s) (mu:Mut (H x)) (he:e=x∨H e=some (.own x)) (k:∀ b u,b ≠ e→s.heap.get? b=some u→h'.get? b=some u) (heo:∃ u,h'.get? e=some u)
    (new:ObjOk X.prog X.w (upd H x o) h' x o):Inv X pins σ (upd H x o) { s with heap:=h',toks:=t' }:=I.un (Un.write mu he k heo) (I.hok.write mu he k heo new)
theorem Inv.pins_of {pins':List (Addr × Obj)} (I:Inv X pins σ H s) (h:∀ p ∈ pins',s.heap.get? p.1=some p.2∧H p.1=none∧p.1 ≠ X.env.locals∧p.1 ∉ X.fs∧∀ v,p.2.data ≠ .cell v):Inv X pins' σ H s :=
  ⟨I.ok,I.os,I.bare,I.base,I.loc,I.cell,I.free,I.freeC,fun p hp=>(List.mem_append.mp hp).elim (fun z=>I.pin p (List.mem_append_left _ z)) (h p),I.hok,I.len⟩
theorem nodup_ix {N:List Str} (hN:N.Nodup) {i j:Nat} {x:Str} (a:N[i]? = some x) (b:N[j]? = some x):i=j:=by
  obtain ⟨h1,e1⟩:=List.getElem?_eq_some_iff.mp a
  obtain ⟨h2,e2⟩:=List.getElem?_eq_some_iff.mp b
  exact (List.getElem_inj hN).mp (e1.trans e2.symm)
theorem store_ok2 {M:Model} {A:Around} {E:Value→Shared→Prop} {i:Nat} {x:Str} {v:V} {u:Value} {Q:Unit→Shared→Prop} (I:Inv X pins σ H s) (hN:X.N.Nodup) (hi:X.N[i]? = some x) (hx:Loc X.env.scope x) (r:RelV v u)
    (h:∀ s',Inv X pins (σ.set i (some v)) H s'→(∃ a,Heap.SameBut a s.heap s'.heap∧(a=X.env.locals∨X.env.cells.lookup x=some a))→Q () s') (hf:X.fn x=true∨X.env.scope.names.lookup x=some .local:=by first | exact .inl rfl | exact .inr rfl | assumption):wpAny M A (storeName X.env x u) Q E s:=by
  obtain ⟨m,hn,hl⟩:=id I.loc
  have hcls:(X.env.scope.kind == .class || (X.env.scope.kind == .module && X.env.locals != X.env.globals))=false:=by rw [I.ok.kind]; rfl
  have hiσ:i < σ.length:=by rw [I.len]; exact (List.getElem?_eq_some_iff.mp hi).1
  have cne:=I.cne
  have tracked:∀ {a:Addr} {h':Heap},(∃ o,s.heap.get? a=some o∧H a=none)→Heap.SameBut a s.heap h'→HOk X.prog X.w H h':=fun {a h'} ha hs b ob e=>by
    obtain ⟨_,_,hfree⟩:=ha
    refine (I.hok b ob e).stay (fun c w' hc q=>(hs.2 c ?_).trans q) (fun _ q=>q) fun _ _ q=>q
    rintro rfl
    rcases hc with rfl | hc
    · rw [hfree] at e; cases e
    · rw [hfree] at hc; cases hc
  rcases hx with hk | hk
  · refine wpAny_storeName_local hk hn (fun h' hn' hs=>?_) hcls
    obtain ⟨oL,_,_,hoL,_⟩:=id hn
    refine h _ ⟨I.ok,I.os,I.bare,⟨fun b o e n hb hx=>?_,fun b o e n hb hx=>?_,I.base.free,fun b o e hx=>?_,I.base.tups,I.base.frzs,I.base.tbls⟩,⟨_,hn',fun j y v' e1 e2 e3=>?_⟩,fun y c e=>?_,I.free,I.freeC,fun p hp=>?_,tracked ⟨oL,hoL,I.free⟩ hs,by simpa using I.len⟩ ⟨_,hs, .inl rfl⟩
    · exact (hs.2 b (Nat.ne_of_lt (Nat.lt_of_lt_of_le (Heap.lt_size e) I.ok.above))).trans (I.base.keep b o e n hb hx)
    · obtain ⟨sl,e1⟩:=I.base.slot b o e n hb hx
      exact ⟨sl,(hs.2 b (Nat.ne_of_lt (Nat.lt_of_lt_of_le (Heap.lt_size e) I.ok.above))).trans e1⟩
    · obtain ⟨o',e1⟩:=I.base.there b o e hx
      exact ⟨o',(hs.2 b (Nat.ne_of_lt (Nat.lt_of_lt_of_le (Heap.lt_size e) I.ok.above))).trans e1⟩
    · by_cases hj:j=i
      · subst hj
        rw [hi] at e1; cases e1
        rw [List.getElem?_set_self hiσ] at e2
        cases e2
        exact ⟨u,r, .inl ⟨hk,by simp⟩⟩
      · rw [List.getElem?_set_ne (Ne.symm hj)] at e2
        obtain ⟨u',r',q⟩:=hl j y v' e1 e2 e3
        refine ⟨u',r',?_⟩
        rcases q with ⟨k,e⟩ | ⟨k,c,e,z⟩
        · refine .inl ⟨k,?_⟩
          have:y ≠ x:=fun e=>hj (nodup_ix hN e1 (e ▸ hi))
          simp [this,e]
        · exact .inr ⟨k,c,e,z.sameBut hs (cne y c e)⟩
    · obtain ⟨w',z⟩:=I.cell y c e
      exact ⟨w',z.sameBut hs (cne y c e)⟩
    · obtain ⟨e,n,ne,nf,d⟩:=I.pin p hp
      exact ⟨(hs.2 p.1 ne).trans e,n,ne,nf,d⟩
  · have hfn:X.fn x=true:=by
      rcases hf with z | z
      · exact z
      · rw [z] at hk; cases hk
    obtain ⟨c,hc⟩:=I.ok.has x (.inl hk)
    obtain ⟨w',z⟩:=I.cell x c hc
    refine wpAny_storeName_cell I.ok.kind hk hc z (fun h' hc' hs=>?_)
    obtain ⟨oc,hoc,hocd⟩:=id z
    refine h { s with heap:=h' } ⟨I.ok,I.os,I.bare,⟨fun b o e n hb hx=>?_,fun b o e n hb hx=>?_,I.base.free,fun b o e hx=>?_,I.base.tups,I.base.frzs,I.base.tbls⟩,⟨m,hn.sameBut hs (Ne.symm (cne x c hc)),fun j y v' e1 e2 e3=>?_⟩,fun y c' e=>?_,I.free,I.freeC,fun p hp=>?_,tracked ⟨oc,hoc,I.freeC x c hc⟩ hs,by simpa using I.len⟩ ⟨c,hs, .inr hc⟩
    · exact (hs.2 b (Nat.ne_of_lt (Nat.lt_of_lt_of_le (Heap.lt_size e) (I.ok.cab x c hfn hc)))).trans (I.base.keep b o e n hb hx)
    · obtain ⟨sl,e1⟩:=I.base.slot b o e n hb hx
      exact ⟨sl,(hs.2 b (Nat.ne_of_lt (Nat.lt_of_lt_of_le (Heap.lt_size e) (I.ok.cab x c hfn hc)))).trans e1⟩
    · obtain ⟨o',e1⟩:=I.base.there b o e hx
      exact ⟨o',(hs.2 b (Nat.ne_of_lt (Nat.lt_of_lt_of_le (Heap.lt_size e) (I.ok.cab x c hfn hc)))).trans e1⟩
    · by_cases hj:j=i
      · subst hj
        rw [hi] at e1; cases e1
        rw [List.getElem?_set_self hiσ] at e2
        cases e2
        exact ⟨u,r, .inr ⟨.inl hk,c,hc,hc'⟩⟩
      · rw [List.getElem?_set_ne (Ne.symm hj)] at e2
        obtain ⟨u',r',q⟩:=hl j y v' e1 e2 e3
        refine ⟨u',r',?_⟩
        rcases q with q | ⟨k,c',e,z'⟩
        · exact .inl q
        · refine .inr ⟨k,c',e,z'.sameBut hs ?_⟩
          rintro rfl
          exact hj (nodup_ix hN e1 (I.ok.inj _ _ _ e hc ▸ hi))
    · by_cases hcc:c' = c
      · subst hcc; exact ⟨_,hc'⟩
      · obtain ⟨w2,z2⟩:=I.cell y c' e
        exact ⟨w2,z2.sameBut hs hcc⟩
    · obtain ⟨e,n,ne,nf,d⟩:=I.pin p hp
      refine ⟨(hs.2 p.1 ?_).trans e,n,ne,nf,d⟩
      intro q
      rw [q,hoc] at e
      have q':oc=p.2:=Option.some.inj e
      exact d w' (by rw [← q']; exact hocd)
theorem store_ok {M:Model} {A:Around} {E:Value→Shared→Prop} {i:Nat} {x:Str} {v:V} {u:Value} {Q:Unit→Shared→Prop} (I:Inv X pins σ H s) (hN:X.N.Nodup) (hi:X.N[i]? = some x) (hx:Loc X.env.scope x) (r:RelV v u)
    (h:∀ s',Inv X pins (σ.set i (some v)) H s'→Q () s') (hf:X.fn x=true∨X.env.scope.names.lookup x=some .local:=by first | exact .inl rfl | exact .inr rfl | assumption):wpAny M A (storeName X.env x u) Q E s :=
  store_ok2 I hN hi hx r (fun s' I' _=>h s' I') hf
theorem Inv.call' {s':Shared} {ch:List Addr} (I:Inv X pins σ H s) (ho:s'.os=s.os) (u:Un (frs X.stack) ch H H' s.heap s'.heap) (hok:HOk X.prog X.w H' s'.heap) (hg:AllBare s'.gens)
    (hch:∀ b ∈ ch,(b ∈ X.ex∨X.s₀.heap.objs.size ≤ b)∧b ≠ X.env.locals∧(∀ x c,X.env.cells.lookup x=some c→c ≠ b)∧∀ p ∈ X.pn ++ pins,p.1 ≠ b):Inv X pins σ H' s':=by
  obtain ⟨h',g',d',t',o'⟩:=s'
  have e:o' = s.os:=ho
  subst e
  exact I.call (g':=g') (t':=t') (d':=d') u hok hg hch
end
abbrev XK:=Value→Option Addr→Hp→Prop
abbrev St:=List (Option V)
abbrev VK:=V→Hp→Prop
abbrev TE:=St→Hp→VK→Prop
abbrev TT:=St→Hp→(Bool→Hp→Prop)→Prop
abbrev TA:=St→Hp→(List V→Hp→Prop)→Prop
structure Ends where
  nx:St→Hp→Prop
  rt:VK
  bk:St→Hp→Prop:=fun _ _=>False
  ct:St→Hp→Prop:=fun _ _=>False
abbrev TS:=Ends→St→Hp→Prop
def EP (X:Cx) (pins:List (Addr × Obj)) (σ:St) (Q:VK) (u:Value) (s':Shared):Prop:=∃ v H',Inv X pins σ H' s'∧RelV v u∧Q v H'
def TP (X:Cx) (pins:List (Addr × Obj)) (σ:St) (Q:Bool→Hp→Prop) (b:Bool) (s':Shared):Prop:=∃ H',Inv X pins σ H' s'∧Q b H'
def AP (X:Cx) (pins:List (Addr × Obj)) (σ:St) (Q:List V→Hp→Prop) (us:List Value) (s':Shared):Prop:=∃ vs H',Inv X pins σ H' s'∧Vals vs us∧Q vs H'
def SP (X:Cx) (pins:List (Addr × Obj)) (D:Ends) (f:Flow) (s':Shared):Prop :=
  match f with
  | .next=>∃ σ' H',Inv X pins σ' H' s'∧D.nx σ' H'
  | .brk=>∃ σ' H',Inv X pins σ' H' s'∧D.bk σ' H'
  | .cont=>∃ σ' H',Inv X pins σ' H' s'∧D.ct σ' H'
  | .ret u=>∃ v σ' H',Inv X pins σ' H' s'∧RelV v u∧D.rt v H'
def PE (X:Cx) (e:Expr) (t:TE):Prop :=
  ∀ (pins:List (Addr × Obj)) (s:Shared) (σ:St) (H:Hp) (Q:VK),Inv X pins σ H s→t σ H Q→wpAny (model X.prog X.w) X.A (eval e X.env) (EP X pins σ Q) X.xe s
def PT (X:Cx) (e:Expr) (t:TT):Prop :=
  ∀ (pins:List (Addr × Obj)) (s:Shared) (σ:St) (H:Hp) (Q:Bool→Hp→Prop),Inv X pins σ H s→t σ H Q→wpAny (model X.prog X.w) X.A (isTrue e X.env (eval e X.env)) (TP X pins σ Q) X.xe s
def PW (X:Cx) (e:Expr) (t:TT):Prop :=
  ∀ (whole:Sem Value) (pins:List (Addr × Obj)) (s:Shared) (σ:St) (H:Hp) (Q:Bool→Hp→Prop),Inv X pins σ H s→t σ H Q→wpAny (model X.prog X.w) X.A (isTrue e X.env whole) (TP X pins σ Q) X.xe s
theorem PW.pt {X:Cx} {e:Expr} {t:TT} (h:PW X e t):PT X e t:=h _
def PA (X:Cx) (es:List Expr) (t:TA):Prop :=
  ∀ (pos:Pos) (pins:List (Addr × Obj)) (s:Shared) (σ:St) (H:Hp) (Q:List V→Hp→Prop),Inv X pins σ H s→t σ H Q→wpAny (model X.prog X.w) X.A (spliced (backTo pos (starEach es X.env))) (AP X pins σ Q) X.xe s
def PS (X:Cx) (st:Stmt) (t:TS):Prop :=
  ∀ (pins:List (Addr × Obj)) (s:Shared) (σ:St) (H:Hp) (D:Ends),Inv X pins σ H s→t D σ H→wpAny (model X.prog X.w) X.A (exec st X.env) (SP X pins D) X.xe s
def PSs (X:Cx) (st:List Stmt) (t:TS):Prop :=
  ∀ (pins:List (Addr × Obj)) (s:Shared) (σ:St) (H:Hp) (D:Ends),Inv X pins σ H s→t D σ H→wpAny (model X.prog X.w) X.A (execs st X.env) (SP X pins D) X.xe s
theorem thn {α:Type} {t:Sem α} {Q Q':α→Shared→Prop} {M:Model} {A:Around} {E:Value→Shared→Prop} {s:Shared} (h:wpAny M A t Q E s) (hQ:∀ a s,Q a s→Q' a s):wpAny M A t Q' E s:=wpAny_mono h hQ fun _ _ x=>x
end L2
namespace L2
open PySem PySem.Spec PyProof.Rows
section
variable {X:Cx}
theorem bin {a b:Expr} {ta tb:TE} (ha:PE X a ta) (hb:PE X b tb) {pins:List (Addr × Obj)} {s:Shared} {σ:St} {H:Hp} {R:V→V→Hp→Prop} (I:Inv X pins σ H s) (h:ta σ H fun x H1=>tb σ H1 fun y H2=>R x y H2)
    {α:Type} {Q:α→Shared→Prop} {f:Value→Value→Sem α}
    (hf:∀ v u s2 x y H2,Inv X pins σ H2 s2→RelV x v→RelV y u→R x y H2→wpAny (model X.prog X.w) X.A (f v u) Q X.xe s2) :
    wpAny (model X.prog X.w) X.A (eval a X.env) (fun v s₁=>wpAny (model X.prog X.w) X.A (eval b X.env) (fun u s₂=>wpAny (model X.prog X.w) X.A (f v u) Q X.xe s₂) X.xe s₁) X.xe s:=by
  refine thn (ha pins s σ H _ I h) fun v s1 ⟨x,H1,I1,r1,q1⟩=>?_
  refine thn (hb pins s1 σ H1 _ I1 q1) fun u s2 ⟨y,H2,I2,r2,q2⟩=>?_
  exact hf v u s2 x y H2 I2 r1 r2 q2
def tVar (i:Nat):TE:=fun σ H Q=>∃ v,σ[i]? = some (some v)∧Q v H
def tC (v:V):TE:=fun _ H Q=>Q v H
theorem pe_var {i:Nat} {x:Str} {pos:Pos} (hN:X.N[i]? = some x) (hv:Vis X.env.scope x) (hd:(x == ("__debug__":Str))=false:=by decide) (hcd:(x == ("__classdict__":Str))=false:=by decide):PE X (.Name x pos) (tVar i):=by
  intro pins s σ H Q I h
  obtain ⟨v,e,h⟩:=h
  obtain ⟨m,hn,hl⟩:=I.loc
  obtain ⟨u,r,l⟩:=hl i x v hN e hv
  have fin:EP X pins σ Q u s:=⟨v,H,I,r,h⟩
  rcases l with ⟨hk,hm⟩ | ⟨hk,c,hc,hcell⟩
  · exact wpAny_Name (wpAny_loadName_local I.ok.kind hk hn hm fin) hd
  · rcases hk with hk | hk
    · exact wpAny_Name (wpAny_loadName_cell I.ok.kind hk hc hcell fin) hd
    · exact wpAny_Name (wpAny_loadName_free I.ok.kind hk hc hcell fin hcd) hd
theorem pe_int {i j pos}:PE X (.Constant (.int i) j pos) (tC (.int i)):=fun _ _ _ H _ I h=>wpAny_Constant_int ⟨.int i,H,I.tok _,⟨_,rfl⟩,h⟩
theorem pe_bl {b j pos}:PE X (.Constant (.bool b) j pos) (tC (.bl b)):=fun _ _ _ H _ I h=>Constant_bool ⟨.bl b,H,I,rfl,h⟩
theorem pe_non {j pos}:PE X (.Constant .none j pos) (tC .non):=fun _ _ _ H _ I h=>Constant_none ⟨.non,H,I,rfl,h⟩
theorem pe_str {x j pos}:PE X (.Constant (.str x) j pos) (tC (.str x)):=fun _ _ _ H _ I h=>Calls.Constant_str ⟨.str x,H,I.tok _,⟨_,rfl⟩,h⟩
def Gl (X:Cx) (x:Str):Prop:=X.env.kindOf x=some .globalImplicit
theorem ld_glob {E:Value→Shared→Prop} {pins:List (Addr × Obj)} {s:Shared} {σ:St} {H:Hp} {x:Str} {u:Value} {pos:Pos} {Q:Value→Shared→Prop} (I:Inv X pins σ H s) (hg:Gl X x) (hm:X.mg x=some u) (h:Q u s)
    (hd:(x == ("__debug__":Str))=false:=by decide):wpAny (model X.prog X.w) X.A (eval (.Name x pos) X.env) Q E s :=
  Calls.Name_function_global I.ok.kind hg (Calls.loadGlobal_global (by rw [I.ok.glob]; exact I.mod.glob.keeps I.bk) hm h) hd
theorem ld_blt {E:Value→Shared→Prop} {pins:List (Addr × Obj)} {s:Shared} {σ:St} {H:Hp} {x:Str} {u:Value} {pos:Pos} {Q:Value→Shared→Prop} (I:Inv X pins σ H s) (hg:Gl X x) (hm:X.mg x=none) (hv:bootBuiltins x=some u) (h:Q u s)
    (hn:x ≠ "__name__":=by decide) (hd:(x == ("__debug__":Str))=false:=by decide):wpAny (model X.prog X.w) X.A (eval (.Name x pos) X.env) Q E s:=by
  obtain ⟨mb,h1,h2⟩:=I.mod.blt
  exact Calls.Name_function_global I.ok.kind hg (Calls.loadGlobal_builtin (by rw [I.ok.glob]; exact I.mod.glob.keeps I.bk) hm (by rw [I.ok.blt]; exact h1.keeps I.bk) ((h2 x hn).trans hv) h) hd
theorem pe_glob {x:Str} {v:V} {u:Value} {pos:Pos} (hg:Gl X x) (hm:X.mg x=some u) (r:RelV v u) (hd:(x == ("__debug__":Str))=false:=by decide):PE X (.Name x pos) (tC v) :=
  fun _ _ _ H _ I h=>ld_glob I hg hm ⟨v,H,I,r,h⟩ hd
theorem pe_bltn {x:Str} {v:V} {u:Value} {pos:Pos} (hg:Gl X x) (hm:X.mg x=none) (hv:bootBuiltins x=some u) (r:RelV v u) (hn:x ≠ "__name__":=by decide) (hd:(x == ("__debug__":Str))=false:=by decide):PE X (.Name x pos) (tC v) :=
  fun _ _ _ H _ I h=>ld_blt I hg hm hv ⟨v,H,I,r,h⟩ hn hd
def t2I (ta tb:TE) (k:Int→Int→Hp→Prop):St→Hp→Prop:=fun σ H=>ta σ H fun x H1=>tb σ H1 fun y H2=>∃ i j,x = .int i∧y = .int j∧k i j H2
def tAdd (ta tb:TE):TE:=fun σ H Q=>t2I ta tb (fun i j H2=>Q (.int (i + j)) H2) σ H
def tSub (ta tb:TE):TE:=fun σ H Q=>t2I ta tb (fun i j H2=>Q (.int (i - j)) H2) σ H
def tMul (ta tb:TE):TE:=fun σ H Q=>t2I ta tb (fun i j H2=>(-(2 ^ 64) < i∧i < 2 ^ 64)∧Q (.int (i * j)) H2) σ H
variable {a b:Expr} {ta tb:TE} {pos:Pos}
def PC (X:Cx) (op:CmpOp) (a b:Expr) (t:TE):Prop :=
  ∀ (pins:List (Addr × Obj)) (s:Shared) (σ:St) (H:Hp) (Q:VK),Inv X pins σ H s→t σ H Q →
    wpAny (model X.prog X.w) X.A (eval a X.env) (fun v s₁=>wpAny (model X.prog X.w) X.A (eval b X.env) (fun u s₂=>wpAny (model X.prog X.w) X.A (compareOp op v u) (EP X pins σ Q) X.xe s₂) X.xe s₁) X.xe s
def tCmp (p:Int→Int→Bool) (ta tb:TE):TE:=fun σ H Q=>t2I ta tb (fun i j H2=>Q (.bl (p i j)) H2) σ H
abbrev tLt:TE→TE→TE:=tCmp fun i j=>decide (i < j)
abbrev tLe:TE→TE→TE:=tCmp fun i j=>decide (i ≤ j)
abbrev tGt:TE→TE→TE:=tCmp fun i j=>decide (j < i)
abbrev tGe:TE→TE→TE:=tCmp fun i j=>decide (j ≤ i)
abbrev tEqI:TE→TE→TE:=tCmp fun i j=>decide (i=j)
abbrev tNeI:TE→TE→TE:=tCmp fun i j=>!decide (i=j)
def tIsN (ta:TE):TE:=fun σ H Q=>ta σ H fun x H1=>Q (.bl (decide (x = .non))) H1
def tNotN (ta:TE):TE:=fun σ H Q=>ta σ H fun x H1=>Q (.bl (!decide (x = .non))) H1
def tB (t:TE):TT:=fun σ H Q=>t σ H fun x H1=>∃ c,x = .bl c∧Q c H1
theorem pt_cmp {op:CmpOp} {t:TE} (h:PC X op a b t) (h1:behindInMarks op b=false:=by first | exact nobehind _ (by decide) (by decide) | rfl):PT X (.Compare a [op] [b] pos) (tB t):=by
  intro pins s σ H Q I hw
  refine wpAny_isTrue_Compare1 (thn (h pins s σ H _ I hw) fun v s1 h1=>thn h1 fun u s2 h2=>thn h2 fun c s3 ⟨x,H1,I1,r1,q1⟩=>?_) h1
  obtain ⟨d,rfl,q⟩:=q1
  cases r1
  exact wpAny_truthy_bool ⟨H1,I1,q⟩
theorem pt_val {e:Expr} {t:TE} (h:PE X e t) (he:∀ whole,isTrue e X.env whole=(do let v ← whole; standAt e.pos; holding [v] (truthy v)):=by intro _; rfl):PT X e (tB t):=by
  intro pins s σ H Q I hw
  refine isTrue_plain (thn (h pins s σ H _ I hw) fun v s1 ⟨x,H1,I1,r1,q1⟩=>?_) (he _)
  obtain ⟨d,rfl,q⟩:=q1
  cases r1
  exact wpAny_truthy_bool ⟨H1,I1,q⟩
variable {tA tB':TT} {rest:List Expr}
def tAnd (t u:TT):TT:=fun σ H Q=>t σ H fun c H1=>if c=true then u σ H1 Q else Q false H1
def tOr (t u:TT):TT:=fun σ H Q=>t σ H fun c H1=>if c=true then Q true H1 else u σ H1 Q
def tNot (t:TT):TT:=fun σ H Q=>t σ H fun c H1=>Q (!c) H1
theorem pw_and1 (ha:PT X a tA):PW X (.BoolOp .And [a] pos) tA:=by
  intro wh pins s σ H Q I h
  refine isTrue_and (thn (ha pins s σ H Q I h) fun c s1 e=>?_)
  cases c with
  | true=>exact isTrue_and_nil e
  | false=>exact e
theorem pw_or1 (ha:PT X a tA):PW X (.BoolOp .Or [a] pos) tA:=by
  intro wh pins s σ H Q I h
  refine isTrue_or (thn (ha pins s σ H Q I h) fun c s1 e=>?_)
  cases c with
  | false=>exact isTrue_or_nil e
  | true=>exact e
theorem pw_and (ha:PT X a tA) (hb:PW X (.BoolOp .And (b :: rest) pos) tB'):PW X (.BoolOp .And (a :: b :: rest) pos) (tAnd tA tB'):=by
  intro wh pins s σ H Q I h
  refine isTrue_and (thn (ha pins s σ H _ I h) fun c s1 ⟨H1,I1,q1⟩=>?_)
  cases c with
  | true=>exact hb wh pins s1 σ H1 Q I1 q1
  | false=>exact ⟨H1,I1,q1⟩
theorem pw_or (ha:PT X a tA) (hb:PW X (.BoolOp .Or (b :: rest) pos) tB'):PW X (.BoolOp .Or (a :: b :: rest) pos) (tOr tA tB'):=by
  intro wh pins s σ H Q I h
  refine isTrue_or (thn (ha pins s σ H _ I h) fun c s1 ⟨H1,I1,q1⟩=>?_)
  cases c with
  | true=>exact ⟨H1,I1,q1⟩
  | false=>exact hb wh pins s1 σ H1 Q I1 q1
theorem pt_not (ha:PT X a tA):PT X (.UnaryOp .Not a pos) (tNot tA):=by
  intro pins s σ H Q I h
  exact isTrue_not (ha pins s σ H (fun c H1=>Q (!c) H1) I h)
def tAndV (ta tb:TE):TE:=fun σ H Q=>ta σ H fun x H1=>∃ c,x = .bl c∧if c=true then tb σ H1 Q else Q (.bl false) H1
def tOrV (ta tb:TE):TE:=fun σ H Q=>ta σ H fun x H1=>∃ c,x = .bl c∧if c=true then Q (.bl true) H1 else tb σ H1 Q
def tNotV (ta:TE):TE:=fun σ H Q=>ta σ H fun x H1=>∃ c,x = .bl c∧Q (.bl (!c)) H1
theorem pe_one {op} {t:TE} (h:PE X a t):PE X (.BoolOp op [a] pos) t:=fun pins s σ H Q I hw=>BoolOp_one (h pins s σ H Q I hw)
theorem pe_and (ha:PE X a ta) (hb:PE X (.BoolOp .And (b :: rest) pos) tb):PE X (.BoolOp .And (a :: b :: rest) pos) (tAndV ta tb):=by
  intro pins s σ H Q I h
  refine BoolOp_and (thn (ha pins s σ H _ I h) fun v s1 ⟨x,H1,I1,r1,q1⟩=>?_)
  obtain ⟨c,rfl,q1⟩:=q1
  cases r1
  refine wpAny_truthy_bool ?_
  cases c with
  | true=>exact hb pins s1 σ H1 Q I1 q1
  | false=>exact ⟨.bl false,H1,I1,rfl,q1⟩
theorem pe_or (ha:PE X a ta) (hb:PE X (.BoolOp .Or (b :: rest) pos) tb):PE X (.BoolOp .Or (a :: b :: rest) pos) (tOrV ta tb):=by
  intro pins s σ H Q I h
  refine BoolOp_or (thn (ha pins s σ H _ I h) fun v s1 ⟨x,H1,I1,r1,q1⟩=>?_)
  obtain ⟨c,rfl,q1⟩:=q1
  cases r1
  refine wpAny_truthy_bool ?_
  cases c with
  | false=>exact hb pins s1 σ H1 Q I1 q1
  | true=>exact ⟨.bl true,H1,I1,rfl,q1⟩
theorem pe_not (ha:PE X a ta):PE X (.UnaryOp .Not a pos) (tNotV ta):=by
  intro pins s σ H Q I h
  refine UnaryOp_ (thn (ha pins s σ H _ I h) fun v s1 ⟨x,H1,I1,r1,q1⟩=>?_)
  obtain ⟨c,rfl,q1⟩:=q1
  cases r1
  exact not_of (wpAny_truthy_bool ⟨.bl (!c),H1,I1,rfl,q1⟩)
def tIf (t:TT) (ta tb:TE):TE:=fun σ H Q=>t σ H fun c H1=>if c=true then ta σ H1 Q else tb σ H1 Q
theorem pe_ifExp {c:Expr} (hc:PT X c tA) (ha:PE X a ta) (hb:PE X b tb):PE X (.IfExp c a b pos) (tIf tA ta tb):=by
  intro pins s σ H Q I h
  refine wpAny_IfExp (thn (hc pins s σ H _ I h) fun d s1 ⟨H1,I1,q1⟩=>?_)
  cases d with
  | true=>exact ha pins s1 σ H1 Q I1 q1
  | false=>exact hb pins s1 σ H1 Q I1 q1
end
end L2
namespace L2
open PySem PySem.Spec PyProof.Rows
def SqL (K:PySem.W.Frag) (H:Hp) (a:Addr) (xs:List V):Prop :=
  Rd H a (.lst xs) ∨
    ∃ (o:Obj) (its:Array Value) (n:Nat),K.lookup a=some o∧o.cls = .type "list"∧o.dict=none∧o.data = .seq its n∧its.size ≤ sizeLine∧Vals xs its.toList
def SqT (K:PySem.W.Frag) (H:Hp) (a:Addr) (xs:List V):Prop :=
  Rd H a (.tup xs) ∨
    ∃ (o:Obj) (its:Array Value) (n:Nat),K.lookup a=some o∧o.cls = .type "tuple"∧o.data = .seq its n∧its.size ≤ sizeLine∧Vals xs its.toList
def absV:Value→Option V
  | .none=>some .non
  | .bool b=>some (.bl b)
  | .int i _=>some (.int i)
  | .str x _=>some (.str x)
  | .bytes b _=>some (.byt b)
  | .float b _=>some (.flt b)
  | .ref a=>some (.ref a)
  | .type n=>some (.ty n)
  | _=>none
theorem RelV.abs {x:V} {u:Value} (r:RelV x u):absV u=some x:=by
  cases x with
  | non=>cases r; rfl
  | bl _=>cases r; rfl
  | int _=>obtain ⟨t,rfl⟩:=r; rfl
  | str _=>obtain ⟨t,rfl⟩:=r; rfl
  | byt _=>obtain ⟨t,rfl⟩:=r; rfl
  | flt _=>obtain ⟨t,rfl⟩:=r; rfl
  | ref _=>cases r; rfl
  | ty _=>cases r; rfl
theorem RelV.inj {x y:V} {u:Value} (r:RelV x u) (q:RelV y u):x=y:=Option.some.inj (r.abs.symm.trans q.abs)
theorem Vals.inj:∀ {xs ys:List V} {us:List Value},Vals xs us→Vals ys us→xs=ys
  | _,_,_, .nil, .nil=>rfl
  | _,_,_, .cons r t, .cons r' t'=>by rw [r.inj r',Vals.inj t t']
section
variable {X:Cx} {pins:List (Addr × Obj)} {σ:St} {H:Hp} {s:Shared} {a:Addr} {xs ys:List V}
theorem SqL.of {K:PySem.W.Frag} (h:H a=some (.lst xs)):SqL K H a xs := .inl (.inl h)
theorem SqT.of {K:PySem.W.Frag} (h:H a=some (.tup xs)):SqT K H a xs := .inl (.inl h)
theorem Inv.list (I:Inv X pins σ H s) (h:SqL X.K H a xs):∃ its:List Value,Vals xs its∧PlainL s.heap a its.toArray∧xs.length ≤ sizeLine:=by
  rcases h with h | ⟨o,its,n,hk,hc,hd,hs,hz,r⟩
  · obtain ⟨z,its,n,r,e⟩:=h.ok I.hok
    exact ⟨its,r,⟨_,n,e,rfl,rfl,rfl⟩,z⟩
  · refine ⟨its.toList,r,⟨o,n,I.kIn a o hk,hc,hd,by simpa using hs⟩,?_⟩
    have e:=r.length
    simp only [Array.length_toList] at e
    omega
theorem Inv.tuple (I:Inv X pins σ H s) (h:SqT X.K H a xs):∃ its:List Value,Vals xs its∧IsTup s.heap a its.toArray∧xs.length ≤ sizeLine:=by
  rcases h with h | ⟨o,its,n,hk,hc,hs,hz,r⟩
  · obtain ⟨z,its,r,p⟩:=h.ok I.hok
    exact ⟨its,r,p.isTup,z⟩
  · refine ⟨its.toList,r,⟨o,I.kIn a o hk,hc,n,by simpa using hs⟩,?_⟩
    have e:=r.length
    simp only [Array.length_toList] at e
    omega
theorem Inv.list_inj (I:Inv X pins σ H s) (h:SqL X.K H a xs) (h':SqL X.K H a ys):xs=ys:=by
  obtain ⟨its,r,⟨o,n,e,_,_,d⟩,_⟩:=I.list h
  obtain ⟨its',r',⟨o',n',e',_,_,d'⟩,_⟩:=I.list h'
  rw [e] at e'; cases e'
  rw [d] at d'
  injection d' with d1 _
  have:its=its':=by simpa using congrArg Array.toList d1
  subst this
  exact r.inj r'
theorem Inv.tuple_inj (I:Inv X pins σ H s) (h:SqT X.K H a xs) (h':SqT X.K H a ys):xs=ys:=by
  obtain ⟨its,r,⟨o,e,_,n,d⟩,_⟩:=I.tuple h
  obtain ⟨its',r',⟨o',e',_,n',d'⟩,_⟩:=I.tuple h'
  rw [e] at e'; cases e'
  rw [d] at d'
  injection d' with d1 _
  have:its=its':=by simpa using congrArg Array.toList d1
  subst this
  exact r.inj r'
end
abbrev Cx.wish (X:Cx) (E:Value→Shared→Prop):Cx:={ X with xe:=E }
abbrev Cx.nox (X:Cx):Cx:=X.wish fun _ _=>False
theorem Cx.Ok.wish {X:Cx} (ok:X.Ok) (E:Value→Shared→Prop):(X.wish E).Ok :=
  ⟨ok.mod,ok.kind,ok.glob,ok.blt,ok.above,ok.inj,ok.has,ok.cab,ok.hd,ok.frames,ok.stk,ok.exf,ok.bs,ok.bsz,ok.noex,ok.exfs,ok.funs,ok.frf⟩
theorem Cx.Ok.unwish {X:Cx} {E:Value→Shared→Prop} (ok:(X.wish E).Ok):X.Ok :=
  ⟨ok.mod,ok.kind,ok.glob,ok.blt,ok.above,ok.inj,ok.has,ok.cab,ok.hd,ok.frames,ok.stk,ok.exf,ok.bs,ok.bsz,ok.noex,ok.exfs,ok.funs,ok.frf⟩
section
variable {X:Cx} {pins:List (Addr × Obj)} {σ:St} {H:Hp} {s:Shared} {E:Value→Shared→Prop}
theorem Inv.wish (I:Inv X pins σ H s) (E:Value→Shared→Prop):Inv (X.wish E) pins σ H s:=⟨I.ok.wish E,I.os,I.bare,I.base,I.loc,I.cell,I.free,I.freeC,I.pin,I.hok,I.len⟩
theorem Inv.unwish (I:Inv (X.wish E) pins σ H s):Inv X pins σ H s:=⟨I.ok.unwish,I.os,I.bare,I.base,I.loc,I.cell,I.free,I.freeC,I.pin,I.hok,I.len⟩
theorem SP.unwish {D:Ends} {f:Flow} {s':Shared} (h:SP (X.wish E) pins D f s'):SP X pins D f s':=by
  cases f with
  | next=>obtain ⟨σ',H',I,q⟩:=h; exact ⟨σ',H',I.unwish,q⟩
  | brk=>obtain ⟨σ',H',I,q⟩:=h; exact ⟨σ',H',I.unwish,q⟩
  | cont=>obtain ⟨σ',H',I,q⟩:=h; exact ⟨σ',H',I.unwish,q⟩
  | ret u=>obtain ⟨v,σ',H',I,r,q⟩:=h; exact ⟨v,σ',H',I.unwish,r,q⟩
theorem PSs.nox {st:List Stmt} {t:TS} (h:PSs X.nox st t):PSs X st t:=fun pins s σ H D I hw =>
  wpAny_mono (h pins s σ H D (I.wish _) hw) (fun _ _ q=>q.unwish) fun _ _ z=>False.elim z
end
section
variable {X:Cx} {st:Stmt} {rest:List Stmt} {t u:TS} {e:Expr} {te:TE} {pos:Pos}
def tNext:TS:=fun D σ H=>D.nx σ H
def tSeq (t u:TS):TS:=fun D σ H=>t { D with nx:=u D } σ H
theorem pss_nil:PSs X [] tNext:=fun _ _ σ H _ I h=>wpAny_execs_nil ⟨σ,H,I,h⟩
theorem pss_cons (h1:PS X st t) (h2:PSs X rest u):PSs X (st :: rest) (tSeq t u):=by
  intro pins s σ H D I h
  refine wpAny_execs_cons (thn (h1 pins s σ H { D with nx:=u D } I h) fun f s1 q=>?_)
  cases f with
  | next =>
    obtain ⟨σ',H',I',q⟩:=q
    exact h2 pins s1 σ' H' D I' q
  | ret v=>exact q
  | brk=>exact q
  | cont=>exact q
theorem pss_one (h1:PS X st t):PSs X [st] t:=by
  intro pins s σ H D I h
  refine wpAny_execs_cons (thn (h1 pins s σ H D I h) fun f s1 q=>?_)
  cases f with
  | next=>exact wpAny_execs_nil q
  | ret v=>exact q
  | brk=>exact q
  | cont=>exact q
def tBreak:TS:=fun D σ H=>D.bk σ H
def tCont:TS:=fun D σ H=>D.ct σ H
theorem Inv.quiet {pins:List (Addr × Obj)} {σ:St} {H:Hp} {s:Shared} (I:Inv X pins σ H s):interactive X.env=false:=by simp [interactive,I.ok.kind]
def tDrop (te:TE):TS:=fun D σ H=>te σ H fun _ H1=>D.nx σ H1
theorem ps_expr (he:PE X e te) (hs:swapsWith e none pos.line X.env=pure false:=by rfl):PS X (.Expr e pos) (tDrop te):=by
  intro pins s σ H D I h
  exact wpAny_Expr_any (thn (he pins s σ H _ I h) fun v s1 ⟨x,H1,I1,r1,q1⟩=>⟨σ,H1,I1,q1⟩) I.quiet hs
def tRet (te:TE):TS:=fun D σ H=>te σ H D.rt
theorem ps_ret (he:PE X e te):PS X (.Return (some e) pos) (tRet te):=by
  intro pins s σ H D I h
  exact wpAny_Return_some (thn (he pins s σ H _ I h) fun v s1 ⟨x,H1,I1,r1,q1⟩=>⟨x,σ,H1,I1,r1,q1⟩)
def tRetN:TS:=fun D _ H=>D.rt .non H
def tIfS (c:TT) (t u:TS):TS:=fun D σ H=>c σ H fun b H1=>if b=true then t D σ H1 else u D σ H1
theorem ps_if {c:Expr} {a b:List Stmt} {tc:TT} (hc:PT X c tc) (ha:PSs X a t) (hb:PSs X b u):PS X (.If c a b pos) (tIfS tc t u):=by
  intro pins s σ H D I h
  refine wpAny_If (thn (hc pins s σ H _ I h) fun d s1 ⟨H1,I1,q1⟩=>?_)
  cases d with
  | true=>exact ha pins s1 σ H1 D I1 q1
  | false=>exact hb pins s1 σ H1 D I1 q1
def tNever:TS:=fun _ _ _=>False
end
abbrev TG:=V→St→Hp→(St→Hp→Prop)→Prop
abbrev TGs:=List V→St→Hp→(St→Hp→Prop)→Prop
def PG (X:Cx) (target:Expr) (t:TG):Prop :=
  ∀ (pins:List (Addr × Obj)) (s:Shared) (σ:St) (H:Hp) (v:V) (u:Value) (Q:St→Hp→Prop),Inv X pins σ H s→RelV v u→t v σ H Q →
    wpAny (model X.prog X.w) X.A (assign target X.env u) (fun _ s'=>∃ σ' H',Inv X pins σ' H' s'∧Q σ' H') X.xe s
def PGs (X:Cx) (ts:List Expr) (t:TGs):Prop :=
  ∀ (pins:List (Addr × Obj)) (s:Shared) (σ:St) (H:Hp) (vs:List V) (us:List Value) (Q:St→Hp→Prop),Inv X pins σ H s→Vals vs us→t vs σ H Q →
    wpAny (model X.prog X.w) X.A (assignInOrder ((assignEach ts X.env).map (·.2)) us) (fun _ s'=>∃ σ' H',Inv X pins σ' H' s'∧Q σ' H') X.xe s
abbrev TSet:=V→V→V→Hp→(Hp→Prop)→Prop
def PSet (X:Cx) (t:TSet):Prop :=
  ∀ (pins:List (Addr × Obj)) (s:Shared) (σ:St) (H:Hp) (o i v:V) (ov iv u:Value) (Q:Hp→Prop),Inv X pins σ H s→RelV o ov→RelV i iv→RelV v u→t o i v H Q →
    wpAny (model X.prog X.w) X.A (setItem ov iv u) (fun _ s'=>∃ H',Inv X pins σ H' s'∧Q H') X.xe s
abbrev TIp:=V→V→Hp→VK→Prop
def PIp (X:Cx) (op:Operator) (t:TIp):Prop :=
  ∀ (pins:List (Addr × Obj)) (s:Shared) (σ:St) (H:Hp) (x y:V) (v u:Value) (Q:VK),Inv X pins σ H s→RelV x v→RelV y u→t x y H Q →
    wpAny (model X.prog X.w) X.A (inplaceOp op v u) (EP X pins σ Q) X.xe s
section
variable {X:Cx} {pos:Pos}
def gName (i:Nat):TG:=fun v σ H Q=>Q (σ.set i (some v)) H
theorem pg_name {i:Nat} {x:Str} (hN:X.N.Nodup) (hi:X.N[i]? = some x) (hx:Loc X.env.scope x) (hf:X.fn x=true∨X.env.scope.names.lookup x=some .local:=by first | exact .inl rfl | exact .inr rfl | assumption):PG X (.Name x pos) (gName i):=by
  intro pins s σ H v u Q I r h
  exact wpAny_assign_Name (store_ok I hN hi hx r (fun s' I'=>⟨_,H,I',h⟩) hf)
def gNil:TGs:=fun vs σ H Q=>vs=[]∧Q σ H
def gCons (t:TG) (u:TGs):TGs:=fun vs σ H Q=>∃ v r,vs=v :: r∧t v σ H fun σ' H'=>u r σ' H' Q
theorem pgs_nil:PGs X [] gNil:=by
  intro pins s σ H vs us Q I r h
  obtain ⟨e,h⟩:=h
  subst e
  cases r
  exact assignInOrder_nil ⟨σ,H,I,h⟩
theorem pgs_cons {e:Expr} {es:List Expr} {t:TG} {u:TGs} (h1:PG X e t) (h2:PGs X es u)
    (hs:(assignEach (e :: es) X.env).map (·.2)=assign e X.env :: (assignEach es X.env).map (·.2):=by rfl):PGs X (e :: es) (gCons t u):=by
  intro pins s σ H vs us Q I r h
  obtain ⟨v,vr,e1,h⟩:=h
  subst e1
  cases r with
  | cons r rr =>
    rw [hs]
    refine assignInOrder_cons (thn (h1 pins s σ H _ _ _ I r h) fun _ s1 ⟨σ1,H1,I1,q1⟩=>?_)
    exact h2 pins s1 σ1 H1 _ _ Q I1 rr q1
def gTup (K:PySem.W.Frag) (n:Nat) (t:TGs):TG:=fun v σ H Q=>∃ a xs,v = .ref a∧SqT K H a xs∧xs.length=n∧t xs σ H Q
theorem pg_tup {es:List Expr} {k:Nat} {t:TGs} {n:Nat} (hc:X.calm=true) (h:PGs X es t)
    (hn:(assignEach es X.env).length=n:=by rfl) (hst:(assignEach es X.env).findIdx? (·.1)=none:=by rfl):PG X (.Tuple es k pos) (gTup X.K n t):=by
  intro pins s σ H v u Q I r hw
  obtain ⟨a,xs,e1,hq,hl,hw⟩:=hw
  subst e1
  cases r
  obtain ⟨its,rv,ht,hz⟩:=I.tuple hq
  refine assign_Tuple_tuple (I.ok.hd hc) ht (by simp [hn,← hl,rv.length]) hst fun h' hx=>?_
  have I1:Inv X pins σ H { s with heap:=h' }:=I.kept (t':=s.toks) fun b o e=>hx b o (Nat.ne_of_lt (Heap.lt_size e)) e
  exact h pins _ σ H xs _ Q I1 (by simpa using rv) hw
def gSub (to ti:TE) (t:TSet):TG:=fun v σ H Q=>to σ H fun o H1=>ti σ H1 fun i H2=>t o i v H2 fun H3=>Q σ H3
theorem pg_sub {o i:Expr} {to ti:TE} {t:TSet} (ho:PE X o to) (hi:PE X i ti) (hs:PSet X t)
    (ha:∀ v,assign (.Subscript o i pos) X.env v=(do
      let ov ← holding [v] (eval o X.env)
      let iv ← holding [v,ov] (eval i X.env)
      standAt pos
      holding [v,ov,iv] (setItem ov iv v)
      release [v,ov,iv] []):=by intro _; rfl):PG X (.Subscript o i pos) (gSub to ti t):=by
  intro pins s σ H v u Q I r h
  rw [ha]
  refine wpAny_bind (wpAny_holding (thn (ho pins s σ H _ I h) fun ov s1 ⟨x,H1,I1,r1,q1⟩=>?_))
  refine wpAny_bind (wpAny_holding (thn (hi pins s1 σ H1 _ I1 q1) fun iv s2 ⟨y,H2,I2,r2,q2⟩=>?_))
  refine wpAny_bind (wpAny_standAt (wpAny_bind (wpAny_holding (thn (hs pins s2 σ H2 x y v ov iv u _ I2 r1 r2 r q2) fun _ s3 ⟨H3,I3,q3⟩=>?_))))
  exact wpAny_release ⟨σ,H3,I3,q3⟩
def tAsg (te:TE) (g:TG):TS:=fun D σ H=>te σ H fun x H1=>g x σ H1 D.nx
theorem ps_asg {tg e:Expr} {te:TE} {g:TG} (he:PE X e te) (hg:PG X tg g) (hs:swapsWithSole [tg] e pos.line X.env=pure false:=by rfl) (hw:swappedStores [tg] e X.env=pure none:=by rfl)
    (h1:(assignEach [tg] X.env).map (·.2)=[assign tg X.env]:=by rfl):PS X (.Assign [tg] e pos) (tAsg te g):=by
  intro pins s σ H D I h
  refine wpAny_Assign_stores (thn (he pins s σ H _ I h) fun v s1 ⟨x,H1,I1,r1,q1⟩=>?_) hs hw
  rw [h1]
  exact thn (hg pins s1 σ H1 x v _ I1 r1 q1) fun _ s2 q=>q
theorem ps_set {i:Nat} {x:Str} {e:Expr} {te:TE} {pos':Pos} (hN:X.N.Nodup) (hi:X.N[i]? = some x) (hx:Loc X.env.scope x) (he:PE X e te) (hs:swapsWith e (some (.Name x pos')) pos.line X.env=pure false:=by rfl) (hf:X.fn x=true∨X.env.scope.names.lookup x=some .local:=by first | exact .inl rfl | exact .inr rfl | assumption) :
    PS X (.Assign [.Name x pos'] e pos) (tAsg te (gName i)):=by
  intro pins s σ H D I h
  refine wpAny_Assign_Name (thn (he pins s σ H _ I h) fun v s1 ⟨y,H1,I1,r1,q1⟩=>?_) hs
  exact store_ok I1 hN hi hx r1 (fun s2 I2=>⟨_,H1,I2,q1⟩) hf
def tPar (i j:Nat) (ta:TA):TS:=fun D σ H=>ta σ H fun vs H1=>∃ v w,vs=[v,w]∧D.nx ((σ.set i (some v)).set j (some w)) H1
def tAug (i:Nat) (te:TE) (ti:TIp):TS:=fun D σ H=>∃ x,σ[i]? = some (some x)∧te σ H fun y H1=>ti x y H1 fun z H2=>D.nx (σ.set i (some z)) H2
def tAugS (to ti te:TE) (tget:V→V→Hp→VK→Prop) (tip:TIp) (tset:TSet):TS:=fun D σ H=>to σ H fun o H1=>ti σ H1 fun i H2=>tget o i H2 fun x H3=>te σ H3 fun y H4=>tip x y H4 fun z H5=>tset o i z H5 fun H6=>D.nx σ H6
def PGet (X:Cx) (t:V→V→Hp→VK→Prop):Prop :=
  ∀ (pins:List (Addr × Obj)) (s:Shared) (σ:St) (H:Hp) (o i:V) (ov iv:Value) (Q:VK),Inv X pins σ H s→RelV o ov→RelV i iv→t o i H Q →
    wpAny (model X.prog X.w) X.A (getItem ov iv) (EP X pins σ Q) X.xe s
def ipI (f:Int→Int→Int):TIp:=fun x y H Q=>∃ i j,x = .int i∧y = .int j∧Q (.int (f i j)) H
end
section
variable {X:Cx} {pos:Pos}
def tWhile (c:TT) (tb:TS):TS:=fun D σ H=>∃ W:Nat→St→Hp→Prop,(∃ m,W m σ H)∧∀ m σ H,W m σ H →
  c σ H fun b H1=>if b=true then ∃ N:St→Hp→Prop,(∀ σ' H',N σ' H'→∃ m',m' < m∧W m' σ' H')∧tb { D with nx:=N,ct:=N,bk:=D.nx } σ H1 else D.nx σ H1
end
structure It where
  go:Nat→Hp→Prop
  yld:Nat→Hp→V→Hp→Prop
  stop:Nat→Hp→Prop
def FpOk (X:Cx) (pins:List (Addr × Obj)) (H:Hp) (b:Addr):Prop :=
  H b=none∧b ≠ X.env.locals∧b ∉ X.fs∧(b ∈ X.ex∨X.s₀.heap.objs.size ≤ b)∧(∀ x c,X.env.cells.lookup x=some c→c ≠ b)∧∀ p ∈ X.pn ++ pins,p.1 ≠ b
theorem Inv.fpOk {X:Cx} {pins:List (Addr × Obj)} {σ:St} {H H':Hp} {s:Shared} {b:Addr} (I:Inv X pins σ H s) (hb:s.heap.objs.size ≤ b) (hn:H' b=none):FpOk X pins H' b:=by
  refine ⟨hn,Nat.ne_of_gt (Nat.lt_of_lt_of_le I.lt hb),I.nofs hb, .inr (Nat.le_trans I.sz hb),fun x c e z=>?_,fun p hp z=>?_⟩
  · obtain ⟨v,q⟩:=I.cell x c e
    exact absurd (Nat.lt_of_lt_of_le q.lt (by rw [z]; exact hb)) (Nat.lt_irrefl _)
  · exact absurd (Nat.lt_of_lt_of_le (Heap.lt_size (I.pin p hp).1) (by rw [z]; exact hb)) (Nat.lt_irrefl _)
structure Turn (P:Program) (w:World) (K:PySem.W.Frag) (tg:Expr) (J:It) (fp:List Addr) (it:Addr) (tn:Nat→Heap→Prop):Prop where
  mem:it ∈ fp
  obj:∀ i h,tn i h→∀ b ∈ fp,∃ o,h.get? b=some o∧∀ v,o.data ≠ .cell v
  keep:∀ i h h',tn i h→(∀ b ∈ fp,∀ o,h.get? b=some o→h'.get? b=some o)→tn i h'
  item:∀ (X:Cx),X.prog=P→X.w=w→X.K=K→X.calm=true→∀ (i:Nat) (pins:List (Addr × Obj)) (s:Shared) (σ:St) (H:Hp) (E:Value→Shared→Prop),Inv X pins σ H s→(∀ b ∈ fp,FpOk X pins H b)→tn i s.heap→J.go i H →
    wpAny (model P w) X.A (pyNext (.ref it)) (fun r s1=>∃ u,r=some u ∧
      wpAny (model P w) X.A (letOwnedTupleGo tg (.ref it) u) (fun _ s2=>∃ x H',Inv X pins σ H' s2∧RelV x u∧J.yld i H x H'∧tn (i + 1) s2.heap∧∀ b ∈ fp,H' b=none) E s1) E s
  done:∀ (X:Cx),X.prog=P→X.w=w→X.K=K→X.calm=true→∀ (i:Nat) (pins:List (Addr × Obj)) (s:Shared) (σ:St) (H:Hp) (E:Value→Shared→Prop),Inv X pins σ H s→(∀ b ∈ fp,FpOk X pins H b)→tn i s.heap→J.stop i H →
    wpAny (model P w) X.A (pyNext (.ref it)) (fun r s1=>r=none∧Inv X pins σ H s1) E s
  self:∀ (A:Around) (i:Nat) (s:Shared) (Q:Value→Shared→Prop) (E:Value→Shared→Prop),tn i s.heap→Q (.ref it) s→wpAny (model P w) A (pyIter (.ref it)) Q E s
abbrev TI:=St→Hp→(It→Hp→Prop)→Prop
def PIE (X:Cx) (pins:List (Addr × Obj)) (σ:St) (tg:Expr) (R:It→Hp→Prop) (itv:Value) (s2:Shared):Prop :=
  ∃ (it:Addr) (fp:List Addr) (tn:Nat→Heap→Prop) (J:It) (H':Hp),itv = .ref it∧Inv X pins σ H' s2∧Turn X.prog X.w X.K tg J fp it tn∧tn 0 s2.heap∧(∀ b ∈ fp,FpOk X pins H' b)∧R J H'
def PI (X:Cx) (tg iter:Expr) (wi:TI):Prop :=
  ∀ (pins:List (Addr × Obj)) (s:Shared) (σ:St) (H:Hp) (R:It→Hp→Prop),Inv X pins σ H s→wi σ H R →
    wpAny (model X.prog X.w) X.A (eval iter X.env) (fun v s1=>wpAny (model X.prog X.w) X.A (pyIter v) (PIE X pins σ tg R) X.xe s1) X.xe s
theorem go_of {M:Model} {A:Around} {E:Value→Shared→Prop} {s:Shared} {tg:Expr} {it:Addr} {u:Value} {o:Obj} {n:String} {vs:Array Value} {Q:Unit→Shared→Prop} (ho:s.heap.get? it=some o) (hc:o.cls = .type n) (hd:o.data = .fields vs)
    (hn:["enumerate", "zip", "dict_itemiterator", "dict_reverseitemiterator", "odict_iterator", "itertools.zip_longest", "itertools.pairwise"].contains n=false) (hQ:Q () s):wpAny M A (letOwnedTupleGo tg (.ref it) u) Q E s:=by
  unfold letOwnedTupleGo
  cases tg <;> first
    | exact wpAny_pure hQ
    | (cases u <;> first
        | exact wpAny_pure hQ
        | (refine wpAny_bind (wpAny_load ho ?_)
           rw [hc,hd]
           show wpAny M A (if (["enumerate", "zip", "dict_itemiterator", "dict_reverseitemiterator", "odict_iterator", "itertools.zip_longest", "itertools.pairwise"].contains n && vs[0]? == some (rawInt _))=true then _ else _) Q E s
           rw [if_neg (by intro h; rw [hn,Bool.false_and] at h; cases h)]
           exact wpAny_pure hQ))
def Itl (K:PySem.W.Frag) (a:Addr):It :=
  ⟨fun i H=>∃ xs x,SqL K H a xs∧xs[i]? = some x,fun i H x H'=>H' = H∧∀ xs,SqL K H a xs→xs[i]? = some x,fun i H=>∃ xs,SqL K H a xs∧xs.length ≤ i⟩
def Itt (K:PySem.W.Frag) (a:Addr):It :=
  ⟨fun i H=>∃ xs x,SqT K H a xs∧xs[i]? = some x,fun i H x H'=>H' = H∧∀ xs,SqT K H a xs→xs[i]? = some x,fun i H=>∃ xs,SqT K H a xs∧xs.length ≤ i⟩
def Itr (lo:Int) (n:Nat):It:=⟨fun i _=>i < n,fun i H x H'=>H' = H∧x = .int (lo + i),fun i _=>n ≤ i⟩
theorem turn_list {P:Program} {w:World} {K:PySem.W.Frag} {tg:Expr} (a it:Addr):Turn P w K tg (Itl K a) [it] it (fun i h=>h.IsListIter it a i) where
  mem:=by simp
  obj:=fun i h st b hb=>by
    have e:b=it:=by simpa using hb
    subst e
    obtain ⟨o,e,c,d⟩:=st
    exact ⟨o,e,fun v z=>by rw [d] at z; cases z⟩
  keep:=fun i h h' st k=>st.at fun o e=>k it (by simp) o e
  item:=by
    intro X hP hw hK hc i pins s σ H E I hf st hg
    subst hP hw hK
    obtain ⟨xs,x,hq,hx⟩:=hg
    obtain ⟨its,rv,p,hz⟩:=I.list hq
    obtain ⟨u,hu,ru⟩:=rv.get hx
    obtain ⟨f0,f1,f2,f3,f4,f5⟩:=hf it (by simp)
    refine wpAny_pyNext_list_item st p.isList (x:=u) (by simpa using hu) fun h' st' sb=>?_
    have I1:Inv X pins σ H { s with heap:=h' }:=I.turned (t':=s.toks) (fun b o hb e=>(sb.2 b hb).trans e) f0 f1 f3 f4 f5
    obtain ⟨o,e,c,d⟩:=id st'
    exact ⟨u,rfl,go_of (s:={ s with heap:=h' }) e c d (by decide) ⟨x,H,I1,ru,⟨rfl,fun ys hy=>by rw [I.list_inj hy hq]; exact hx⟩,st',fun b hb=>(hf b hb).1⟩⟩
  done:=by
    intro X hP hw hK hc i pins s σ H E I hf st hg
    subst hP hw hK
    obtain ⟨xs,hq,hx⟩:=hg
    obtain ⟨its,rv,p,hz⟩:=I.list hq
    obtain ⟨f0,f1,f2,f3,f4,f5⟩:=hf it (by simp)
    have hl:=rv.length
    exact wpAny_pyNext_list_end (I.ok.hd hc) st p.isList (by simp; omega) fun h' eb=>⟨rfl,I.turned (t':=s.toks) (fun b o hb e=>eb b o hb e) f0 f1 f3 f4 f5⟩
  self:=fun _ _ _ _ _ st h=>wpAny_pyIter_listiter st h
theorem turn_tuple {P:Program} {w:World} {K:PySem.W.Frag} {tg:Expr} (a it:Addr):Turn P w K tg (Itt K a) [it] it (fun i h=>h.IsTupleIter it a i) where
  mem:=by simp
  obj:=fun i h st b hb=>by
    have e:b=it:=by simpa using hb
    subst e
    obtain ⟨o,e,c,d⟩:=st
    exact ⟨o,e,fun v z=>by rw [d] at z; cases z⟩
  keep:=fun i h h' st k=>st.at fun o e=>k it (by simp) o e
  item:=by
    intro X hP hw hK hc i pins s σ H E I hf st hg
    subst hP hw hK
    obtain ⟨xs,x,hq,hx⟩:=hg
    obtain ⟨its,rv,p,hz⟩:=I.tuple hq
    obtain ⟨u,hu,ru⟩:=rv.get hx
    obtain ⟨f0,f1,f2,f3,f4,f5⟩:=hf it (by simp)
    refine wpAny_pyNext_tuple_item st (show s.heap.IsTuple a its.toArray from p) (x:=u) (by simpa using hu) fun h' st' sb=>?_
    have I1:Inv X pins σ H { s with heap:=h' }:=I.turned (t':=s.toks) (fun b o hb e=>(sb.2 b hb).trans e) f0 f1 f3 f4 f5
    obtain ⟨o,e,c,d⟩:=id st'
    exact ⟨u,rfl,go_of (s:={ s with heap:=h' }) e c d (by decide) ⟨x,H,I1,ru,⟨rfl,fun ys hy=>by rw [I.tuple_inj hy hq]; exact hx⟩,st',fun b hb=>(hf b hb).1⟩⟩
  done:=by
    intro X hP hw hK hc i pins s σ H E I hf st hg
    subst hP hw hK
    obtain ⟨xs,hq,hx⟩:=hg
    obtain ⟨its,rv,p,hz⟩:=I.tuple hq
    obtain ⟨f0,f1,f2,f3,f4,f5⟩:=hf it (by simp)
    have hl:=rv.length
    exact wpAny_pyNext_tuple_end (I.ok.hd hc) st (show s.heap.IsTuple a its.toArray from p) (by simp; omega) fun h' eb=>⟨rfl,I.turned (t':=s.toks) (fun b o hb e=>eb b o hb e) f0 f1 f3 f4 f5⟩
  self:=fun _ _ _ _ _ st h=>wpAny_pyIter_tupleiter st h
theorem turn_range {P:Program} {w:World} {K:PySem.W.Frag} {tg:Expr} (it:Addr) (lo:Int) (n:Nat):Turn P w K tg (Itr lo n) [it] it (fun i h=>IsRangeIter h it (lo + (i:Nat) * 1) ((n:Int) - (i:Nat)) 1) where
  mem:=by simp
  obj:=fun i h st b hb=>by
    have e:b=it:=by simpa using hb
    subst e
    exact ⟨_,st,fun v z=>by
      have z':Data.fields _=Data.cell v:=z
      cases z'⟩
  keep:=fun i h h' st k=>k it (by simp) _ st
  item:=by
    intro X hP hw hK hc i pins s σ H E I hf st hg
    subst hP hw hK
    obtain ⟨f0,f1,f2,f3,f4,f5⟩:=hf it (by simp)
    have W:=Walks.range (prog:=X.prog) (w:=X.w) (I.ok.hd hc) it lo 1 n
    refine W.item i s _ _ hg st fun v h' tk hv st' kk=>?_
    obtain ⟨t,rfl⟩:=hv
    have I1:Inv X pins σ H { s with heap:=h',toks:=tk }:=I.turned (fun b o hb e=>kk b o (by simpa using hb) e) f0 f1 f3 f4 f5
    refine ⟨_,rfl,go_of (s:={ s with heap:=h',toks:=tk }) (n := "range_iterator") st' rfl rfl (by decide) ⟨.int (lo + i),H,I1,⟨t,?_⟩,⟨rfl,rfl⟩,st',fun b hb=>(hf b hb).1⟩⟩
    rw [Int.mul_one]
  done:=by
    intro X hP hw hK hc i pins s σ H E I hf st hg
    subst hP hw hK
    obtain ⟨f0,f1,f2,f3,f4,f5⟩:=hf it (by simp)
    exact wpAny_pyNext_range_end (I.ok.hd hc) st (by have:n ≤ i:=hg; omega) fun h' eb=>⟨rfl,I.turned (t':=s.toks) (fun b o hb e=>eb b o hb e) f0 f1 f3 f4 f5⟩
  self:=fun _ _ _ _ _ st h=>wpAny_pyIter_rangeiter st h
end L2
namespace L2
open PySem PySem.Spec PyProof.Rows
section
variable {X:Cx} {tg:Expr}
def iList (K:PySem.W.Frag) (tl:TE):TI:=fun σ H R=>tl σ H fun x H1=>∃ a,x = .ref a∧(∃ xs,SqL K H1 a xs)∧R (Itl K a) H1
def iTup (K:PySem.W.Frag) (tl:TE):TI:=fun σ H R=>tl σ H fun x H1=>∃ a,x = .ref a∧(∃ xs,SqT K H1 a xs)∧R (Itt K a) H1
theorem pi_list {l:Expr} {tl:TE} (hl:PE X l tl):PI X tg l (iList X.K tl):=by
  intro pins s σ H R I h
  refine thn (hl pins s σ H _ I h) fun v s1 ⟨x,H1,I1,r1,q1⟩=>?_
  obtain ⟨a,e,⟨xs,hq⟩,q⟩:=q1
  subst e
  cases r1
  obtain ⟨its,rv,p,hz⟩:=I1.list hq
  refine wpAny_pyIter_list p.isList ?_
  refine ⟨s1.heap.objs.size,[s1.heap.objs.size],_,_,H1,rfl,I1.kept (t':=s1.toks) fun b o e=>Heap.get?_push_of_some _ e,turn_list a _,⟨_,Heap.get?_push_size _ rfl,rfl,rfl⟩,fun b hb=>?_,q⟩
  have e:b=s1.heap.objs.size:=by simpa using hb
  subst e
  exact I1.fpOk (Nat.le_refl _) (I1.hok.fresh (Nat.le_refl _))
theorem pi_tup {l:Expr} {tl:TE} (hl:PE X l tl):PI X tg l (iTup X.K tl):=by
  intro pins s σ H R I h
  refine thn (hl pins s σ H _ I h) fun v s1 ⟨x,H1,I1,r1,q1⟩=>?_
  obtain ⟨a,e,⟨xs,hq⟩,q⟩:=q1
  subst e
  cases r1
  obtain ⟨its,rv,p,hz⟩:=I1.tuple hq
  refine wpAny_pyIter_tuple (show s1.heap.IsTuple a its.toArray from p) ?_
  refine ⟨s1.heap.objs.size,[s1.heap.objs.size],_,_,H1,rfl,I1.kept (t':=s1.toks) fun b o e=>Heap.get?_push_of_some _ e,turn_tuple a _,⟨_,Heap.get?_push_size _ rfl,rfl,rfl⟩,fun b hb=>?_,q⟩
  have e:b=s1.heap.objs.size:=by simpa using hb
  subst e
  exact I1.fpOk (Nat.le_refl _) (I1.hok.fresh (Nat.le_refl _))
theorem range_it {pins:List (Addr × Obj)} {σ:St} {H:Hp} {s:Shared} {R:It→Hp→Prop} {E:Value→Shared→Prop} {lo hi:Int} {t u v:Tok} {tk:Nat} (I:Inv X pins σ H s) (h1:-(2 ^ 62) ≤ lo) (h2:lo < 2 ^ 62) (h3:-(2 ^ 62) ≤ hi) (h4:hi < 2 ^ 62)
    (q:R (Itr lo (hi - lo).toNat) H):wpAny (model X.prog X.w) X.A (pyIter (.ref s.heap.objs.size)) (PIE X pins σ tg R) E { s with heap:=s.heap.push { cls := .type "range",data := .fields #[.int lo t, .int hi u, .int 1 v] },toks:=tk }:=by
  refine wpAny_pyIter_range (IsRange.new ..) (small_one h1 h2 h3 h4) ?_
  have I1:Inv X pins σ H { s with heap:=s.heap.push { cls := .type "range",data := .fields #[.int lo t, .int hi u, .int 1 v] },toks:=tk }:=I.kept fun b o e=>Heap.get?_push_of_some _ e
  refine ⟨(s.heap.push { cls := .type "range",data := .fields #[.int lo t, .int hi u, .int 1 v] }).objs.size,[(s.heap.push { cls := .type "range",data := .fields #[.int lo t, .int hi u, .int 1 v] }).objs.size],_,_,H,rfl,
    I1.kept (t':=tk) fun b o e=>Heap.get?_push_of_some _ e,turn_range _ lo (hi - lo).toNat,?_,fun b hb=>?_,q⟩
  · have e1:lo + ((0:Nat):Int) * 1=lo:=by simp
    have e2:(((hi - lo).toNat:Nat):Int) - ((0:Nat):Int)=Builtin.Range.rangeSize lo hi 1:=by rw [rangeSize_one]; split <;> omega
    show IsRangeIter _ _ (lo + ((0:Nat):Int) * 1) ((((hi - lo).toNat:Nat):Int) - ((0:Nat):Int)) 1
    rw [e1,e2]
    exact Heap.get?_push_size _ rfl
  · have e:b=(s.heap.push { cls := .type "range",data := .fields #[.int lo t, .int hi u, .int 1 v] }).objs.size:=by simpa using hb
    subst e
    exact I1.fpOk (Nat.le_refl _) (I1.hok.fresh (Nat.le_refl _))
def iRng1 (ta:TA):TI:=fun σ H R=>ta σ H fun vs H1=>∃ j:Int,vs=[.int j]∧-(2 ^ 62) ≤ j∧j < 2 ^ 62∧R (Itr 0 j.toNat) H1
def iRng2 (ta:TA):TI:=fun σ H R=>ta σ H fun vs H1=>∃ i j:Int,vs=[.int i, .int j]∧(-(2 ^ 62) ≤ i∧i < 2 ^ 62∧-(2 ^ 62) ≤ j∧j < 2 ^ 62)∧R (Itr i (j - i).toNat) H1
theorem pi_range1 {a:Expr} {ta:TA} {p pos:Pos} (hg:Gl X "range") (hm:X.mg "range" = none) (ha:PA X [a] ta) (hs:starEach [a] X.env=[(false,eval a X.env)]:=by rfl):PI X tg (.Call (.Name "range" p) [a] [] pos) (iRng1 ta):=by
  intro pins s σ H R I h
  refine Call_ (ld_blt I hg hm boot_range (PyProof.Rows.callWith_type1 (thn (ha pos pins s σ H _ I h) fun us s1 ⟨vs,H1,I1,r1,q1⟩=>?_) hs rfl))
  obtain ⟨j,e,q1,q2,q⟩:=q1
  subst e
  cases r1 with
  | cons r rr =>
    cases rr
    obtain ⟨t,rfl⟩:=r
    exact call_range_1 (range_it I1 (by omega) (by omega) q1 q2 (by simpa using q))
def tFor (wi:TI) (g:TG) (tb:TS):TS:=fun D σ H=>wi σ H fun J H1=>∃ W:Nat→Nat→St→Hp→Prop,(∃ m,W 0 m σ H1)∧∀ i m σ H,W i m σ H →
  (J.stop i H∧D.nx σ H)∨(J.go i H∧∃ N:St→Hp→Prop,(∀ σ' H',N σ' H'→∃ m',m' < m∧W (i + 1) m' σ' H')∧∀ x H',J.yld i H x H'→g x σ H' fun σ2 H2=>tb { D with nx:=N,ct:=N,bk:=D.nx } σ2 H2)
def pinsAt (fp:List Addr) (h:Heap):List (Addr × Obj):=fp.filterMap fun b=>(h.get? b).map fun o=>(b,o)
theorem mem_pinsAt {fp:List Addr} {h:Heap} {b:Addr} {o:Obj} (hb:b ∈ fp) (e:h.get? b=some o):(b,o) ∈ pinsAt fp h:=List.mem_filterMap.mpr ⟨b,hb,by rw [e]; rfl⟩
theorem of_pinsAt {fp:List Addr} {h:Heap} {p:Addr × Obj} (hp:p ∈ pinsAt fp h):p.1 ∈ fp∧h.get? p.1=some p.2:=by
  obtain ⟨b,hb,e⟩:=List.mem_filterMap.mp hp
  cases q:h.get? b with
  | none=>rw [q] at e; cases e
  | some o =>
    rw [q] at e
    have e':(b,o)=p:=Option.some.inj e
    subst e'
    exact ⟨hb,q⟩
theorem Inv.pinned {pins:List (Addr × Obj)} {σ:St} {H:Hp} {s:Shared} {fp:List Addr} (I:Inv X pins σ H s) (hf:∀ b ∈ fp,FpOk X pins H b) (ho:∀ b ∈ fp,∃ o,s.heap.get? b=some o∧∀ v,o.data ≠ .cell v):Inv X (pins ++ pinsAt fp s.heap) σ H s :=
  I.pins_of fun p hp=>(List.mem_append.mp hp).elim (fun z=>I.pin p (List.mem_append_right _ z)) fun z=>by
    obtain ⟨hb,e⟩:=of_pinsAt z
    obtain ⟨f0,f1,f2,_⟩:=hf p.1 hb
    obtain ⟨o,e',d⟩:=ho p.1 hb
    rw [e] at e'; cases e'
    exact ⟨e,f0,f1,f2,d⟩
theorem Inv.unpinned {pins pl:List (Addr × Obj)} {σ:St} {H:Hp} {s:Shared} (I:Inv X (pins ++ pl) σ H s):Inv X pins σ H s:=I.pins_of fun p hp=>I.pin p (List.mem_append_right _ (List.mem_append_left _ hp))
theorem ps_for {iter:Expr} {body:List Stmt} {wi:TI} {g:TG} {tb:TS} {pos:Pos} (hp:PassesOwn (model X.prog X.w) X.A X.env X.xe) (hc:X.calm=true) (hi:PI X tg iter wi) (hg:PG X tg g) (hb:PSs X body tb)
    (hs:∀ x,foldedSetIterable iter X.env x=pure x:=by intro _; rfl):PS X (.For tg iter body [] pos) (tFor wi g tb):=by
  intro pins s σ H D I h
  refine wpAny_For (thn (hi pins s σ H _ I h) fun v s1 h1=>thn h1 fun itv s2 h2=>?_) hs
  obtain ⟨it,fp,tn,J,H2,e,I2,T,st2,f2,W,⟨m0,w0⟩,turn⟩:=h2
  subst e
  have stat:∀ {H':Hp},(∀ b ∈ fp,H' b=none)→∀ b ∈ fp,FpOk X pins H' b:=fun hn b hb=>⟨hn b hb,(f2 b hb).2⟩
  refine codeAny_forLoop_any (fun n s'=>∃ i σ' H',Inv X pins σ' H' s'∧tn i s'.heap∧(∀ b ∈ fp,H' b=none)∧W i n σ' H') ?_ m0 ⟨0,σ,H2,I2,st2,fun b hb=>(f2 b hb).1,w0⟩
  rintro n s3 ⟨i,σ3,H3,I3,st3,fr3,w3⟩
  rcases turn i n σ3 H3 w3 with ⟨stop,qn⟩ | ⟨go,N,hN,step⟩
  · refine wpAny_passesOwn hp (thn (T.done X rfl rfl rfl hc i pins s3 σ3 H3 X.xe I3 (stat fr3) st3 stop) fun r s4 ⟨hr,I4⟩=>?_)
    subst hr
    exact wpAny_execs_nil ⟨σ3,H3,I4,qn⟩
  · refine wpAny_passesOwn hp (thn (T.item X rfl rfl rfl hc i pins s3 σ3 H3 X.xe I3 (stat fr3) st3 go) fun r s4 ⟨u,hr,h4⟩=>?_)
    subst hr
    refine wpAny_passesOwn hp (thn h4 fun _ s5 ⟨x,H5,I5,r5,y5,st5,fr5⟩=>?_)
    have I5':=I5.pinned (stat fr5) (T.obj _ _ st5)
    refine wpAny_passesOwn hp (thn (hg _ s5 σ3 H5 x u _ I5' r5 (step x H5 y5)) fun _ s6 ⟨σ6,H6,I6,q6⟩=>?_)
    refine wpAny_passesOwn hp (thn (hb _ s6 σ6 H6 _ I6 q6) fun f s7 q7=>?_)
    have again:∀ {σ7:St} {H7:Hp},Inv X (pins ++ pinsAt fp s5.heap) σ7 H7 s7→N σ7 H7→∃ m,m < n∧∃ i σ' H',Inv X pins σ' H' s7∧tn i s7.heap∧(∀ b ∈ fp,H' b=none)∧W i m σ' H':=fun {σ7 H7} I7 n7=>by
      obtain ⟨m',hm,w7⟩:=hN σ7 H7 n7
      refine ⟨m',hm,i + 1,σ7,H7,I7.unpinned,T.keep _ _ _ st5 fun b hb o e=>(I7.pin (b,o) (List.mem_append_right _ (List.mem_append_right _ (mem_pinsAt hb e)))).1,fun b hb=>?_,w7⟩
      obtain ⟨o,e,d⟩:=T.obj _ _ st5 b hb
      exact (I7.pin (b,o) (List.mem_append_right _ (List.mem_append_right _ (mem_pinsAt hb e)))).2.1
    cases f with
    | next=>obtain ⟨σ7,H7,I7,n7⟩:=q7; exact again I7 n7
    | cont=>obtain ⟨σ7,H7,I7,n7⟩:=q7; exact again I7 n7
    | brk=>obtain ⟨σ7,H7,I7,q7⟩:=q7; exact ⟨σ7,H7,I7.unpinned,q7⟩
    | ret v=>obtain ⟨x7,σ7,H7,I7,r7,q7⟩:=q7; exact ⟨x7,σ7,H7,I7.unpinned,r7,q7⟩
end
theorem for_list {K:PySem.W.Frag} {a:Addr} {xs:List V} {g:TG} {tb:TS} {D:Ends} {σ:St} {H:Hp} (Pv:Nat→St→Hp→Prop) (h0:Pv 0 σ H) (hl:∀ i σ H,i ≤ xs.length→Pv i σ H→SqL K H a xs)
    (hs:∀ i x σ H,xs[i]? = some x→Pv i σ H→g x σ H fun σ2 H2=>tb { D with nx:=Pv (i + 1),ct:=Pv (i + 1),bk:=D.nx } σ2 H2) (hd:∀ σ H,Pv xs.length σ H→D.nx σ H) :
    ∃ W:Nat→Nat→St→Hp→Prop,(∃ m,W 0 m σ H)∧∀ i m σ H,W i m σ H →
      ((Itl K a).stop i H∧D.nx σ H)∨((Itl K a).go i H∧∃ N:St→Hp→Prop,(∀ σ' H',N σ' H'→∃ m',m' < m∧W (i + 1) m' σ' H')∧∀ x H',(Itl K a).yld i H x H'→g x σ H' fun σ2 H2=>tb { D with nx:=N,ct:=N,bk:=D.nx } σ2 H2):=by
  refine ⟨fun i m σ H=>m=xs.length - i∧i ≤ xs.length∧Pv i σ H,⟨xs.length,by simp,Nat.zero_le _,h0⟩,?_⟩
  rintro i m σ H ⟨rfl,hi,p⟩
  have q:=hl i σ H hi p
  by_cases hlt:i < xs.length
  · refine .inr ⟨⟨xs,xs[i],q,by simp [hlt]⟩,Pv (i + 1),fun σ' H' p'=>⟨xs.length - (i + 1),by omega,rfl,hlt,p'⟩,fun x H' y=>?_⟩
    obtain ⟨e,y⟩:=y
    subst e
    exact hs i x σ _ (y xs q) p
  · have e:i=xs.length:=by omega
    subst e
    exact .inl ⟨⟨xs,q,Nat.le_refl _⟩,hd σ H p⟩
theorem for_range {lo:Int} {n:Nat} {g:TG} {tb:TS} {D:Ends} {σ:St} {H:Hp} (Pv:Nat→St→Hp→Prop) (h0:Pv 0 σ H)
    (hs:∀ i σ H,i < n→Pv i σ H→g (.int (lo + i)) σ H fun σ2 H2=>tb { D with nx:=Pv (i + 1),ct:=Pv (i + 1),bk:=D.nx } σ2 H2) (hd:∀ σ H,Pv n σ H→D.nx σ H) :
    ∃ W:Nat→Nat→St→Hp→Prop,(∃ m,W 0 m σ H)∧∀ i m σ H,W i m σ H →
      ((Itr lo n).stop i H∧D.nx σ H)∨((Itr lo n).go i H∧∃ N:St→Hp→Prop,(∀ σ' H',N σ' H'→∃ m',m' < m∧W (i + 1) m' σ' H')∧∀ x H',(Itr lo n).yld i H x H'→g x σ H' fun σ2 H2=>tb { D with nx:=N,ct:=N,bk:=D.nx } σ2 H2):=by
  refine ⟨fun i m σ H=>m=n - i∧i ≤ n∧Pv i σ H,⟨n,by simp,Nat.zero_le _,h0⟩,?_⟩
  rintro i m σ H ⟨rfl,hi,p⟩
  by_cases hlt:i < n
  · refine .inr ⟨hlt,Pv (i + 1),fun σ' H' p'=>⟨n - (i + 1),by omega,rfl,hlt,p'⟩,fun x H' y=>?_⟩
    obtain ⟨e,y⟩:=y
    subst e y
    exact hs i σ _ hlt p
  · have e:i=n:=by omega
    subst e
    exact .inl ⟨Nat.le_refl _,hd σ H p⟩
end L2
namespace L2
open PySem PySem.Spec PyProof.Rows
abbrev R2:=V→V→Hp→VK→Prop
def OpR (X:Cx) (f:Value→Value→Sem Value) (r:R2):Prop :=
  ∀ (pins:List (Addr × Obj)) (s:Shared) (σ:St) (H:Hp) (x y:V) (v u:Value) (Q:VK),Inv X pins σ H s→RelV x v→RelV y u→r x y H Q →
    wpAny (model X.prog X.w) X.A (f v u) (EP X pins σ Q) X.xe s
def UnR (X:Cx) (f:Value→Sem Value) (r:V→Hp→VK→Prop):Prop :=
  ∀ (pins:List (Addr × Obj)) (s:Shared) (σ:St) (H:Hp) (x:V) (v:Value) (Q:VK),Inv X pins σ H s→RelV x v→r x H Q →
    wpAny (model X.prog X.w) X.A (f v) (EP X pins σ Q) X.xe s
def CallR (X:Cx) (f:Value) (r:List V→Hp→VK→Prop):Prop :=
  ∀ (pins:List (Addr × Obj)) (s:Shared) (σ:St) (H:Hp) (xs:List V) (us:List Value) (Q:VK),Inv X pins σ H s→Vals xs us→r xs H Q →
    wpAny (model X.prog X.w) X.A (call f us) (EP X pins σ Q) X.xe s
def TruR (X:Cx) (r:V→Hp→(Bool→Hp→Prop)→Prop):Prop :=
  ∀ (pins:List (Addr × Obj)) (s:Shared) (σ:St) (H:Hp) (x:V) (v:Value) (Q:Bool→Hp→Prop),Inv X pins σ H s→RelV x v→r x H Q →
    wpAny (model X.prog X.w) X.A (truthy v) (TP X pins σ Q) X.xe s
def tOp (r:R2) (ta tb:TE):TE:=fun σ H Q=>ta σ H fun x H1=>tb σ H1 fun y H2=>r x y H2 Q
def tUn (r:V→Hp→VK→Prop) (ta:TE):TE:=fun σ H Q=>ta σ H fun x H1=>r x H1 Q
def rI (C:Int→Int→Prop) (g:Int→Int→V):R2:=fun x y H Q=>∃ i j,x = .int i∧y = .int j∧C i j∧Q (g i j) H
def rI0 (g:Int→Int→V):R2:=fun x y H Q=>∃ i j,x = .int i∧y = .int j∧Q (g i j) H
def rU (g:Int→V):V→Hp→VK→Prop:=fun x H Q=>∃ i,x = .int i∧Q (g i) H
section
variable {X:Cx} {a b c:Expr} {ta tb tc:TE} {pos:Pos}
theorem binT (ha:PE X a ta) (hb:PE X b tb) {pins:List (Addr × Obj)} {s:Shared} {σ:St} {H:Hp} {R:V→V→Hp→Prop} (I:Inv X pins σ H s)
    (h:ta σ H fun x H1=>tb σ H1 fun y H2=>R x y H2) {Q:Value→Shared→Prop} {f:Value→Value→Sem Value}
    (hf:∀ v u s2 x y H2,Inv X pins σ H2 s2→RelV x v→RelV y u→R x y H2→wpAny (model X.prog X.w) X.A (f v u) Q X.xe s2) :
    wpAny (model X.prog X.w) X.A (eval a X.env) (fun v s₁=>wpAny (model X.prog X.w) X.A (eval b X.env) (fun u s₂=>wpAny (model X.prog X.w) X.A (f v u) Q X.xe s₂) X.xe s₁) X.xe s:=by
  refine thn (ha pins s σ H _ I h) fun v s1 ⟨x,H1,I1,r1,q1⟩=>?_
  refine thn (hb pins s1 σ H1 _ I1 q1) fun u s2 ⟨y,H2,I2,r2,q2⟩=>?_
  exact hf v u s2 x y H2 I2 r1 r2 q2
theorem pe_op {op:Operator} {r:R2} (ho:OpR X (binaryOp op) r) (ha:PE X a ta) (hb:PE X b tb):PE X (.BinOp a op b pos) (tOp r ta tb):=by
  intro pins s σ H Q I h
  exact wpAny_BinOp (binT ha hb I h fun v u s2 x y H2 I2 rx ry q=>ho pins s2 σ H2 x y v u Q I2 rx ry q)
theorem opI {f:Value→Value→Sem Value} {C:Int→Int→Prop} {g:Int→Int→Int}
    (rule:∀ (i j:Int) (t u:Tok) (s:Shared) (Q:Value→Shared→Prop) (E:Value→Shared→Prop),C i j→Q (.int (g i j) s.toks) { s with toks:=s.toks + 1 }→wpAny (model X.prog X.w) X.A (f (.int i t) (.int j u)) Q E s) :
    OpR X f (rI C fun i j => .int (g i j)):=by
  intro pins s σ H x y v u Q I rx ry h
  obtain ⟨i,j,rfl,rfl,hc,q⟩:=h
  obtain ⟨t,rfl⟩:=rx
  obtain ⟨t',rfl⟩:=ry
  exact rule i j t t' s _ _ hc ⟨.int (g i j),H,I.tok _,⟨_,rfl⟩,q⟩
theorem opI0 {f:Value→Value→Sem Value} {g:Int→Int→Int}
    (rule:∀ (i j:Int) (t u:Tok) (s:Shared) (Q:Value→Shared→Prop) (E:Value→Shared→Prop),Q (.int (g i j) s.toks) { s with toks:=s.toks + 1 }→wpAny (model X.prog X.w) X.A (f (.int i t) (.int j u)) Q E s) :
    OpR X f (rI0 fun i j => .int (g i j)):=by
  intro pins s σ H x y v u Q I rx ry h
  obtain ⟨i,j,rfl,rfl,q⟩:=h
  obtain ⟨t,rfl⟩:=rx
  obtain ⟨t',rfl⟩:=ry
  exact rule i j t t' s _ _ ⟨.int (g i j),H,I.tok _,⟨_,rfl⟩,q⟩
theorem opB0 {f:Value→Value→Sem Value} {g:Int→Int→Bool}
    (rule:∀ (i j:Int) (t u:Tok) (s:Shared) (Q:Value→Shared→Prop) (E:Value→Shared→Prop),Q (.bool (g i j)) s→wpAny (model X.prog X.w) X.A (f (.int i t) (.int j u)) Q E s) :
    OpR X f (rI0 fun i j => .bl (g i j)):=by
  intro pins s σ H x y v u Q I rx ry h
  obtain ⟨i,j,rfl,rfl,q⟩:=h
  obtain ⟨t,rfl⟩:=rx
  obtain ⟨t',rfl⟩:=ry
  exact rule i j t t' s _ _ ⟨.bl (g i j),H,I,rfl,q⟩
def CDiv (i j:Int):Prop:=0 < j∧j < 1073741824
def CDivN (i j:Int):Prop:=j ≠ 0∧j.natAbs < 1073741824
def CPow (i j:Int):Prop:=0 ≤ j∧j ≤ 1000000∧i.natAbs < 2 ^ 64
def CMul (i j:Int):Prop:=(-(2 ^ 64) < i∧i < 2 ^ 64)∨(-(2 ^ 64) < j∧j < 2 ^ 64)
theorem CMul.ok {i j:Int} (h:CMul i j):IntMulOk i j:=by
  rcases h with ⟨h1,h2⟩ | ⟨h1,h2⟩
  · exact .of_left (intBits_le_64 h1 h2)
  · exact .of_right (intBits_le_64 h1 h2)
theorem two_pow_nn (k:Nat):(0:Int) ≤ 2 ^ k:=by
  rw [two_pow_cast]
  exact Int.natCast_nonneg _
theorem op_add:OpR X (binaryOp .Add) (rI0 fun i j => .int (i + j)):=opI0 fun _ _ _ _ _ _ _ q=>add_int q
theorem op_sub:OpR X (binaryOp .Sub) (rI0 fun i j => .int (i - j)):=opI0 fun _ _ _ _ _ _ _ q=>sub_int q
theorem op_mul:OpR X (binaryOp .Mult) (rI CMul fun i j => .int (i * j)):=opI fun _ _ _ _ _ _ _ hc q=>mul_int q hc.ok
theorem op_fdiv:OpR X (binaryOp .FloorDiv) (rI CDiv fun i j => .int (i / j)):=opI fun i j _ _ _ _ _ hc q=>by
  have h1:(0:Int) < j:=hc.1
  have h2:j < 1073741824:=hc.2
  exact floordiv_int (by omega) (by rw [Int.fdiv_eq_ediv_of_nonneg i (by omega)]; exact q) (.inl (PyProof.noPylong_small (by omega)))
theorem op_mod:OpR X (binaryOp .Mod) (rI (fun _ j=>0 < j) fun i j => .int (i % j)):=opI fun i j _ _ _ _ _ hc q=>by
  have h1:(0:Int) < j:=hc
  exact mod_int' (by omega) (by rw [Int.fmod_eq_emod_of_nonneg i (by omega)]; exact q)
theorem op_pow:OpR X (binaryOp .Pow) (rI CPow fun i j => .int (i ^ j.toNat)):=opI fun _ _ _ _ _ _ _ hc q=>pow_int_small hc.1 hc.2.1 hc.2.2 q
theorem op_shl:OpR X (binaryOp .LShift) (rI CPow fun i j => .int (i * 2 ^ j.toNat)):=opI fun _ _ _ _ _ _ _ hc q=>lshift_int_small hc.1 hc.2.1 hc.2.2 q
theorem op_shr:OpR X (binaryOp .RShift) (rI (fun _ j=>0 ≤ j) fun i j => .int (i / 2 ^ j.toNat)):=opI fun i j _ _ _ _ _ hc q =>
  rshift_int hc (by rw [Int.fdiv_eq_ediv_of_nonneg i (two_pow_nn _)]; exact q)
theorem op_and:OpR X (binaryOp .BitAnd) (rI0 fun i j => .int (Builtin.bitAnd i j)):=opI0 fun _ _ _ _ _ _ _ q=>and_int q
theorem op_or:OpR X (binaryOp .BitOr) (rI0 fun i j => .int (Builtin.bitOr i j)):=opI0 fun _ _ _ _ _ _ _ q=>or_int q
theorem iop_add:OpR X (inplaceOp .Add) (rI0 fun i j => .int (i + j)):=opI0 fun _ _ _ _ _ _ _ q=>iadd_int q
theorem iop_sub:OpR X (inplaceOp .Sub) (rI0 fun i j => .int (i - j)):=opI0 fun _ _ _ _ _ _ _ q=>isub_int q
end
def scal:V→V→Bool
  | .non, .non=>true | .non, .int _=>true | .int _, .non=>true | .non, .bl _=>true | .bl _, .non=>true | .non, .str _=>true | .str _, .non=>true
  | .int _, .int _=>true | .bl _, .bl _=>true | .str _, .str _=>true | .byt _, .byt _=>true
  | .int _, .str _=>true | .str _, .int _=>true | .bl _, .str _=>true | .str _, .bl _=>true
  | _,_=>false
def rEq:R2:=fun x y H Q=>scal x y=true∧Q (.bl (decide (x=y))) H
def rNe:R2:=fun x y H Q=>scal x y=true∧Q (.bl (!decide (x=y))) H
theorem dec_int {i j:Int}:decide (V.int i=V.int j)=(i == j):=by
  rw [Bool.eq_iff_iff]
  simp
theorem dec_bl {i j:Bool}:decide (V.bl i=V.bl j)=(i == j):=by
  rw [Bool.eq_iff_iff]
  simp
theorem dec_str {i j:Str}:decide (V.str i=V.str j)=(i == j):=by
  rw [Bool.eq_iff_iff]
  simp
theorem dec_byt {i j:Array UInt8}:decide (V.byt i=V.byt j)=(i.toList == j.toList):=by
  rw [Bool.eq_iff_iff]
  cases i
  cases j
  simp
section
variable {X:Cx} {a b c:Expr} {ta tb tc:TE} {pos:Pos}
theorem fin_bl {pins:List (Addr × Obj)} {σ:St} {H:Hp} {s:Shared} {Q:VK} {k k':Bool} (I:Inv X pins σ H s) (q:Q (.bl k) H) (e:k=k'):EP X pins σ Q (.bool k') s:=by
  subst e
  exact ⟨.bl k,H,I,rfl,q⟩
theorem op_eq:OpR X (compareOp .Eq) rEq:=by
  intro pins s σ H x y v u Q I rx ry h
  obtain ⟨hs,q⟩:=h
  cases x with
  | non =>
    cases rx
    cases y with
    | non=>cases ry; exact PySem.EqNone.eq_none_none (fin_bl I q (by simp))
    | bl j=>cases ry; exact PySem.EqNone.eq_none_bool (fin_bl I q (by simp))
    | int j=>obtain ⟨t',rfl⟩:=ry; exact PySem.EqNone.eq_none_int (fin_bl I q (by simp))
    | str j=>obtain ⟨t',rfl⟩:=ry; exact PySem.EqNone.eq_none_str (fin_bl I q (by simp))
    | _=>exact absurd (show false=true from hs) Bool.false_ne_true
  | bl i =>
    cases rx
    cases y with
    | non=>cases ry; exact PySem.EqNone.eq_bool_none (fin_bl I q (by simp))
    | bl j=>cases ry; exact eq_bool (fin_bl I q dec_bl)
    | str j=>obtain ⟨t',rfl⟩:=ry; exact PySem.EqMixed.eq_bool_str (fin_bl I q (by simp))
    | _=>exact absurd (show false=true from hs) Bool.false_ne_true
  | int i =>
    obtain ⟨t,rfl⟩:=rx
    cases y with
    | non=>cases ry; exact PySem.EqNone.eq_int_none (fin_bl I q (by simp))
    | int j=>obtain ⟨t',rfl⟩:=ry; exact eq_int (fin_bl I q dec_int)
    | str j=>obtain ⟨t',rfl⟩:=ry; exact PySem.EqMixed.eq_int_str (fin_bl I q (by simp))
    | _=>exact absurd (show false=true from hs) Bool.false_ne_true
  | str i =>
    obtain ⟨t,rfl⟩:=rx
    cases y with
    | non=>cases ry; exact PySem.EqNone.eq_str_none (fin_bl I q (by simp))
    | bl j=>cases ry; exact PySem.EqMixed.eq_str_bool (fin_bl I q (by simp))
    | int j=>obtain ⟨t',rfl⟩:=ry; exact PySem.EqMixed.eq_str_int (fin_bl I q (by simp))
    | str j=>obtain ⟨t',rfl⟩:=ry; exact eq_str (fin_bl I q dec_str)
    | _=>exact absurd (show false=true from hs) Bool.false_ne_true
  | byt i =>
    obtain ⟨t,rfl⟩:=rx
    cases y with
    | byt j=>obtain ⟨t',rfl⟩:=ry; exact PySem.W.eq_bytes (fin_bl I q dec_byt)
    | _=>exact absurd (show false=true from hs) Bool.false_ne_true
  | _=>cases y <;> exact absurd (show false=true from hs) Bool.false_ne_true
theorem op_ne:OpR X (compareOp .NotEq) rNe:=by
  intro pins s σ H x y v u Q I rx ry h
  obtain ⟨hs,q⟩:=h
  cases x with
  | non =>
    cases rx
    cases y with
    | non=>cases ry; exact PySem.EqNone.ne_none_none (fin_bl I q (by simp))
    | bl j=>cases ry; exact PySem.EqNone.ne_none_bool (fin_bl I q (by simp))
    | int j=>obtain ⟨t',rfl⟩:=ry; exact PySem.EqNone.ne_none_int (fin_bl I q (by simp))
    | str j=>obtain ⟨t',rfl⟩:=ry; exact PySem.EqNone.ne_none_str (fin_bl I q (by simp))
    | _=>exact absurd (show false=true from hs) Bool.false_ne_true
  | bl i =>
    cases rx
    cases y with
    | non=>cases ry; exact PySem.EqNone.ne_bool_none (fin_bl I q (by simp))
    | bl j=>cases ry; exact ne_bool (fin_bl I q (congrArg not dec_bl))
    | str j=>obtain ⟨t',rfl⟩:=ry; exact PySem.EqMixed.ne_bool_str (fin_bl I q (by simp))
    | _=>exact absurd (show false=true from hs) Bool.false_ne_true
  | int i =>
    obtain ⟨t,rfl⟩:=rx
    cases y with
    | non=>cases ry; exact PySem.EqNone.ne_int_none (fin_bl I q (by simp))
    | int j=>obtain ⟨t',rfl⟩:=ry; exact ne_int (fin_bl I q (congrArg not dec_int))
    | str j=>obtain ⟨t',rfl⟩:=ry; exact PySem.EqMixed.ne_int_str (fin_bl I q (by simp))
    | _=>exact absurd (show false=true from hs) Bool.false_ne_true
  | str i =>
    obtain ⟨t,rfl⟩:=rx
    cases y with
    | non=>cases ry; exact PySem.EqNone.ne_str_none (fin_bl I q (by simp))
    | bl j=>cases ry; exact PySem.EqMixed.ne_str_bool (fin_bl I q (by simp))
    | int j=>obtain ⟨t',rfl⟩:=ry; exact PySem.EqMixed.ne_str_int (fin_bl I q (by simp))
    | str j=>obtain ⟨t',rfl⟩:=ry; exact ne_str (fin_bl I q (congrArg not dec_str))
    | _=>exact absurd (show false=true from hs) Bool.false_ne_true
  | byt i =>
    obtain ⟨t,rfl⟩:=rx
    cases y with
    | byt j=>obtain ⟨t',rfl⟩:=ry; exact PySem.W.ne_bytes (fin_bl I q (congrArg not dec_byt))
    | _=>exact absurd (show false=true from hs) Bool.false_ne_true
  | _=>cases y <;> exact absurd (show false=true from hs) Bool.false_ne_true
theorem op_lt:OpR X (compareOp .Lt) (rI0 fun i j => .bl (decide (i < j))):=opB0 fun _ _ _ _ _ _ _ q=>lt_int q
theorem op_le:OpR X (compareOp .LtE) (rI0 fun i j => .bl (decide (i ≤ j))):=opB0 fun _ _ _ _ _ _ _ q=>le_int q
theorem op_gt:OpR X (compareOp .Gt) (rI0 fun i j => .bl (decide (j < i))):=opB0 fun _ _ _ _ _ _ _ q=>gt_int q
theorem op_ge:OpR X (compareOp .GtE) (rI0 fun i j => .bl (decide (j ≤ i))):=opB0 fun _ _ _ _ _ _ _ q=>ge_int q
theorem op_isN:OpR X (compareOp .Is) (fun x y H Q=>y = .non∧Q (.bl (decide (x = .non))) H):=by
  intro pins s σ H x y v u Q I rx ry h
  obtain ⟨rfl,q⟩:=h
  cases ry
  refine is_none_gen (fin_bl I q ?_)
  cases x <;> first
    | (cases rx; rfl)
    | (obtain ⟨t,rfl⟩:=rx; rfl)
theorem op_notN:OpR X (compareOp .IsNot) (fun x y H Q=>y = .non∧Q (.bl (!decide (x = .non))) H):=by
  intro pins s σ H x y v u Q I rx ry h
  obtain ⟨rfl,q⟩:=h
  cases ry
  refine isnot_none_gen (fin_bl I q ?_)
  cases x <;> first
    | (cases rx; rfl)
    | (obtain ⟨t,rfl⟩:=rx; rfl)
def isObj:HO→Bool
  | .lst _=>true
  | .ins _ _ _=>true
  | _=>false
theorem nomark (b:Expr) {op:CmpOp} (h:op ≠ .In:=by decide) (h2:op ≠ .NotIn:=by decide):behindInMarks op b=false:=by
  have e1:(op == CmpOp.In)=false:=by cases op <;> first | rfl | exact absurd rfl h
  have e2:(op == CmpOp.NotIn)=false:=by cases op <;> first | rfl | exact absurd rfl h2
  cases b <;> simp [behindInMarks,e1,e2]
theorem pe_cmpR {op:CmpOp} {r:R2} (ho:OpR X (compareOp op) r) (ha:PE X a ta) (hb:PE X b tb) (hm:behindInMarks op b=false):PE X (.Compare a [op] [b] pos) (tOp r ta tb):=by
  intro pins s σ H Q I h
  exact wpAny_Compare1 (binT ha hb I h fun v u s2 x y H2 I2 rx ry q=>ho pins s2 σ H2 x y v u Q I2 rx ry q) hm
def tTest (t:TE):TT:=fun σ H Q=>t σ H fun x H'=>∃ k,x = .bl k∧Q k H'
theorem pt_cmpR {op:CmpOp} {r:R2} (ho:OpR X (compareOp op) r) (ha:PE X a ta) (hb:PE X b tb) (hm:behindInMarks op b=false):PT X (.Compare a [op] [b] pos) (tTest (tOp r ta tb)):=by
  intro pins s σ H Q I h
  refine wpAny_isTrue_Compare1 (thn (ha pins s σ H _ I h) fun v s1 ⟨x,H1,I1,r1,q1⟩=>thn (hb pins s1 σ H1 _ I1 q1) fun u s2 ⟨y,H2,I2,r2,q2⟩ =>
    thn (ho pins s2 σ H2 x y v u _ I2 r1 r2 q2) fun c s3 ⟨z,H3,I3,r3,k,e,q3⟩=>?_) hm
  subst e
  cases r3
  exact wpAny_truthy_bool ⟨H3,I3,q3⟩
def tChain (r r':R2) (ta tb tc:TE):TE:=fun σ H Q=>ta σ H fun x H1=>tb σ H1 fun y H2=>r x y H2 fun z H3=>∃ k,z = .bl k ∧
  (if k=true then tc σ H3 fun w' H4=>r' y w' H4 Q else Q (.bl false) H3)
theorem pe_chain {op op':CmpOp} {r r':R2} (ho:OpR X (compareOp op) r) (ho':OpR X (compareOp op') r') (ha:PE X a ta) (hb:PE X b tb) (hc:PE X c tc)
    (hm:lastMarks [op,op'] [b,c]=false:=by with_unfolding_all rfl):PE X (.Compare a [op,op'] [b,c] pos) (tChain r r' ta tb tc):=by
  intro pins s σ H Q I h
  refine Compare_chain (thn (ha pins s σ H _ I h) fun v s1 ⟨x,H1,I1,r1,q1⟩=>chain_link (thn (hb pins s1 σ H1 _ I1 q1) fun u s2 ⟨y,H2,I2,r2,q2⟩ =>
    thn (ho pins s2 σ H2 x y v u _ I2 r1 r2 q2) fun d s3 ⟨z,H3,I3,r3,k,e,q3⟩=>?_)) hm
  subst e
  cases r3
  refine wpAny_truthy_bool ?_
  cases k with
  | false=>exact ite_ff ⟨.bl false,H3,I3,rfl,q3⟩
  | true=>exact ite_tt (chain_last (thn (hc pins s3 σ H3 _ I3 q3) fun w' s4 ⟨z',H4,I4,r4,q4⟩=>ho' pins s4 σ H4 y z' u w' Q I4 r2 r4 q4))
def TruV (K:PySem.W.Frag) (x:V) (H:Hp) (k:Bool):Prop :=
  match x with
  | .non=>k=false
  | .bl b=>k=b
  | .int i=>k=(i != 0)
  | .str y=>y.length ≤ sizeLine∧k=((y.length:Int) != 0)
  | .byt y=>y.size ≤ sizeLine∧k=((y.size:Int) != 0)
  | .ref p=>(∃ xs,SqL K H p xs∧k = !xs.isEmpty)∨(∃ xs,SqT K H p xs∧k = !xs.isEmpty)∨∃ kvs,H p=some (.dK kvs)∧k = !kvs.isEmpty
  | _=>False
theorem isEmpty_kv {κ:Type} {kvs:List (κ × V)} {vs:List (κ × Value)} (r:KV kvs vs):(!vs.isEmpty) = !kvs.isEmpty:=by
  cases r <;> rfl
theorem isEmpty_of {xs:List V} {its:List Value} (r:Vals xs its):(!its.toArray.isEmpty) = !xs.isEmpty:=by
  cases r <;> simp
theorem line63:(sizeLine:Nat) < 2 ^ 63:=by rw [sizeLine_eq]; decide
theorem tru_ok:TruR X (fun x H Q=>∃ k,TruV X.K x H k∧Q k H):=by
  intro pins s σ H x v Q I rx h
  obtain ⟨k,e,q⟩:=h
  have hl:=line63
  have hs:sizeLine=16777216:=sizeLine_eq
  cases x with
  | non =>
    cases rx
    have e':k=false:=e
    subst e'
    exact truthy_none ⟨H,I,q⟩
  | bl b =>
    cases rx
    have e':k=b:=e
    subst e'
    exact wpAny_truthy_bool ⟨H,I,q⟩
  | int i =>
    obtain ⟨t,rfl⟩:=rx
    have e':k=(i != 0):=e
    subst e'
    exact PySem.P.truthy_int ⟨H,I,q⟩
  | str y =>
    obtain ⟨t,rfl⟩:=rx
    obtain ⟨hy,e'⟩:y.length ≤ sizeLine∧k=((y.length:Int) != 0):=e
    subst e'
    exact PySem.P.truthy_str (by omega) ⟨H,I.tok _,q⟩
  | byt y =>
    obtain ⟨t,rfl⟩:=rx
    obtain ⟨hy,e'⟩:y.size ≤ sizeLine∧k=((y.size:Int) != 0):=e
    subst e'
    exact PySem.W.truthy_bytes (by omega) ⟨H,I.tok _,q⟩
  | ref p =>
    cases rx
    have e':(∃ xs,SqL X.K H p xs∧k = !xs.isEmpty)∨(∃ xs,SqT X.K H p xs∧k = !xs.isEmpty)∨∃ kvs,H p=some (.dK kvs)∧k = !kvs.isEmpty:=e
    rcases e' with ⟨xs,hx,e'⟩ | ⟨xs,hx,e'⟩ | ⟨kvs,hx,e'⟩
    · subst e'
      obtain ⟨its,r,pl,hz⟩:=I.list hx
      have hlen:=r.length
      exact wpAny_truthy_list pl.isList (by simp only [List.size_toArray]; omega) ⟨H,I.tok _,by rw [isEmpty_of r]; exact q⟩
    · subst e'
      obtain ⟨its,r,pl,hz⟩:=I.tuple hx
      have hlen:=r.length
      exact truthy_tuple pl (by simp only [List.size_toArray]; omega) ⟨H,I.tok _,by rw [isEmpty_of r]; exact q⟩
    · subst e'
      obtain ⟨hz,hS,vs,r,m⟩:kvs.length ≤ sizeLine∧(p == sysModules)=false∧∃ vs,KV kvs vs∧s.heap.DictOf (mixKind X.prog X.w) p vs:=I.hok p _ hx
      have hlen:kvs.length=vs.length:=Paired.length r
      exact wpAny_truthy_dict hS m (by omega) ⟨H,I.tok _,by rw [isEmpty_kv r]; exact q⟩
  | _=>exact (show False from e).elim
theorem pt_truth (ha:PE X a ta) (he:∀ whole,isTrue a X.env whole=(do let v ← whole; standAt a.pos; holding [v] (truthy v))) :
    PT X a (fun σ H Q=>ta σ H fun x H'=>∃ k,TruV X.K x H' k∧Q k H'):=by
  intro pins s σ H Q I h
  exact isTrue_plain (thn (ha pins s σ H _ I h) fun v s1 ⟨x,H1,I1,r1,q1⟩=>tru_ok pins s1 σ H1 x v Q I1 r1 q1) (he _)
def PlainIxT (b:Expr):Prop:=∀ o i,subscripted b false o i=operate [o,i] (getItem o i)
theorem vals1 {x:V} {us:List Value} (r:Vals [x] us):∃ u,us=[u]∧RelV x u:=by
  cases r with
  | cons r1 r2=>cases r2; exact ⟨_,rfl,r1⟩
theorem call_abs:CallR X (.builtin "abs") (fun xs H Q=>∃ i,xs=[.int i]∧Q (.int (if i < 0 then -i else i)) H):=by
  intro pins s σ H xs us Q I r h
  obtain ⟨i,rfl,q⟩:=h
  obtain ⟨u,rfl,t,rfl⟩:=vals1 r
  exact call_abs_int fun u tk=>⟨.int (if i < 0 then -i else i),H,I.tok _,⟨_,rfl⟩,q⟩
def LenV (K:PySem.W.Frag) (x:V) (H:Hp) (n:Nat):Prop :=
  match x with
  | .str y=>y.length ≤ sizeLine∧n=y.length
  | .byt y=>y.size ≤ sizeLine∧n=y.size
  | .ref p=>(∃ xs,SqL K H p xs∧n=xs.length)∨∃ xs,SqT K H p xs∧n=xs.length
  | _=>False
end
end L2
namespace L2
open PySem PySem.Spec PyProof.Rows
structure ObjM (h:Heap) (x dx C:Addr) (mA:Str→Option Value):Prop where
  obj:h.get? x=some (PySem.W.instObj C dx)
  ns:h.Ns1 dx mA
  ne:dx ≠ x
theorem lookIn_ns {h:Heap} {dx:Addr} {mA:Str→Option Value} (n:h.Ns1 dx mA):∃ od,h.get? dx=some od∧∀ name,PySem.W.lookIn name od=some (mA name):=by
  obtain ⟨o,es,ep,ho,hd,hk,_,hm⟩:=n
  refine ⟨o,ho,fun name=>?_⟩
  have e:=hm name
  unfold nsFind findBy at e
  rw [← Array.find?_toList] at e
  unfold PySem.W.lookIn
  rw [hd]
  dsimp only
  split
  · rename_i y q
    rw [q] at e
    exact congrArg some e
  · rename_i q
    rw [q] at e
    have a:es.toList.any (·.refKey)=false:=by
      rw [List.any_eq_false]
      intro y hy
      obtain ⟨z,t,hkey⟩:=hk y (Array.mem_toList_iff.mp hy)
      simp [DictEntry.refKey,hkey]
    have a':¬ es.toList.any (·.refKey)=true:=by rw [a]; exact Bool.false_ne_true
    rw [if_neg a']
    exact congrArg some e
theorem ObjM.look {h:Heap} {x dx C:Addr} {mA:Str→Option Value} (I:ObjM h x dx C mA):∃ od,PySem.W.InstAt h x (PySem.W.instObj C dx) C (some od)∧∀ name,PySem.W.lookIn name od=some (mA name) :=
  let ⟨od,ho,hl⟩:=lookIn_ns I.ns
  ⟨od,⟨I.obj,rfl,rfl,ho⟩,hl⟩
section
variable {prog:Program} {w:World} {A:Around} {E:Value→Shared→Prop} {s:Shared} {K:PySem.W.Frag} {x dx C f:Addr} {mA:Str→Option Value} {name:Str} {v:Value}
theorem get_map {expr:Bool} {Q:Value→Shared→Prop} (X:K.In s.heap) (I:ObjM s.heap x dx C mA) (hg:PySem.W.plainGet K C name=true) (hh:PySem.W.hasDictIn K C=true)
    (ha:PySem.W.findIn K (.ref C) name=some none) (hv:mA name=some v) (hv':PySem.W.handedIn v=true) (h:Q v { s with toks:=s.toks + 1 }) :
    wpAny (model prog w) A (getAttr (.ref x) name expr) Q E s:=by
  obtain ⟨od,J,hl⟩:=I.look
  exact PySem.W.get_value X J (PySem.W.plainGet_of hg).1 (PySem.W.findObj_own hh ha rfl (by rw [hl,hv])) hv' h
theorem get_meth {pl:Sem Bool} {Q:Value × List Value→Shared→Prop} (X:K.In s.heap) (I:ObjM s.heap x dx C mA) (hg:PySem.W.plainGet K C name=true)
    (hf:PySem.W.findIn K (.ref C) name=some (some (.ref f))) (ht:PySem.W.isFn K (.ref f)=true) (hv:mA name=none) (h:Q (.ref f,[.ref x]) s) :
    wpAny (model prog w) A (getMethod (.ref x) name pl) Q E s:=by
  obtain ⟨od,J,hl⟩:=I.look
  exact PySem.W.method_fn X J (PySem.W.plainGet_of hg).1 (PySem.W.plainGet_of hg).2 hf (beq_iff_eq.mp ht) (by show (PySem.W.lookIn name od).map (·.isSome)=some false; rw [hl,hv]; rfl) h
theorem set_map {ns:List Str} {Q:Unit→Shared→Prop} (X:K.In s.heap) (I:ObjM s.heap x dx C mA)
    (hs:PySem.W.findIn K (.ref C) "__setattr__" = some (some (.builtin "object.__setattr__"))) (hp:PySem.W.plainOver K C=true) (ht:PySem.W.takerIn K C name=some none) (hh:PySem.W.hasDictIn K C=true)
    (hw:PySem.Within mA ns) (hsz:ns.length ≤ sizeLine)
    (h:∀ h',ObjM h' x dx C (fun y=>if y=name then some v else mA y)→Heap.SameBut dx s.heap h'→Q () { s with heap:=h',toks:=s.toks + 2 }) :
    wpAny (model prog w) A (setAttr (.ref x) name v) Q E s:=by
  obtain ⟨od,J,hl⟩:=I.look
  refine PySem.W.set_plain X J hs (PySem.W.osa_open (s:={ s with toks:=s.toks + 1 }) (r:=none) X J hp ht fun b=>?_)
  obtain ⟨cd,hc,hd'⟩:=PySem.W.any_some hh
  have hx:s.heap.get? x=some ⟨.ref C,some dx, .plain,#[]⟩:=I.obj
  refine wpAny_bind (wpAny_pure (wpAny_bind (wpAny_bind (wpAny_loadPart hx (wpAny_bind (PySem.W.Looks.here (s:={ s with toks:=s.toks + 1 }) (PySem.W.looks_clsIn X hc) ?_))))))
  rw [hd']
  refine wpAny_pure (a:=some dx) (wpAny_bind (wpAny_pure (wpAny_bind ?_)))
  refine wpAny_nsSet1 (s:={ s with toks:=s.toks + 1 }) I.ns fun h' hn2 hs2=>?_
  obtain ⟨oD,esD,epD,hoD,hdD,hcD⟩:=hn2.count (PySem.Within.cons name v hw)
  refine wpAny_bind (wpAny_lookBehind hoD (by rw [hdD]; exact pastItsLine_dict (Nat.le_trans hcD (by rw [List.length_cons]; omega))) ?_)
  exact wpAny_pure (h _ ⟨(hs2.2 _ (Ne.symm I.ne)).trans I.obj,hn2,I.ne⟩ hs2)
theorem make_map {R:Result→Shared→Prop} {vs:List Value} {kw:List (Str × Value)} (X:K.In s.heap) (hm:PySem.W.makesIn K C=true)
    (hi:PySem.W.findIn K (.ref C) "__init__" = some (some (.ref f))) (hf:PySem.W.typeIn K (.ref f)=some (.type "function"))
    (h:codeAny (model prog w) (A.under (.builtin "type.__call__" ⟨.ref C :: vs,kw⟩)) (.call (.ref f) ⟨.ref (s.heap.objs.size + 1) :: vs,kw⟩) (PySem.W.InitBack (s.heap.objs.size + 1) R)
      { s with heap:=(s.heap.push PySem.W.emptyDict).push (PySem.W.instObj C s.heap.objs.size) }) :
    codeAny (model prog w) A (.call (.ref C) ⟨vs,kw⟩) R s:=by
  obtain ⟨hh,g,d,t,os⟩:=s
  exact PySem.W.make_core (PySem.W.makes_of X hm) (PySem.W.looks_findIn X hi) (fun self=>PySem.W.bind_fn X self hf) (.inl rfl) h
end
def putF (f:Str) (v:V):List (Str × V)→List (Str × V)
  | []=>[(f,v)]
  | (g,x) :: r=>if g=f then (g,v) :: r else (g,x) :: putF f v r
theorem lookup_putF (f g:Str) (v:V):∀ fs:List (Str × V),(putF f v fs).lookup g=if g=f then some v else fs.lookup g
  | []=>by
    show List.lookup g [(f,v)]=_
    by_cases h:g=f
    · have hb:(g == f)=true:=beq_iff_eq.mpr h
      simp only [List.lookup,hb,if_pos h]
    · have hb:(g == f)=false:=beq_eq_false_iff_ne.mpr h
      simp only [List.lookup,hb,if_neg h]
  | (k,x) :: r=>by
    have ih:=lookup_putF f g v r
    rw [show putF f v ((k,x) :: r)=(if k=f then (k,v) :: r else (k,x) :: putF f v r) from rfl]
    by_cases hk:k=f
    · rw [if_pos hk]
      by_cases h:g=k
      · have hb:(g == k)=true:=beq_iff_eq.mpr h
        simp only [List.lookup,hb,if_pos (h.trans hk)]
      · have hb:(g == k)=false:=beq_eq_false_iff_ne.mpr h
        simp only [List.lookup,hb,if_neg (fun e:g=f=>h (e.trans hk.symm))]
    · rw [if_neg hk]
      by_cases h:g=k
      · have hb:(g == k)=true:=beq_iff_eq.mpr h
        simp only [List.lookup,hb,if_neg (fun e:g=f=>hk (h.symm.trans e))]
      · have hb:(g == k)=false:=beq_eq_false_iff_ne.mpr h
        simp only [List.lookup,hb]
        exact ih
theorem keys_putF (f:Str) (v:V):∀ fs:List (Str × V),f ∈ (putF f v fs).map (·.1)∧∀ g,g ∈ fs.map (·.1)→g ∈ (putF f v fs).map (·.1)
  | []=>⟨by simp [putF],fun g h=>by simp at h⟩
  | (k,x) :: r=>by
    obtain ⟨i1,i2⟩:=keys_putF f v r
    rw [show putF f v ((k,x) :: r)=(if k=f then (k,v) :: r else (k,x) :: putF f v r) from rfl]
    by_cases hk:k=f
    · rw [if_pos hk]
      subst hk
      exact ⟨by simp,fun g h=>by simpa using h⟩
    · rw [if_neg hk]
      refine ⟨?_,fun g h=>?_⟩
      · rw [List.map_cons]
        exact List.mem_cons_of_mem _ i1
      · rw [List.map_cons] at h ⊢
        rcases List.mem_cons.mp h with e | e
        · exact List.mem_cons.mpr (.inl e)
        · exact List.mem_cons_of_mem _ (i2 g e)
theorem length_putF (f:Str) (v:V):∀ fs:List (Str × V),(putF f v fs).length ≤ fs.length + 1
  | []=>by simp [putF]
  | (k,x) :: r=>by
    have ih:=length_putF f v r
    rw [show putF f v ((k,x) :: r)=(if k=f then (k,v) :: r else (k,x) :: putF f v r) from rfl]
    by_cases hk:k=f
    · rw [if_pos hk,List.length_cons,List.length_cons]; omega
    · rw [if_neg hk,List.length_cons,List.length_cons]; omega
theorem RelO.some_of {v:V} {o:Option Value} (r:RelO (some v) o):∃ u,o=some u∧RelV v u:=by
  cases o with
  | none=>exact (show False from r).elim
  | some u=>exact ⟨u,rfl,r⟩
theorem RelO.none_of {o:Option Value} (r:RelO none o):o=none:=by
  cases o with
  | none=>rfl
  | some u=>exact (show False from r).elim
theorem handed_of {v:V} {u:Value} (r:RelV v u):PySem.W.handedIn u=true:=by
  cases v with
  | non=>cases (show u=Value.none from r); rfl
  | bl b=>cases (show u=Value.bool b from r); rfl
  | int i=>obtain ⟨t,e⟩:=(show ∃ t,u=Value.int i t from r); cases e; rfl
  | str x=>obtain ⟨t,e⟩:=(show ∃ t,u=Value.str x t from r); cases e; rfl
  | byt b=>obtain ⟨t,e⟩:=(show ∃ t,u=Value.bytes b t from r); cases e; rfl
  | flt b=>obtain ⟨t,e⟩:=(show ∃ t,u=Value.float b t from r); cases e; rfl
  | ref a=>cases (show u=Value.ref a from r); rfl
  | ty n=>cases (show u=Value.type n from r); rfl
section
variable {P:Program} {w:World} {H H':Hp} {h h':Heap} {a C dx:Addr} {fs fs':List (Str × V)}
theorem ins_get (hok:HOk P w H h) (e:H a=some (.ins C dx fs)):∃ mA,ObjM h a dx C mA∧(∀ f,RelO (fs.lookup f) (mA f))∧PySem.Within mA (fs.map (·.1))∧fs.length ≤ 1000∧H dx=some (.own a):=by
  obtain ⟨d,z,ne,ob,mA,n,r,q⟩:=(show ObjOk P w H h a (.ins C dx fs) from hok a _ e)
  exact ⟨mA,⟨ob,n,ne⟩,r,q,z,d⟩
end
structure Cls (K:PySem.W.Frag) (C:Addr):Prop where
  pg:PySem.W.plainGet K C Str.empty=true
  hd:PySem.W.hasDictIn K C=true
  po:PySem.W.plainOver K C=true
  sa:PySem.W.findIn K (.ref C) "__setattr__" = some (some (.builtin "object.__setattr__"))
theorem Cls.get {K:PySem.W.Frag} {C:Addr} (c:Cls K C) (f:Str):PySem.W.plainGet K C f=true:=c.pg
def NoAttr (K:PySem.W.Frag) (C:Addr) (f:Str):Prop:=PySem.W.findIn K (.ref C) f=some none
theorem NoAttr.taker {K:PySem.W.Frag} {C:Addr} {f:Str} (n:NoAttr K C f):PySem.W.takerIn K C f=some none:=by
  unfold PySem.W.takerIn
  rw [show PySem.W.findIn K (.ref C) f=some none from n]
  rfl
structure Con (K:PySem.W.Frag) (C:Addr) (f:Str) (v:V) (u:Value):Prop where
  at_:PySem.W.findIn K (.ref C) f=some (some u)
  rel:RelV v u
  get:PySem.W.specialIn K u "__get__" = some none
  cp:PySem.W.copiedNames.contains f=false
structure Meth (K:PySem.W.Frag) (C:Addr) (m:Str) (f:Addr):Prop where
  at_:PySem.W.findIn K (.ref C) m=some (some (.ref f))
  fn:PySem.W.isFn K (.ref f)=true
  kp:PySem.W.keepIn K (.ref f)=true
section
variable {X:Cx} {pins:List (Addr × Obj)} {σ:St} {H:Hp} {s:Shared} {a C dx:Addr} {fs:List (Str × V)} {f:Str} {v:V} {A:Around} {E:Value→Shared→Prop}
theorem getattr_ok {b:Bool} {Q:Value→Shared→Prop} (I:Inv X pins σ H s) (e:H a=some (.ins C dx fs)) (c:Cls X.K C) (n:NoAttr X.K C f) (l:fs.lookup f=some v)
    (h:∀ u s',Inv X pins σ H s'→RelV v u→Q u s'):wpAny (model X.prog X.w) A (getAttr (.ref a) f b) Q E s:=by
  obtain ⟨mA,O,r,_,_,_⟩:=ins_get I.hok e
  obtain ⟨u,hu,ru⟩:=RelO.some_of (v:=v) (o:=mA f) (by rw [← l]; exact r f)
  exact get_map I.kIn O (c.get f) c.hd n hu (handed_of ru) (h u _ (I.tok _) ru)
theorem getmeth_ok {m:Str} {g:Addr} {pl:Sem Bool} {Q:Value × List Value→Shared→Prop} (I:Inv X pins σ H s) (e:H a=some (.ins C dx fs)) (c:Cls X.K C) (k:Meth X.K C m g) (l:fs.lookup m=none)
    (h:Q (.ref g,[.ref a]) s):wpAny (model X.prog X.w) A (getMethod (.ref a) m pl) Q E s:=by
  obtain ⟨mA,O,r,_,_,_⟩:=ins_get I.hok e
  have hn:mA m=none:=RelO.none_of (by rw [← l]; exact r m)
  exact get_meth I.kIn O (c.get m) k.at_ k.fn hn h
theorem setattr_ok {y:V} {u:Value} {Q:Unit→Shared→Prop} (I:Inv X pins σ H s) (e:H a=some (.ins C dx fs)) (c:Cls X.K C) (n:NoAttr X.K C f) (hl:fs.length < 1000) (ry:RelV y u)
    (h:∀ s',Inv X pins σ (upd H a (.ins C dx (putF f y fs))) s'→Q () s'):wpAny (model X.prog X.w) A (setAttr (.ref a) f u) Q E s:=by
  obtain ⟨mA,O,r,wi,_,ho⟩:=ins_get I.hok e
  have hz:(fs.map (·.1)).length ≤ sizeLine:=by rw [List.length_map,sizeLine_eq]; omega
  refine set_map I.kIn O c.sa c.po n.taker c.hd wi hz fun h' O' sb=>h _ ?_
  have hd:∃ o,h'.get? dx=some o:=let ⟨o,_,_,e',_⟩:=O'.ns; ⟨o,e'⟩
  refine I.write (x:=a) (e:=dx) (by rw [e]; exact True.intro) (.inr ho) (fun b q hb z=>(sb.2 b hb).trans z) hd ?_
  refine ⟨by rw [upd_ne O.ne]; exact ho,?_,O.ne,O'.obj,_,O'.ns,fun g=>?_,fun g hg=>?_⟩
  · have:=length_putF f y fs; omega
  · show RelO ((putF f y fs).lookup g) (if g=f then some u else mA g)
    rw [lookup_putF]
    by_cases q:g=f
    · rw [if_pos q,if_pos q]; exact ry
    · rw [if_neg q,if_neg q]; exact r g
  · by_cases q:g=f
    · rw [q]; exact (keys_putF f y fs).1
    · refine (keys_putF f y fs).2 g (wi g fun z=>hg ?_)
      show (if g=f then some u else mA g)=none
      rw [if_neg q]; exact z
theorem Inv.made (I:Inv X pins σ H s):Inv X pins σ (upd (upd H s.heap.objs.size (.own (s.heap.objs.size + 1))) (s.heap.objs.size + 1) (.ins C s.heap.objs.size []))
    { s with heap:=(s.heap.push PySem.W.emptyDict).push (PySem.W.instObj C s.heap.objs.size) }:=by
  have e1:(s.heap.push PySem.W.emptyDict).get? s.heap.objs.size=some PySem.W.emptyDict:=Heap.get?_push_size s.heap rfl
  have e2:((s.heap.push PySem.W.emptyDict).push (PySem.W.instObj C s.heap.objs.size)).get? (s.heap.objs.size + 1)=some (PySem.W.instObj C s.heap.objs.size):=by
    have:=Heap.get?_push_size (s.heap.push PySem.W.emptyDict) (o:=PySem.W.instObj C s.heap.objs.size) rfl
    rwa [Heap.size_push] at this
  have e3:(s.heap.push PySem.W.emptyDict).Ns s.heap.objs.size (fun _=>none):=⟨PySem.W.emptyDict,#[],_,e1,rfl,(fun e he=>absurd he (by simp)),fun _=>rfl⟩
  have I1:=I.laid (a:=s.heap.objs.size) (o := .own (s.heap.objs.size + 1)) (h':=s.heap.push PySem.W.emptyDict) (t':=s.toks) (fun b u q=>Heap.get?_push_of_some _ q) (Nat.le_refl _) ⟨_,e1⟩
  refine I1.laid (a:=s.heap.objs.size + 1) (o := .ins C s.heap.objs.size []) (t':=s.toks) (fun b u q=>Heap.get?_push_of_some _ q) (Nat.le_of_eq (Heap.size_push _ _)) ?_
  have ne:s.heap.objs.size ≠ s.heap.objs.size + 1:=Nat.ne_of_lt (Nat.lt_succ_self _)
  refine ⟨by rw [upd_ne ne,upd_same],Nat.zero_le _,ne,e2,fun _=>none,(Heap.Ns1.of_empty e3).at fun o q=>Heap.get?_push_of_some _ q,fun _=>True.intro,fun y hy=>absurd rfl hy⟩
theorem attr_of {prog:Program} {w:World} {env:Env} {e:Expr} {f:Str} {pos:Pos} {s:Shared} {Q:Value→Shared→Prop} (hb:attributeBase e f env (eval e env)=eval e env)
    (h:wpAny (model prog w) A (eval e env) (fun o s₁=>wpAny (model prog w) A (getAttr o f true) Q E s₁) E s):wpAny (model prog w) A (eval (.Attribute e f pos) env) Q E s :=
  Attribute_any_ h (by rw [arm_eval_Attribute,hb])
end
def tFld (K:PySem.W.Frag) (ta:TE) (f:Str):TE:=fun σ H Q=>ta σ H fun x H1=>∃ a C dx fs v,x = .ref a∧H1 a=some (.ins C dx fs)∧Cls K C∧NoAttr K C f∧fs.lookup f=some v∧Q v H1
def tCon (K:PySem.W.Frag) (ta:TE) (f:Str):TE:=fun σ H Q=>ta σ H fun x H1=>∃ a C dx fs v u,x = .ref a∧H1 a=some (.ins C dx fs)∧Cls K C∧Con K C f v u∧fs.lookup f=none∧Q v H1
def sFld (K:PySem.W.Frag) (ta tv:TE) (f:Str):TS:=fun D σ H=>tv σ H fun y H1=>ta σ H1 fun x H2=>∃ a C dx fs,x = .ref a∧H2 a=some (.ins C dx fs)∧Cls K C∧NoAttr K C f∧fs.length < 1000 ∧
  D.nx σ (upd H2 a (.ins C dx (putF f y fs)))
def InOp (X:Cx) (op:Operator) (rd:V→V→Hp→VK→Prop):Prop :=
  ∀ (pins:List (Addr × Obj)) (s:Shared) (σ:St) (H:Hp) (x y:V) (u v:Value) (Q:VK),Inv X pins σ H s→RelV x u→RelV y v→rd x y H Q→wpAny (model X.prog X.w) X.A (inplaceOp op u v) (EP X pins σ Q) X.xe s
def sFldAug (K:PySem.W.Frag) (ta tv:TE) (rd:V→V→Hp→VK→Prop) (f:Str):TS:=fun D σ H=>ta σ H fun x H1=>∃ a C dx fs v,x = .ref a∧H1 a=some (.ins C dx fs)∧Cls K C∧NoAttr K C f∧fs.lookup f=some v ∧
  tv σ H1 fun y H2=>rd v y H2 fun z H3=>∃ dx' fs',H3 a=some (.ins C dx' fs')∧fs'.length < 1000∧D.nx σ (upd H3 a (.ins C dx' (putF f z fs')))
section
variable {X:Cx} {o e value:Expr} {f:Str} {pos pos' tpos:Pos} {ta tv:TE}
theorem pe_fld (he:PE X e ta) (hb:attributeBase e f X.env (eval e X.env)=eval e X.env):PE X (.Attribute e f pos) (tFld X.K ta f):=by
  intro pins s σ H Q I h
  refine attr_of hb (thn (he pins s σ H _ I h) fun u s1 ⟨x,H1,I1,rx,a,C,dx,fs,v,ex,ea,c,n,l,q⟩=>?_)
  subst ex
  obtain rfl:u=Value.ref a:=rx
  exact getattr_ok I1 ea c n l fun u' s2 I2 ru=>⟨v,H1,I2,ru,q⟩
theorem ps_fld (ha:PE X o ta) (hv:PE X value tv) (hs:swapsWith value (some (.Attribute o f pos')) pos.line X.env=pure false):PS X (.Assign [.Attribute o f pos'] value pos) (sFld X.K ta tv f):=by
  intro pins s σ H D I h
  refine plainObj_wpAny_Assign_Attribute (thn (hv pins s σ H _ I h) fun u s1 ⟨y,H1,I1,ry,q⟩=>thn (ha pins s1 σ H1 _ I1 q) fun ov s2 ⟨x,H2,I2,rx,a,C,dx,fs,ex,ea,c,n,l,q2⟩=>?_) hs
  subst ex
  obtain rfl:ov=Value.ref a:=rx
  exact setattr_ok I2 ea c n l ry fun s3 I3=>⟨σ,_,I3,q2⟩
theorem ps_fldaug {op:Operator} {rd:V→V→Hp→VK→Prop} (ha:PE X o ta) (hv:PE X value tv) (hop:InOp X op rd):PS X (.AugAssign (.Attribute o f tpos) op value pos) (sFldAug X.K ta tv rd f):=by
  intro pins s σ H D I h
  refine wpAny_AugAssign_AttributeAny (thn (ha pins s σ H _ I h) fun ov s1 ⟨x,H1,I1,rx,a,C,dx,fs,v,ex,ea,c,n,l,q⟩=>?_)
  subst ex
  obtain rfl:ov=Value.ref a:=rx
  refine getattr_ok I1 ea c n l fun u s2 I2 ru=>thn (hv pins s2 σ H1 _ I2 q) fun w3 s3 ⟨y,H2,I3,ry,q3⟩=>thn (hop pins s3 σ H2 v y u w3 _ I3 ru ry q3) fun w4 s4 ⟨z,H3,I4,rz,dx',fs',ea',l',q4⟩=>?_
  exact setattr_ok I4 ea' c n l' rz fun s5 I5=>⟨σ,_,I5,q4⟩
def rAdd:V→V→Hp→VK→Prop:=fun x y H Q=>∃ i j,x = .int i∧y = .int j∧Q (.int (i + j)) H
def rSub:V→V→Hp→VK→Prop:=fun x y H Q=>∃ i j,x = .int i∧y = .int j∧Q (.int (i - j)) H
theorem methcall_of {pl:Sem Bool} {m:Str} {apos:Pos} {args:List Expr} {pins:List (Addr × Obj)} {s:Shared} {σ:St} {H:Hp} {Q:Value→Shared→Prop} {te:TE} (he:PE X e te) (I:Inv X pins σ H s)
    (h:te σ H fun x H1=>∃ a C dx fs g,x = .ref a∧H1 a=some (.ins C dx fs)∧Cls X.K C∧Meth X.K C m g∧fs.lookup m=none ∧
      ∀ s1,Inv X pins σ H1 s1→wpAny (model X.prog X.w) X.A (callWith pos (.ref g) [.ref a] (backTo pos (starEach args X.env)) (backToKw pos (keywordEach [] X.env))) Q X.xe s1)
    (ht:eval (.Call (.Attribute e m apos) args [] pos) X.env=(do
      let ov ← eval e X.env
      standAt apos.atName
      let (f,first) ← holding [ov] (getMethod ov m pl)
      callWith pos f first (backTo pos (starEach args X.env)) (backToKw pos (keywordEach [] X.env)))) :
    wpAny (model X.prog X.w) X.A (eval (.Call (.Attribute e m apos) args [] pos) X.env) Q X.xe s:=by
  refine PySem.W.methodCall_KW (pl:=pl) (thn (he pins s σ H _ I h) fun u s1 ⟨x,H1,I1,rx,a,C,dx,fs,g,ex,ea,c,k,l,q⟩=>?_) ht
  subst ex
  obtain rfl:u=Value.ref a:=rx
  exact getmeth_ok I1 ea c k l (q s1 I1)
end
section
variable {X:Cx} {pins:List (Addr × Obj)} {σ:St} {H:Hp} {s:Shared} {A:Around} {E:Value→Shared→Prop} {Q:Value→Shared→Prop} {c:Value} {b:Bool}
inductive TyOf (K:PySem.W.Frag) (H:Hp):V→Value→Prop where
  | non:TyOf K H .non (.type "NoneType")
  | bl (x:Bool):TyOf K H (.bl x) (.type "bool")
  | int (i:Int):TyOf K H (.int i) (.type "int")
  | str (x:Str):TyOf K H (.str x) (.type "str")
  | flt (x:UInt64):TyOf K H (.flt x) (.type "float")
  | lst {a:Addr} {xs:List V} (e:H a=some (.lst xs)):TyOf K H (.ref a) (.type "list")
  | frz {a:Addr} {o:Obj} {xs:List V} (e:H a=some (.frz o (.lst xs))):TyOf K H (.ref a) (.type "list")
  | tup {a:Addr} {xs:List V} (e:H a=some (.tup xs)):TyOf K H (.ref a) (.type "tuple")
  | dK {a:Addr} {kvs:List (Key × V)} (e:H a=some (.dK kvs)):TyOf K H (.ref a) (.type "dict")
  | dT {a:Addr} {kvs:List (List Key × V)} (e:H a=some (.dT kvs)):TyOf K H (.ref a) (.type "dict")
  | ins {a C dx:Addr} {fs:List (Str × V)} (e:H a=some (.ins C dx fs)) (cl:Cls K C) (ha:PySem.W.findIn K (.ref C) "__class__" = some (some (.builtin "object.__class__")))
      (hn:PySem.W.specialIn K (.builtin "object.__class__") "__get__" = some (some (.builtin "getset_descriptor.__get__"))) (htk:PySem.W.takesIn K (.builtin "object.__class__")=some true)
      (hm:PySem.W.mroIn K C (.type "object")=some true):TyOf K H (.ref a) (.ref C)
theorem isinst_ok {x:V} {u t:Value} (I:Inv X pins σ H s) (rx:RelV x u) (ty:TyOf X.K H x t) (e:PySem.W.kitOne X.K t c=some b) (h:∀ tk,Q (.bool b) { s with toks:=tk }) :
    wpAny (model X.prog X.w) A (call (.builtin "isinstance") [u,c]) Q E s:=by
  cases ty with
  | non=>cases (show u=Value.none from rx); exact PySem.W.kia_one PySem.W.kitx_none I.kIn True.intro e (fun z=>nomatch z) h
  | bl y=>cases (show u=Value.bool y from rx); exact PySem.W.kia_one PySem.W.kitx_bool I.kIn True.intro e (fun z=>nomatch z) h
  | int i=>obtain ⟨t,q⟩:=(show ∃ t,u=Value.int i t from rx); cases q; exact PySem.W.kia_one PySem.W.kitx_int I.kIn True.intro e (fun z=>nomatch z) h
  | str y=>obtain ⟨t,q⟩:=(show ∃ t,u=Value.str y t from rx); cases q; exact PySem.W.kia_one PySem.W.kitx_str I.kIn True.intro e (fun z=>nomatch z) h
  | flt y=>obtain ⟨t,q⟩:=(show ∃ t,u=Value.float y t from rx); cases q; exact PySem.W.kia_one PySem.W.kitx_float I.kIn True.intro e (fun z=>nomatch z) h
  | @lst a xs ea =>
    cases (show u=Value.ref a from rx)
    obtain ⟨_,_,n,_,h1⟩:=(show ObjOk X.prog X.w H s.heap a (.lst xs) from I.hok a _ ea)
    exact PySem.W.kia_one PySem.W.kitx_list I.kIn ⟨_,h1,rfl⟩ e (fun z=>nomatch z) h
  | @frz a ob xs ea =>
    cases (show u=Value.ref a from rx)
    obtain ⟨_,_,_,n,_,h1⟩:=(show ObjOk X.prog X.w H s.heap a (.frz ob (.lst xs)) from I.hok a _ ea)
    exact PySem.W.kia_one PySem.W.kitx_list I.kIn ⟨_,h1,rfl⟩ e (fun z=>nomatch z) h
  | @tup a xs ea =>
    cases (show u=Value.ref a from rx)
    obtain ⟨_,_,_,p⟩:=(show ObjOk X.prog X.w H s.heap a (.tup xs) from I.hok a _ ea)
    obtain ⟨o,h1,⟨h2,_⟩,_⟩:=p
    exact PySem.W.kia_one PySem.W.kitx_tuple I.kIn ⟨o,h1,h2⟩ e (fun z=>nomatch z) h
  | @dK a kvs ea =>
    cases (show u=Value.ref a from rx)
    obtain ⟨_,_,vs,_,p⟩:=(show ObjOk X.prog X.w H s.heap a (.dK kvs) from I.hok a _ ea)
    obtain ⟨o,es,ep,h1,h2,_⟩:=p
    exact PySem.W.kia_one PySem.W.kitx_dict I.kIn ⟨o,h1,h2.1⟩ e (fun z=>nomatch z) h
  | @dT a kvs ea =>
    cases (show u=Value.ref a from rx)
    obtain ⟨_,_,xs,_,o,es,ep,h1,h2,_⟩:=(show ObjOk X.prog X.w H s.heap a (.dT kvs) from I.hok a _ ea)
    exact PySem.W.kia_one PySem.W.kitx_dict I.kIn ⟨o,h1,h2.1⟩ e (fun z=>nomatch z) h
  | @ins a C dx fs ea cl ha hn htk hm =>
    cases (show u=Value.ref a from rx)
    obtain ⟨mA,O,_⟩:=ins_get I.hok ea
    obtain ⟨od,J,_⟩:=O.look
    exact PySem.W.kia_one (PySem.W.kitx_own (cl.get _) cl.hd ha hn htk hm) I.kIn J e (fun z=>nomatch z) h
end
end L2
namespace L2
open PySem PySem.Spec PyProof.Rows
structure Room (k:Nat) (A:Around):Prop where
  hd:A.handled=none
  dp:A.depth + 3 * k + 5 < recursionLimit
  un:A.units + 16 * k + 200 < cLine
theorem Room.mono {j k:Nat} {A:Around} (r:Room k A) (h:j ≤ k):Room j A:=⟨r.hd,by have:=r.dp; omega,by have:=r.un; omega⟩
theorem Room.deeper {k:Nat} {A:Around} (r:Room (k + 1) A) (env:Env):Room k (A.deeper env) :=
  ⟨r.hd,by have:=r.dp; show A.depth + 1 + 3 * k + 5 < _; omega,by have:=r.un; show A.units + 3 + 16 * k + 200 < _; omega⟩
theorem make_depth {A:Around} {C:Addr} {us:List Value} {kw:List (Str × Value)}:(A.under (.builtin "type.__call__" ⟨.ref C :: us,kw⟩)).depth=A.depth + 1:=by
  first | rfl | simp [Around.under,Code.weight,Code.isCreation,Code.isGuard,Code.isCaller,Code.frames,Code.isFrame,guardIds]
theorem make_units {A:Around} {C:Addr} {us:List Value} {kw:List (Str × Value)}:(A.under (.builtin "type.__call__" ⟨.ref C :: us,kw⟩)).units=A.units + 1:=by
  first | rfl | simp [Around.under,Code.cUnits,Code.frames,Code.isFrame]
theorem Room.make {k:Nat} {A:Around} (r:Room (k + 1) A) (C:Addr) (us:List Value) (kw:List (Str × Value)):Room k (A.under (.builtin "type.__call__" ⟨.ref C :: us,kw⟩)) :=
  ⟨r.hd,by have:=r.dp; rw [make_depth]; omega,by have:=r.un; rw [make_units]; omega⟩
theorem Room.depth {k:Nat} {A:Around} (r:Room k A):A.depth < recursionLimit:=by have:=r.dp; omega
theorem Room.units {k:Nat} {A:Around} (r:Room k A):A.units + 64 < cLine:=by have:=r.un; omega
def tNil:TA:=fun _ H Q=>Q [] H
def tCons (ta:TE) (tr:TA):TA:=fun σ H Q=>ta σ H fun x H1=>tr σ H1 fun xs H2=>Q (x :: xs) H2
section
variable {X:Cx} {e:Expr} {es:List Expr} {te:TE} {t:TA} {pos:Pos}
theorem pa_nil:PA X [] tNil:=fun _ _ _ _ H Q I h=>Calls.spliced_nil ⟨[],H,I, .nil,h⟩
theorem pa_cons (ha:PE X e te) (hr:PA X es t) (hs:starEach (e :: es) X.env=(false,eval e X.env) :: starEach es X.env:=by rfl):PA X (e :: es) (tCons te t):=by
  intro pos pins s σ H Q I h
  rw [hs]
  show wpAny _ _ (spliced ((false,eval e X.env) :: backTo pos (starEach es X.env))) _ _ s
  refine Calls.spliced_cons (thn (ha pins s σ H _ I h) fun u s1 ⟨x,H1,I1,r1,q1⟩=>?_)
  exact thn (hr pos pins s1 σ H1 _ I1 q1) fun us s2 ⟨xs,H2,I2,r2,q2⟩=>⟨x :: xs,H2,I2, .cons r1 r2,q2⟩
def tTup (t:TA):TE:=fun σ H Q=>t σ H fun xs H1=>xs.length ≤ sizeLine∧∀ p,H1 p=none→Q (.ref p) (upd H1 p (.tup xs))
def tLst (t:TA):TE:=fun σ H Q=>t σ H fun xs H1=>xs.length ≤ sizeLine∧∀ p,H1 p=none→Q (.ref p) (upd H1 p (.lst xs))
theorem pe_tup {x1} (h:PA X es t):PE X (.Tuple es x1 pos) (tTup t):=by
  intro pins s σ H Q I hq
  refine wpAny_Tuple_spliced (thn (h pos pins s σ H _ I hq) fun us s1 ⟨xs,H1,I1,r,z,q⟩=>⟨by rw [← r.length]; exact z,?_⟩)
  have hf:H1 s1.heap.objs.size=none:=I1.hok.fresh (Nat.le_refl _)
  refine ⟨.ref s1.heap.objs.size,upd H1 s1.heap.objs.size (.tup xs),I1.laid (t':=s1.toks) (fun b u e=>Heap.get?_push_of_some _ e) (Nat.le_refl _) ?_,rfl,q _ hf⟩
  exact ⟨z,us,r,⟨_,Heap.get?_push_size _ rfl,⟨rfl,_,rfl⟩,rfl⟩⟩
theorem pe_lst (h:PA X es t):PE X (.List es pos) (tLst t):=by
  intro pins s σ H Q I hq
  refine wpAny_List_spliced (thn (h pos pins s σ H _ I hq) fun us s1 ⟨xs,H1,I1,r,z,q⟩=>⟨by rw [← r.length]; exact z,?_⟩)
  have hf:H1 s1.heap.objs.size=none:=I1.hok.fresh (Nat.le_refl _)
  refine ⟨.ref s1.heap.objs.size,upd H1 s1.heap.objs.size (.lst xs),I1.laid (t':=s1.toks) (fun b u e=>Heap.get?_push_of_some _ e) (Nat.le_refl _) ?_,rfl,q _ hf⟩
  exact ⟨z,us,0,r,Heap.get?_push_size _ rfl⟩
end
abbrev Sp:=List V→Hp→VK→XK→Prop
abbrev CXT:=List Env→Hp→Shared→XK→Value→Shared→Prop
structure Env0 (P:Program) (w:World) (K:PySem.W.Frag) (mg:Str→Option Value) (base:Heap) (A:Around) (outer:List Env) (s:Shared) (H:Hp):Prop where
  frames:A.frames=some outer
  mod:Mod K mg base
  bs:∀ b o,base.get? b=some o→s.heap.get? b=some o∧H b=none
  bsz:base.objs.size ≤ s.heap.objs.size
  funs:s.heap.FunFrames base outer
  frf:∀ b ∈ frs outer,H b=none
  hok:HOk P w H s.heap
  bare:AllBare s.gens
def CE (outer:List Env) (P:Program) (w:World) (H:Hp) (s:Shared) (Q:VK) (u:Value) (s':Shared):Prop :=
  ∃ v H',s'.os=s.os∧AllBare s'.gens∧Un (frs outer) [] H H' s.heap s'.heap∧HOk P w H' s'.heap∧RelV v u∧Q v H'
def CR (CX:CXT) (outer:List Env) (P:Program) (w:World) (H:Hp) (s:Shared) (Q:VK) (E:XK) (r:Result) (s':Shared):Prop :=
  match r with
  | .ok (.ret u)=>CE outer P w H s Q u s'
  | .ok _=>False
  | .error e=>CX outer H s E e s'
structure FnOk (P:Program) (w:World) (K:PySem.W.Frag) (mg:Str→Option Value) (base:Heap) (CX:CXT) (k:Nat) (f:Addr) (fd:FuncData) (ps:List Str) (sp:Sp):Prop where
  len:∀ vs H Q E,sp vs H Q E→vs.length=ps.length
  run:∀ (A:Around) (outer:List Env) (s:Shared) (H:Hp) (args:Args) (us:List Value) (vs:List V) (Q:VK) (E:XK),Room k A→Env0 P w K mg base A outer s H→BindsTo s fd args (ps.zip us)→Vals vs us→sp vs H Q E →
    codeAny (model P w) A (.call (.ref f) args) (CR CX outer P w H s Q E) s
theorem FnOk.imp {P:Program} {w:World} {K:PySem.W.Frag} {mg:Str→Option Value} {base:Heap} {CX:CXT} {k:Nat} {f:Addr} {fd:FuncData} {ps:List Str} {sp sp':Sp} (F:FnOk P w K mg base CX k f fd ps sp)
    (h:∀ vs H Q E,sp' vs H Q E→sp vs H Q E):FnOk P w K mg base CX k f fd ps sp' :=
  ⟨fun vs H Q E q=>F.len vs H Q E (h _ _ _ _ q),fun A outer s H args us vs Q E hr he hb hv hs=>F.run A outer s H args us vs Q E hr he hb hv (h _ _ _ _ hs)⟩
theorem Env0.make {P:Program} {w:World} {K:PySem.W.Frag} {mg:Str→Option Value} {base:Heap} {A:Around} {outer:List Env} {s:Shared} {H:Hp} (e:Env0 P w K mg base A outer s H) (C:Addr) (us:List Value) (kw:List (Str × Value)) :
    Env0 P w K mg base (A.under (.builtin "type.__call__" ⟨.ref C :: us,kw⟩)) outer s H:=⟨by first | exact e.frames | (simpa [Around.under,Code.envs,Code.isFrame,pushEnvs] using e.frames),e.mod,e.bs,e.bsz,e.funs,e.frf,e.hok,e.bare⟩
section
variable {X:Cx} {pins:List (Addr × Obj)} {σ:St} {H:Hp} {s s':Shared}
theorem Inv.env0 (I:Inv X pins σ H s):Env0 X.prog X.w X.K X.mg X.base X.A X.stack s H :=
  ⟨I.ok.frames,I.ok.mod,I.bs,Nat.le_trans I.ok.bsz I.sz,I.stack,I.stkFree,I.hok,I.bare⟩
theorem Inv.after {Q:VK} {u:Value} (I:Inv X pins σ H s) (h:CE X.stack X.prog X.w H s Q u s'):EP X pins σ Q u s':=by
  obtain ⟨v,H',os,bare,un,hok,r,q⟩:=h
  obtain ⟨hh,g,d,t,os'⟩:=s'
  obtain rfl:os' = s.os:=os
  exact ⟨v,H',I.call (h':=hh) (g':=g) (d':=d) (t':=t) (ch:=[]) un hok bare (fun b z=>absurd z (by simp)),r,q⟩
end
def tCall (sp:Sp) (dvs:List V) (E:XK) (t:TA):TE:=fun σ H Q=>t σ H fun vs H1=>sp (vs ++ dvs) H1 Q E
def tMeth (C:Addr) (m:Str) (sp:Sp) (dvs:List V) (E:XK) (ta:TE) (t:TA):TE:=fun σ H Q=>ta σ H fun x H1=>∃ a dx fs,x = .ref a∧H1 a=some (.ins C dx fs)∧fs.lookup m=none ∧
  t σ H1 fun vs H2=>sp (x :: (vs ++ dvs)) H2 Q E
def tMake (C:Addr) (sp:Sp) (dvs:List V) (E:XK) (t:TA):TE:=fun σ H Q=>t σ H fun vs H1=>∀ x dx,H1 x=none→H1 dx=none→dx ≠ x →
  sp (.ref x :: (vs ++ dvs)) (upd (upd H1 dx (.own x)) x (.ins C dx [])) (fun v H2=>v = .non∧Q (.ref x) H2) E
def Binds (K:PySem.W.Frag) (fd:FuncData) (ps:List Str) (ds:List Value):Prop :=
  ∀ (s:Shared) (us:List Value),K.In s.heap→(us ++ ds).length=ps.length→BindsTo s fd ⟨us,[]⟩ (ps.zip (us ++ ds))
theorem Binds.all {K:PySem.W.Frag} {fd:FuncData} {ps:List Str} (h:∀ us:List Value,us.length=ps.length→bindArgs fd ⟨us,[]⟩ = pure (ps.zip us)):Binds K fd ps []:=fun s us _ hl=>by
  rw [List.append_nil] at hl ⊢
  exact .of_eq (h us hl)
def Passes (CX:CXT) (X:Cx) (E:XK):Prop:=∀ (pins:List (Addr × Obj)) (σ:St) (H:Hp) (s:Shared) (e:Value) (s':Shared),Inv X pins σ H s→CX X.stack H s E e s'→X.xe e s'
section
variable {X:Cx} {CX:CXT} {k:Nat} {f C:Addr} {fd:FuncData} {ps:List Str} {sp:Sp} {dvs:List V} {ds:List Value} {E:XK} {x m:Str} {p pos apos:Pos} {e o:Expr} {es:List Expr} {ta:TE} {t:TA}
theorem run_fn {pins:List (Addr × Obj)} {σ:St} {H:Hp} {s:Shared} {Q:VK} {us:List Value} {vs:List V} (F:FnOk X.prog X.w X.K X.mg X.base CX k f fd ps sp) (hr:Room k X.A) (hb:Binds X.K fd ps ds) (hd:Vals dvs ds) (hx:Passes CX X E)
    (I:Inv X pins σ H s) (r:Vals vs us) (h:sp (vs ++ dvs) H Q E):wpAny (model X.prog X.w) X.A (call (.ref f) us) (EP X pins σ Q) X.xe s:=by
  have r2:Vals (vs ++ dvs) (us ++ ds):=r.append hd
  have hl:(us ++ ds).length=ps.length:=by rw [← r2.length]; exact F.len _ _ _ _ h
  refine wpAny_call (codeAny_mono (F.run X.A X.stack s H ⟨us,[]⟩ (us ++ ds) (vs ++ dvs) Q E hr I.env0 (hb s us I.kIn hl) r2 h) fun r s' hq=>?_)
  cases r with
  | error e=>exact hx pins σ H s e s' I hq
  | ok fl =>
    cases fl with
    | ret u=>exact I.after hq
    | next=>exact False.elim hq
    | brk=>exact False.elim hq
    | cont=>exact False.elim hq
theorem pe_call (F:FnOk X.prog X.w X.K X.mg X.base CX k f fd ps sp) (hr:Room k X.A) (hg:Gl X x) (hm:X.mg x=some (.ref f)) (hk:PySem.W.keepIn X.K (.ref f)=true) (hb:Binds X.K fd ps ds) (hd:Vals dvs ds) (hx:Passes CX X E)
    (ha:PA X (e :: es) t) (hdb:(x == ("__debug__":Str))=false:=by decide) (he:starEach (e :: es) X.env=(false,eval e X.env) :: starEach es X.env:=by rfl) (hpl:(backTo pos (starEach es X.env)).any (·.1)=false:=by rfl) :
    PE X (.Call (.Name x p) (e :: es) [] pos) (tCall sp dvs E t):=by
  intro pins s σ H Q I h
  refine wpAny_Call_Name_kw (ld_glob I hg hm ?_ hdb)
  refine PySem.W.callWith_K (h₀:=X.base) I.ok.mod.kin hk (thn (ha pos pins s σ H _ I h) fun us s1 ⟨vs,H1,I1,r,q⟩=>⟨I1.kIn,?_⟩) he hpl
  exact run_fn F hr hb hd hx I1 r q
theorem pe_meth {pl:Sem Bool} (he:PE X o ta) (c:Cls X.K C) (hm:Meth X.K C m f) (F:FnOk X.prog X.w X.K X.mg X.base CX k f fd ps sp) (hr:Room k X.A) (hb:Binds X.K fd ps ds) (hd:Vals dvs ds) (hx:Passes CX X E) (ha:PA X (e :: es) t)
    (hst:starEach (e :: es) X.env=(false,eval e X.env) :: starEach es X.env:=by rfl) (hpl:(backTo pos (starEach es X.env)).any (·.1)=false:=by rfl)
    (ht:eval (.Call (.Attribute o m apos) (e :: es) [] pos) X.env=(do
      let ov ← eval o X.env
      standAt apos.atName
      let (f,first) ← holding [ov] (getMethod ov m pl)
      callWith pos f first (backTo pos (starEach (e :: es) X.env)) (backToKw pos (keywordEach [] X.env))):=by rfl) :
    PE X (.Call (.Attribute o m apos) (e :: es) [] pos) (tMeth C m sp dvs E ta t):=by
  intro pins s σ H Q I h
  refine PySem.W.methodCall_KW (pl:=pl) (thn (he pins s σ H _ I h) fun u s1 ⟨x,H1,I1,rx,a,dx,fs,ex,ea,l,q⟩=>?_) ht
  subst ex
  obtain rfl:u=Value.ref a:=rx
  refine getmeth_ok I1 ea c hm l ?_
  refine PySem.W.callWith_K (first:=[.ref a]) (h₀:=X.base) I.ok.mod.kin hm.kp (thn (ha pos pins s1 σ H1 _ I1 q) fun us s2 ⟨vs,H2,I2,r,q2⟩=>⟨I2.kIn,?_⟩) hst hpl
  exact run_fn (us := .ref a :: us) (vs := .ref a :: vs) F hr hb hd hx I2 (.cons rfl r) q2
theorem pe_meth0 {pl:Sem Bool} (he:PE X o ta) (c:Cls X.K C) (hm:Meth X.K C m f) (F:FnOk X.prog X.w X.K X.mg X.base CX k f fd ps sp) (hr:Room k X.A) (hb:Binds X.K fd ps ds) (hd:Vals dvs ds) (hx:Passes CX X E)
    (ht:eval (.Call (.Attribute o m apos) [] [] pos) X.env=(do
      let ov ← eval o X.env
      standAt apos.atName
      let (f,first) ← holding [ov] (getMethod ov m pl)
      callWith pos f first (backTo pos (starEach [] X.env)) (backToKw pos (keywordEach [] X.env))):=by rfl) :
    PE X (.Call (.Attribute o m apos) [] [] pos) (tMeth C m sp dvs E ta tNil):=by
  intro pins s σ H Q I h
  refine PySem.W.methodCall_KW (pl:=pl) (thn (he pins s σ H _ I h) fun u s1 ⟨x,H1,I1,rx,a,dx,fs,ex,ea,l,q⟩=>?_) ht
  subst ex
  obtain rfl:u=Value.ref a:=rx
  refine getmeth_ok I1 ea c hm l ?_
  exact PySem.W.callWith_K0 (first:=[.ref a]) I1.kIn hm.kp (run_fn (us:=[.ref a]) (vs:=[.ref a]) F hr hb hd hx I1 (.cons rfl .nil) q)
structure Mk (K:PySem.W.Frag) (C f:Addr):Prop where
  makes:PySem.W.makesIn K C=true
  init:PySem.W.findIn K (.ref C) "__init__" = some (some (.ref f))
  fn:PySem.W.isFn K (.ref f)=true
  kp:PySem.W.keepIn K (.ref C)=true
theorem run_make {pins:List (Addr × Obj)} {σ:St} {H:Hp} {s:Shared} {Q:VK} {us:List Value} {vs:List V} (M:Mk X.K C f) (F:FnOk X.prog X.w X.K X.mg X.base CX k f fd ps sp) (hr:Room (k + 1) X.A) (hb:Binds X.K fd ps ds) (hd:Vals dvs ds)
    (hx:Passes CX X E) (I:Inv X pins σ H s) (r:Vals vs us)
    (h:∀ x dx,H x=none→H dx=none→dx ≠ x→sp (.ref x :: (vs ++ dvs)) (upd (upd H dx (.own x)) x (.ins C dx [])) (fun v H2=>v = .non∧Q (.ref x) H2) E) :
    wpAny (model X.prog X.w) X.A (call (.ref C) us) (EP X pins σ Q) X.xe s:=by
  have hq:=h (s.heap.objs.size + 1) s.heap.objs.size (I.hok.fresh (Nat.le_succ _)) (I.hok.fresh (Nat.le_refl _)) (Nat.ne_of_lt (Nat.lt_succ_self _))
  have I2:=Inv.made (C:=C) I
  have r2:Vals (V.ref (s.heap.objs.size + 1) :: (vs ++ dvs)) (Value.ref (s.heap.objs.size + 1) :: (us ++ ds)) := .cons rfl (r.append hd)
  have hl:(Value.ref (s.heap.objs.size + 1) :: us ++ ds).length=ps.length:=by
    have e:=r2.length
    rw [F.len _ _ _ _ hq] at e
    exact e.symm
  refine wpAny_call (make_map (f:=f) I.kIn M.makes M.init (beq_iff_eq.mp M.fn) (codeAny_mono (F.run _ X.stack _ _ ⟨Value.ref (s.heap.objs.size + 1) :: us,[]⟩ (Value.ref (s.heap.objs.size + 1) :: (us ++ ds)) _ _ E (hr.make C us [])
    (I2.env0.make C us []) (hb _ (Value.ref (s.heap.objs.size + 1) :: us) I2.kIn hl) r2 hq) fun r s' hq'=>?_))
  cases r with
  | error e=>exact hx pins σ _ _ e s' I2 hq'
  | ok fl =>
    cases fl with
    | ret u =>
      obtain ⟨v,H',I3,rv,ev,q3⟩:=I2.after hq'
      subst ev
      exact ⟨rv,⟨V.ref (s.heap.objs.size + 1),H',I3,rfl,q3⟩⟩
    | next=>exact False.elim hq'
    | brk=>exact False.elim hq'
    | cont=>exact False.elim hq'
theorem pe_make (M:Mk X.K C f) (F:FnOk X.prog X.w X.K X.mg X.base CX k f fd ps sp) (hr:Room (k + 1) X.A) (hg:Gl X x) (hm:X.mg x=some (.ref C)) (hb:Binds X.K fd ps ds) (hd:Vals dvs ds) (hx:Passes CX X E)
    (ha:PA X (e :: es) t) (hdb:(x == ("__debug__":Str))=false:=by decide) (he:starEach (e :: es) X.env=(false,eval e X.env) :: starEach es X.env:=by rfl) (hpl:(backTo pos (starEach es X.env)).any (·.1)=false:=by rfl) :
    PE X (.Call (.Name x p) (e :: es) [] pos) (tMake C sp dvs E t):=by
  intro pins s σ H Q I h
  refine wpAny_Call_Name_kw (ld_glob I hg hm ?_ hdb)
  refine PySem.W.callWith_K (h₀:=X.base) I.ok.mod.kin M.kp (thn (ha pos pins s σ H _ I h) fun us s1 ⟨vs,H1,I1,r,q⟩=>⟨I1.kIn,?_⟩) he hpl
  exact run_make M F hr hb hd hx I1 r q
end
def PK (X:Cx) (kws:List Keyword) (t:TA):Prop :=
  ∀ (pos:Pos) (pins:List (Addr × Obj)) (s:Shared) (σ:St) (H:Hp) (Q:List V→Hp→Prop),Inv X pins σ H s→t σ H Q→wpAny (model X.prog X.w) X.A (evalAll ((backToKw pos (keywordEach kws X.env)).map (·.2))) (AP X pins σ Q) X.xe s
section
variable {X:Cx} {CX:CXT} {k:Nat} {f C:Addr} {fd:FuncData} {ps ks:List Str} {sp:Sp} {E:XK} {x m:Str} {p pos apos kpos:Pos} {e o:Expr} {es:List Expr} {kws:List Keyword} {te ta:TE} {t tk:TA} {nm:Option Str}
structure KBinds (K:PySem.W.Frag) (fd:FuncData) (ps ks:List Str) (g:List Value→List Value→List Value) (gV:List V→List V→List V):Prop where
  to:∀ (s:Shared) (us ws:List Value),K.In s.heap→(g us ws).length=ps.length→BindsTo s fd ⟨us,ks.zip ws⟩ (ps.zip (g us ws))
  rel:∀ {vs:List V} {us:List Value} {zs:List V} {ws:List Value},Vals vs us→Vals zs ws→Vals (gV vs zs) (g us ws)
def tCallK (sp:Sp) (gV:List V→List V→List V) (E:XK) (t tk:TA):TE:=fun σ H Q=>t σ H fun vs H1=>tk σ H1 fun zs H2=>sp (gV vs zs) H2 Q E
variable {g:List Value→List Value→List Value} {gV:List V→List V→List V}
end
structure FnScope (N P:List Str) (sc:Scope):Prop where
  kind:sc.kind = .function
  co:sc.isCoroutine=false
  gen:sc.isGenerator=false
  nd:N.Nodup
  pre:N.take P.length=P
  par:∀ x ∈ P,sc.names.lookup x=some .local∨sc.names.lookup x=some .cell
  nofree:∀ y ∈ sc.names,y.2 ≠ .free
theorem bindL_out {kindOf:Str→Option NameKind} {x:Str}:∀ {binds:List (Str × Value)} {m:Str→Option Value},(∀ v,(x,v) ∉ binds)→bindL kindOf binds m x=m x
  | [],_,_=>rfl
  | (n,v) :: r,m,h=>by
    unfold bindL
    rw [bindL_out fun w hw=>h w (List.mem_cons_of_mem _ hw)]
    split
    · have:x ≠ n:=by rintro rfl; exact h v List.mem_cons_self
      simp [this]
    · rfl
theorem bindC_out {kindOf:Str→Option NameKind} {x:Str}:∀ {binds:List (Str × Value)} {m:Str→Option Value},(∀ v,(x,v) ∉ binds)→bindC kindOf binds m x=m x
  | [],_,_=>rfl
  | (n,v) :: r,m,h=>by
    unfold bindC
    rw [bindC_out fun w hw=>h w (List.mem_cons_of_mem _ hw)]
    split
    · rfl
    · have:x ≠ n:=by rintro rfl; exact h v List.mem_cons_self
      simp [this]
theorem bindL_get {kindOf:Str→Option NameKind} {x:Str} {v:Value}:∀ {P:List Str} {vs:List Value} {i:Nat} {m:Str→Option Value},P.Nodup→P[i]? = some x→vs[i]? = some v→kindOf x=some .local →
    bindL kindOf (P.zip vs) m x=some v
  | [],_,_,_,_,h,_,_=>by simp at h
  | _ :: _,[],_,_,_,_,h,_=>by simp at h
  | p :: P,w :: vs,0,m,nd,h1,h2,hk=>by
    simp at h1 h2; subst h1; subst h2
    show bindL kindOf ((p,w) :: P.zip vs) m p=_
    unfold bindL
    rw [bindL_out fun v hv=>(List.nodup_cons.mp nd).1 (List.of_mem_zip hv).1,if_pos hk]
    simp
  | p :: P,w :: vs,i + 1,m,nd,h1,h2,hk=>by
    show bindL kindOf ((p,w) :: P.zip vs) m x=_
    unfold bindL
    exact bindL_get (i:=i) (List.nodup_cons.mp nd).2 (by simpa using h1) (by simpa using h2) hk
theorem bindC_get {kindOf:Str→Option NameKind} {x:Str} {v:Value}:∀ {P:List Str} {vs:List Value} {i:Nat} {m:Str→Option Value},P.Nodup→P[i]? = some x→vs[i]? = some v→kindOf x ≠ some .local →
    bindC kindOf (P.zip vs) m x=some v
  | [],_,_,_,_,h,_,_=>by simp at h
  | _ :: _,[],_,_,_,_,h,_=>by simp at h
  | p :: P,w :: vs,0,m,nd,h1,h2,hk=>by
    simp at h1 h2; subst h1; subst h2
    show bindC kindOf ((p,w) :: P.zip vs) m p=_
    unfold bindC
    rw [bindC_out fun v hv=>(List.nodup_cons.mp nd).1 (List.of_mem_zip hv).1,if_neg hk]
    simp
  | p :: P,w :: vs,i + 1,m,nd,h1,h2,hk=>by
    show bindC kindOf ((p,w) :: P.zip vs) m x=_
    unfold bindC
    exact bindC_get (i:=i) (List.nodup_cons.mp nd).2 (by simpa using h1) (by simpa using h2) hk
def start (N:List Str) (vs:List V):St:=vs.map some ++ List.replicate (N.length - vs.length) none
def cxOf (CX:CXT) (P:Program) (w:World) (K:PySem.W.Frag) (mg:Str→Option Value) (base:Heap) (N:List Str) (qual:Str) (scope:Scope) (f:Addr) (cd:Value) (A:Around) (outer:List Env) (s:Shared) (H:Hp) (E:XK):Cx where
  prog:=P
  w:=w
  K:=K
  mg:=mg
  base:=base
  A:=A.deeper (envOfC qual scope s.heap.objs.size f cd)
  N:=N
  s₀:=s
  H₀:=H
  env:=envOfC qual scope s.heap.objs.size f cd
  outer:=outer
  stack:=envOfC qual scope s.heap.objs.size f cd :: outer
  ex:=[]
  calm:=true
  fn:=fun _=>true
  pn:=[]
  xe:=fun e s'=>wpAny (model P w) (A.deeper (envOfC qual scope s.heap.objs.size f cd)) (leaving (envOfC qual scope s.heap.objs.size f cd) e) (fun _ s''=>CX outer H s E e s'') (fun e' s''=>CX outer H s E e' s'') s'
theorem cell_has {sc:Scope} {n:Nat} {x:Str} (h:sc.names.lookup x=some .cell):∃ c,(cellsFrom n sc.names []).lookup x=some c:=by
  have q:=PySem.W.cellsFrom_some sc.names n [] (.inl h)
  exact Option.isSome_iff_exists.mp q
theorem inv_start {CX:CXT} {P:Program} {w:World} {K:PySem.W.Frag} {mg:Str→Option Value} {base:Heap} {N ps:List Str} {qual:Str} {scope:Scope} {f:Addr} {cd:Value} {A:Around} {outer:List Env} {s s1:Shared} {H:Hp} {E:XK} {us:List Value} {vs:List V}
    (S:FnScope N ps scope) (hd:A.handled=none) (e0:Env0 P w K mg base A outer s H) (hl:vs.length=ps.length) (r:Vals vs us)
    (x:InCallC s s.heap.objs.size (bindL (envOfC qual scope s.heap.objs.size f cd).kindOf (ps.zip us) fun _=>none) (cellsFrom (s.heap.objs.size + 1) scope.names []) (bindC (envOfC qual scope s.heap.objs.size f cd).kindOf (ps.zip us) fun _=>none) s1) :
    Inv (cxOf CX P w K mg base N qual scope f cd A outer s H E) [] (start N vs) H s1:=by
  have hpl:ps.length ≤ N.length:=by have:=congrArg List.length S.pre; rw [List.length_take] at this; omega
  obtain ⟨h1,tk,rfl,hk⟩:=x.done
  have noA:∀ b:Addr,b ∉ (cxOf CX P w K mg base N qual scope f cd A outer s H E).ex:=fun b z=>absurd (show b ∈ ([]:List Addr) from z) (by simp)
  refine ⟨⟨e0.mod,S.kind,rfl,rfl,Nat.le_refl _,fun y z c h1 h2=>?_,fun y hy=>?_,fun y c _ h=>?_,fun _=>hd,Around.frames_deeper e0.frames, .inr ⟨rfl,rfl⟩,fun b z=>absurd z (noA b),e0.bs,e0.bsz,fun b _ _=>noA b,fun b z=>absurd z (noA b),e0.funs,e0.frf⟩,
    rfl,e0.bare,Un.kept hk,⟨_,x.toInCall.ns,fun i y v h1 h2 h3=>?_⟩,fun y c h=>⟨_,x.cell y c h⟩,e0.hok.fresh (Nat.le_refl _),fun y c h=>?_,fun p hp=>absurd (show p ∈ ([]:List (Addr × Obj)) from hp) (by simp),e0.hok.kept hk,?_⟩
  · exact name_of_addr x.apart (PySem.mem_of_lookup h1) (PySem.mem_of_lookup h2)
  · have hy:scope.names.lookup y=some .cell∨scope.names.lookup y=some .free:=hy
    rcases hy with hy | hy
    · exact cell_has hy
    · exact absurd rfl (S.nofree _ (PySem.mem_of_lookup hy))
  · exact Nat.le_of_lt (x.above y c (PySem.mem_of_lookup h))
  · have hi:i < vs.length:=by
      unfold start at h2
      by_cases hi:i < vs.length
      · exact hi
      · rw [List.getElem?_append_right (by simpa using hi)] at h2
        rw [List.getElem?_replicate] at h2
        split at h2 <;> cases h2
    have ha:vs[i]? = some v:=by
      unfold start at h2
      rw [List.getElem?_append_left (by simpa using hi),List.getElem?_map] at h2
      cases e:vs[i]? with
      | none=>rw [e] at h2; cases h2
      | some a=>rw [e] at h2; cases h2; rfl
    obtain ⟨u,hu,rv⟩:=r.get ha
    have hp:ps[i]? = some y:=by
      rw [← S.pre,List.getElem?_take_of_lt (by omega)]; exact h1
    have ndP:ps.Nodup:=by rw [← S.pre]; exact S.nd.sublist (List.take_sublist _ _)
    refine ⟨u,rv,?_⟩
    rcases S.par y (List.mem_of_getElem? hp) with k | k
    · exact .inl ⟨k,bindL_get ndP hp hu k⟩
    · obtain ⟨c,e⟩:=cell_has (n:=s.heap.objs.size + 1) k
      refine .inr ⟨.inl k,c,e,?_⟩
      have q:=x.cell y c e
      rw [bindC_get ndP hp hu (by show scope.names.lookup y ≠ _; rw [k]; decide)] at q
      exact q
  · exact e0.hok.fresh (Nat.le_of_lt (x.above y c (PySem.mem_of_lookup h)))
  · unfold start
    show _=N.length
    rw [List.length_append,List.length_map,List.length_replicate]
    omega
theorem fn_of {CX:CXT} {P:Program} {w:World} {K:PySem.W.Frag} {mg:Str→Option Value} {base:Heap} {k:Nat} {f:Addr} {name qual:Str} {params:Arguments} {body:List Stmt} {scope:Scope} {dV kV doc pm cdv ct oc:Value} {an od:Option Addr}
    {osl:Array (Option Value)} {N ps:List Str} {sp:Sp} (lk:K.lookup f=some ⟨oc,od, .func (PySem.W.fnOf name qual params body scope dV kV doc pm an cdv ct),osl⟩) (hcd:PySem.W.codeIn K cdv qual=true) (S:FnScope N ps scope)
    (len:∀ vs H Q E,sp vs H Q E→vs.length=ps.length)
    (hbody:∀ (A:Around) (outer:List Env) (s:Shared) (H:Hp) (vs:List V) (Q:VK) (E:XK),Room k (A.deeper (envOfC qual scope s.heap.objs.size f cdv))→sp vs H Q E →
      ∃ t,PSs (cxOf CX P w K mg base N qual scope f cdv A outer s H E) body t∧t { nx:=fun _ H'=>Q .non H',rt:=Q } (start N vs) H) :
    FnOk P w K mg base CX (k + 1) f (PySem.W.fnOf name qual params body scope dV kV doc pm an cdv ct) ps sp:=by
  refine ⟨len,fun A outer s H args us vs Q E hr e0 hb r hsp=>?_⟩
  have hl:=len _ _ _ _ hsp
  have KX:K.In s.heap:=e0.mod.kin.keeps fun b o e=>(e0.bs b o e).1
  have lim:s.heap.NoLimit:=e0.mod.nolimit.keeps fun b o e=>(e0.bs b o e).1
  have hkind:∀ y ∈ ps.zip us,scope.names.lookup y.1=some .local∨(scope.names.lookup y.1=some .cell∧((cellsFrom (s.heap.objs.size + 1) scope.names []).lookup y.1).isSome=true):=fun ⟨n,v⟩ hy=>by
    rcases S.par n (List.of_mem_zip hy).1 with q | q
    · exact .inl q
    · exact .inr ⟨q,PySem.W.cellsFrom_some _ _ _ (.inl q)⟩
  refine codeAny_call_function hr.depth (KX _ _ lk) rfl S.co S.gen rfl (PySem.W.codeRec_of KX hcd) (hb _ _ _ _ ?_)
  refine wpAny_newFunctionEnv_cells S.kind hkind fun env he s1 x=>?_
  subst he
  refine ⟨lim.keeps x.toInCall.keep,codeAny_func ?_⟩
  obtain ⟨t,ht,hq⟩:=hbody A outer s H vs Q E (hr.deeper _) hsp
  have I:Inv (cxOf CX P w K mg base N qual scope f cdv A outer s H E) [] (start N vs) H s1:=inv_start S hr.hd e0 hl r x
  refine wpAny_mono (ht [] s1 (start N vs) H _ I hq) (fun fl s' hs=>?_) fun e s' hs=>hs
  have fin:∀ {σ':St} {H':Hp} {v:V} {u:Value},Inv (cxOf CX P w K mg base N qual scope f cdv A outer s H E) [] σ' H' s'→RelV v u→Q v H'→CE outer P w H s Q u s' :=
    fun {σ' H' v u} J rv q=>⟨v,H',J.os,J.bare,J.base,J.hok,rv,q⟩
  cases fl with
  | ret u =>
    obtain ⟨v,σ',H',J,rv,q⟩:=hs
    exact fin J rv q
  | next =>
    obtain ⟨σ',H',J,q⟩:=hs
    exact fin (v:=V.non) (u:=Value.none) J rfl q
  | brk =>
    obtain ⟨_,_,_,q⟩:=hs
    exact False.elim q
  | cont =>
    obtain ⟨_,_,_,q⟩:=hs
    exact False.elim q
end L2
namespace L2
open PySem PySem.Spec PyProof.Rows
section
variable {X:Cx} {x:Str} {p pos:Pos} {e:Expr} {es:List Expr} {t:TA} {id T:String} {r:List V→Hp→VK→Prop}
def tCB (r:List V→Hp→VK→Prop) (t:TA):TE:=fun σ H Q=>t σ H fun vs H1=>r vs H1 Q
theorem pe_callB (hc:CallR X (.builtin id) r) (hg:Gl X x) (hm:X.mg x=none) (hv:bootBuiltins x=some (.builtin id)) (ha:PA X (e :: es) t) (hn:x ≠ "__name__":=by decide) (hdb:(x == ("__debug__":Str))=false:=by decide)
    (he:starEach (e :: es) X.env=(false,eval e X.env) :: starEach es X.env:=by rfl) (hpl:(backTo pos (starEach es X.env)).any (·.1)=false:=by rfl):PE X (.Call (.Name x p) (e :: es) [] pos) (tCB r t):=by
  intro pins s σ H Q I h
  refine wpAny_Call_Name_kw (ld_blt I hg hm hv ?_ hn hdb)
  exact PyProof.Rows.callWith_builtin1 (thn (ha pos pins s σ H _ I h) fun us s1 ⟨vs,H1,I1,r1,q1⟩=>hc pins s1 σ H1 vs us Q I1 r1 q1) he hpl
theorem pe_callTy (hc:CallR X (.type T) r) (hg:Gl X x) (hm:X.mg x=none) (hv:bootBuiltins x=some (.type T)) (ha:PA X (e :: es) t) (hn:x ≠ "__name__":=by decide) (hdb:(x == ("__debug__":Str))=false:=by decide)
    (he:starEach (e :: es) X.env=(false,eval e X.env) :: starEach es X.env:=by rfl) (hpl:(backTo pos (starEach es X.env)).any (·.1)=false:=by rfl):PE X (.Call (.Name x p) (e :: es) [] pos) (tCB r t):=by
  intro pins s σ H Q I h
  refine wpAny_Call_Name_kw (ld_blt I hg hm hv ?_ hn hdb)
  exact PyProof.Rows.callWith_type1 (thn (ha pos pins s σ H _ I h) fun us s1 ⟨vs,H1,I1,r1,q1⟩=>hc pins s1 σ H1 vs us Q I1 r1 q1) he hpl
end
end L2
namespace HT
open PySem PyProof.Rows
def lexLt:List Int→List Int→Bool
  | [],[]=>false
  | [],_ :: _=>true
  | _ :: _,[]=>false
  | x :: xs,y :: ys=>if x=y then lexLt xs ys else decide (x < y)
section
open PySem.SeqAt
open PySem.AutoSeq1 (wpAny_loadPart')
open PySem.MeetsSeq PySem.MeetsSeq2 PySem.MeetsSeq3
end
section
variable {prog:Program} {w:World} {A:Around} {E:Value→Shared→Prop} {s:Shared}
theorem cat_tup {t b:Addr} {vs ws:List Value} {Q:Value→Shared→Prop} (ht:IsTup s.heap t vs.toArray) (hb:IsTup s.heap b ws.toArray) (hv:vs ≠ [])
    (h1:ws=[]→Q (.ref t) s) (h2:ws ≠ []→Q (.ref s.heap.objs.size) { s with heap:=s.heap.push { cls := .type "tuple",data := .seq (vs ++ ws).toArray } })
    (hsz:vs.length + ws.length ≤ sizeLine):wpAny (model prog w) A (binaryOp .Add (.ref t) (.ref b)) Q E s:=by
  obtain ⟨⟨cls,dd,data,sl⟩,ho,hc,n,hd⟩:=id ht
  obtain ⟨⟨cls2,dd2,data2,sl2⟩,ho2,hc2,n2,hd2⟩:=id hb
  simp only at hc hd hc2 hd2
  subst hc hd hc2 hd2
  have e:vs.toArray ++ ws.toArray=(vs ++ ws).toArray:=by simp
  by_cases hw:ws=[]
  · exact concat_meets ⟨_,ho,rfl⟩ ⟨_,ho2,rfl⟩ noFill_tuple_add seq_tuple_add PySem.F.slot_tuple_add PySem.F.entry_tuple_add (PySem.F.args_tuple_add_2 _ _)
      (tuple_addW1 t b vs.toArray ws.toArray n n2 dd dd2 sl sl2 (by simpa using hv) (by simp [hw])) ⟨ho,ho2,h1 hw⟩
  · refine concat_meets ⟨_,ho,rfl⟩ ⟨_,ho2,rfl⟩ noFill_tuple_add seq_tuple_add PySem.F.slot_tuple_add PySem.F.entry_tuple_add (PySem.F.args_tuple_add_2 _ _)
      (tuple_addW2 t b vs.toArray ws.toArray n n2 dd dd2 sl sl2 (by simpa using hv) (by simpa using hw) (by rw [List.size_toArray,List.size_toArray]; exact hsz)) ⟨ho,ho2,?_⟩
    rw [e]
    exact h2 hw
def sIx (n d:Nat):Option Int→Nat
  | none=>d
  | some v=>if v < 0 then (v + (n:Int)).toNat else min v.toNat n
theorem sIx_nat (n d k:Nat):sIx n d (some (k:Int))=min k n:=by
  show (if (k:Int) < 0 then ((k:Int) + (n:Int)).toNat else min (k:Int).toNat n)=min k n
  rw [if_neg (by omega),Int.toNat_natCast]
end
end HT
namespace L2
open PySem PySem.Spec PyProof.Rows
abbrev TO:=St→Hp→(Option Int→Hp→Prop)→Prop
def PO (X:Cx) (e:Option Expr) (t:TO):Prop :=
  ∀ (pins:List (Addr × Obj)) (s:Shared) (σ:St) (H:Hp) (Q:Option Int→Hp→Prop),Inv X pins σ H s→t σ H Q →
    wpAny (model X.prog X.w) X.A (evalPart e X.env) (fun u s'=>∃ o H',Inv X pins σ H' s'∧IsPart u o∧Q o H') X.xe s
def tNoPart:TO:=fun _ H Q=>Q none H
def tPart (t:TE):TO:=fun σ H Q=>t σ H fun x H1=>∃ i,x = .int i∧Q (some i) H1
theorem intsAre_of {ns:List Int}:∀ {us:List Value},Vals (ns.map V.int) us→IntsAre us ns:=by
  induction ns with
  | nil=>intro us r; rw [List.map_nil] at r; cases r; exact .nil
  | cons n ns ih =>
    intro us r
    rw [List.map_cons] at r
    cases r with
    | cons r1 r2 =>
      obtain ⟨t,e⟩:=r1
      subst e
      exact .cons n t (ih r2)
section
variable {X:Cx} {e:Expr} {te:TE} {lo hi:Option Expr} {tl th:TO} {pos p2:Pos}
theorem po_none:PO X none tNoPart:=by
  intro pins s σ H Q I h
  rw [evalPart_none]
  exact wpAny_pure ⟨none,H,I, .none,h⟩
theorem po_some (h:PE X e te):PO X (some e) (tPart te):=by
  intro pins s σ H Q I hw
  rw [evalPart_some]
  refine thn (h pins s σ H _ I hw) fun u s1 ⟨x,H1,I1,r1,q1⟩=>?_
  obtain ⟨i,rfl,q⟩:=q1
  obtain ⟨t,rfl⟩:=r1
  exact ⟨some i,H1,I1, .int i t,q⟩
def SlR (X:Cx) (r:V→Option Int→Option Int→Hp→VK→Prop):Prop :=
  ∀ (pins:List (Addr × Obj)) (s:Shared) (σ:St) (H:Hp) (x:V) (v vl vu:Value) (lo hi:Option Int) (sl:Addr) (Q:VK),Inv X pins σ H s→RelV x v→s.heap.IsSliceOf sl vl vu .none→IsPart vl lo→IsPart vu hi→r x lo hi H Q →
    ∃ T id,typeLookup (.type T) "__getitem__" = pure (some (.builtin id))∧s.TypeIs v T∧wpAny (model X.prog X.w) X.A (getItem v (.ref sl)) (EP X pins σ Q) X.xe s
def tSl (r:V→Option Int→Option Int→Hp→VK→Prop) (te:TE) (tl th:TO):TE:=fun σ H Q=>te σ H fun x H1=>tl σ H1 fun l H2=>th σ H2 fun u H3=>r x l u H3 Q
theorem pe_slice {r:V→Option Int→Option Int→Hp→VK→Prop} (hr:SlR X r) (he:PE X e te) (hl:PO X lo tl) (hu:PO X hi th):PE X (.Subscript e (.Slice lo hi none p2) pos) (tSl r te tl th):=by
  intro pins s σ H Q I h
  refine Subscript_ (thn (he pins s σ H _ I h) fun v s1 ⟨x,H1,I1,r1,q1⟩=>?_)
  refine wpAny_Slice (thn (hl pins s1 σ H1 _ I1 q1) fun vl s2 ⟨l,H2,I2,pl,q2⟩=>thn (hu pins s2 σ H2 _ I2 q2) fun vu s3 ⟨u,H3,I3,pu,q3⟩=>?_)
  rw [evalPart_none]
  refine wpAny_pure ?_
  have I4:Inv X pins σ H3 { s3 with heap:=s3.heap.push { cls := .type "slice",data := .fields #[vl,vu, .none] } }:=I3.kept (t':=s3.toks) fun b ob q=>Heap.get?_push_of_some _ q
  obtain ⟨T,id,hT,ht,hg⟩:=hr pins { s3 with heap:=s3.heap.push { cls := .type "slice",data := .fields #[vl,vu, .none] } } σ H3 x v vl vu l u s3.heap.objs.size Q I4 r1 (Heap.IsSliceOf.new ..) pl pu q3
  show wpAny (model X.prog X.w) X.A (subscriptTail e (.Slice lo hi none p2) v (.ref s3.heap.objs.size)) (EP X pins σ Q) X.xe { s3 with heap:=s3.heap.push { cls := .type "slice",data := .fields #[vl,vu, .none] } }
  exact tail_any (ops:=[.ref s3.heap.objs.size,v]) ht hT hg (by with_unfolding_all rfl)
def cutV (xs:List V) (lo hi:Option Int):List V:=(xs.drop (HT.sIx xs.length 0 lo)).take (HT.sIx xs.length xs.length hi - HT.sIx xs.length 0 lo)
theorem cutV_length (xs:List V) (lo hi:Option Int):(cutV xs lo hi).length ≤ xs.length:=by
  unfold cutV
  rw [List.length_take,List.length_drop]
  omega
def rSlT (K:PySem.W.Frag):V→Option Int→Option Int→Hp→VK→Prop:=fun x lo hi H Q=>∃ a xs,x = .ref a∧SqT K H a xs ∧
  ¬ (HT.sIx xs.length 0 lo=0∧HT.sIx xs.length xs.length hi=xs.length)∧∀ p,H p=none→Q (.ref p) (upd H p (.tup (cutV xs lo hi)))
def rLtT (K:PySem.W.Frag):R2:=fun x y H Q=>∃ a b ns ms,x = .ref a∧y = .ref b∧SqT K H a (ns.map V.int)∧SqT K H b (ms.map V.int)∧Q (.bl (HT.lexLt ns ms)) H
def rCatT (K:PySem.W.Frag):R2:=fun x y H Q=>∃ a b xs ys,x = .ref a∧y = .ref b∧SqT K H a xs∧SqT K H b ys∧xs ≠ []∧xs.length + ys.length ≤ sizeLine ∧
  (ys=[]→Q (.ref a) H)∧(ys ≠ []→∀ p,H p=none→Q (.ref p) (upd H p (.tup (xs ++ ys))))
theorem Vals.nil_iff {xs:List V} {us:List Value} (r:Vals xs us):us=[]↔xs=[]:=by
  cases r with
  | nil=>simp
  | cons _ _=>simp
theorem op_catT:OpR X (binaryOp .Add) (rCatT X.K):=by
  intro pins s σ H x y v u Q I rx ry h
  obtain ⟨a,b,xs,ys,rfl,rfl,ha,hb,hx,hz,q1,q2⟩:=h
  cases rx
  cases ry
  obtain ⟨its,r1,p1,_⟩:=I.tuple ha
  obtain ⟨its2,r2,p2,_⟩:=I.tuple hb
  refine HT.cat_tup p1 p2 (fun z=>hx (r1.nil_iff.mp z)) (fun z=>⟨.ref a,H,I,rfl,q1 (r2.nil_iff.mp z)⟩) (fun z=>?_) (by rw [← r1.length,← r2.length]; exact hz)
  refine ⟨.ref s.heap.objs.size,_,I.laid (t':=s.toks) (o := .tup (xs ++ ys)) (fun b ob q=>Heap.get?_push_of_some _ q) (Nat.le_refl _) ?_,rfl,q2 (fun w=>z (r2.nil_iff.mpr w)) _ (I.hok.fresh (Nat.le_refl _))⟩
  exact ⟨by rw [List.length_append]; exact hz,_,r1.append r2,IsTupN.new _ _⟩
end
end L2
namespace L2
open PySem PySem.Spec PyProof.Rows
def ixN (n:Nat) (i:Int):Option Nat:=if 0 ≤ i then (if i < n then some i.toNat else none) else if -(n:Int) ≤ i then some (i + n).toNat else none
def atI {α:Type} (xs:List α) (i:Int):Option α:=(ixN xs.length i).bind fun j=>xs[j]?
theorem ixN_seq {n:Nat} {i:Int} {j:Nat} (h:ixN n i=some j):seqIndex? i n=some j∧j < n∧-(n:Int) ≤ i∧i < n:=by
  unfold ixN at h
  by_cases h0:0 ≤ i
  · rw [if_pos h0] at h
    by_cases h1:i < n
    · rw [if_pos h1] at h
      have e:i.toNat=j:=Option.some.inj h
      exact ⟨by rw [seqIndex_of h0 h1,e],by omega,by omega,h1⟩
    · rw [if_neg h1] at h; cases h
  · rw [if_neg h0] at h
    by_cases h1:-(n:Int) ≤ i
    · rw [if_pos h1] at h
      have e:(i + n).toNat=j:=Option.some.inj h
      exact ⟨by rw [seqIndex_neg (by omega) h1,e],by omega,h1,by omega⟩
    · rw [if_neg h1] at h; cases h
theorem atI_get {α:Type} {xs:List α} {i:Int} {v:α} (h:atI xs i=some v):∃ j,seqIndex? i xs.length=some j∧xs[j]? = some v∧j < xs.length∧-(xs.length:Int) ≤ i∧i < xs.length:=by
  unfold atI at h
  cases e:ixN xs.length i with
  | none=>rw [e] at h; cases h
  | some j =>
    rw [e] at h
    obtain ⟨h1,h2,h3,h4⟩:=ixN_seq e
    exact ⟨j,h1,h,h2,h3,h4⟩
theorem atI_nat {α:Type} {xs:List α} {j:Nat} {v:α} (h:xs[j]? = some v):atI xs (j:Int)=some v:=by
  have hj:j < xs.length:=(List.getElem?_eq_some_iff.mp h).1
  have e:ixN xs.length (j:Int)=some j:=by
    unfold ixN
    rw [if_pos (by omega),if_pos (by omega)]; simp
  unfold atI; rw [e]; exact h
def PlainIx (b:Expr):Prop:=∀ o i,subscripted b false o i=operate [o,i] (getItem o i)
def IxR (X:Cx) (r:R2):Prop :=
  ∀ (value slice:Expr) (pins:List (Addr × Obj)) (s:Shared) (σ:St) (H:Hp) (x y:V) (v u:Value) (Q:VK),Inv X pins σ H s→RelV x v→RelV y u→r x y H Q →
    subscripted slice false v u=operate [v,u] (getItem v u)→wpAny (model X.prog X.w) X.A (subscriptTail value slice v u) (EP X pins σ Q) X.xe s
def MtR (X:Cx) (id:String) (r:V→List V→Hp→VK→Prop):Prop :=
  ∀ (pins:List (Addr × Obj)) (s:Shared) (σ:St) (H:Hp) (x:V) (xs:List V) (v:Value) (us:List Value) (Q:VK),Inv X pins σ H s→RelV x v→Vals xs us→r x xs H Q →
    wpAny (model X.prog X.w) X.A (call (.builtin id) (v :: us)) (EP X pins σ Q) X.xe s
section
variable {X:Cx} {a b:Expr} {ta tb:TE} {pos:Pos}
theorem pe_ix {r:R2} (hr:IxR X r) (ha:PE X a ta) (hb:PE X b tb) (hs:PlainIx b):PE X (.Subscript a b pos) (tOp r ta tb):=by
  intro pins s σ H Q I h
  exact Subscript_ (binT ha hb I h fun v u s2 x y H2 I2 rx ry q=>hr a b pins s2 σ H2 x y v u Q I2 rx ry q (hs _ _))
def rIxL (K:PySem.W.Frag):R2:=fun x y H Q=>∃ p xs i v,x = .ref p∧y = .int i∧SqL K H p xs∧atI xs i=some v∧Q v H
def rIxT (K:PySem.W.Frag):R2:=fun x y H Q=>∃ p xs i v,x = .ref p∧y = .int i∧SqT K H p xs∧atI xs i=some v∧Q v H
def rIxS:R2:=fun x y H Q=>∃ z i c,x = .str z∧y = .int i∧z.length ≤ sizeLine∧atI z.cps.toList i=some c∧Q (.str ⟨#[c]⟩) H
theorem ix_list:IxR X (rIxL X.K):=by
  intro value slice pins s σ H x y v u Q I rx ry h hs
  obtain ⟨p,xs,i,z,rfl,rfl,hq,he,q⟩:=h
  cases rx
  obtain ⟨t,rfl⟩:=ry
  obtain ⟨its,r,pl,hz⟩:=I.list hq
  obtain ⟨j,h1,h2,h3,h4,h5⟩:=atI_get he
  obtain ⟨w,ew,rw'⟩:=r.get h2
  have hl:=r.length
  have hn:=line63
  have fin:EP X pins σ Q w s:=⟨z,H,I,rw',q⟩
  by_cases h0:0 ≤ i
  · have hj:i.toNat=j:=by
      rw [seqIndex_of h0 h5] at h1
      exact Option.some.inj h1
    exact item_listR pl.isList h0 (by omega) (by rw [hj]; simpa using ew) fin hs
  · have hj:(i + (its.toArray.size:Int)).toNat=j:=by
      rw [seqIndex_neg (by omega) h4] at h1
      rw [List.size_toArray,← hl]
      exact Option.some.inj h1
    exact subscriptTail_builtinR (x:=w) pl.isList.typeIs slot_list_getitem.lookup
      (wpAny_getItem_list_neg (Q:=fun r s'=>r=w∧EP X pins σ Q r s') pl.isList (by omega) (by rw [List.size_toArray] <;> omega) (by omega) (by rw [hj]; simpa using ew) ⟨rfl,fin⟩) hs
theorem ix_tup:IxR X (rIxT X.K):=by
  intro value slice pins s σ H x y v u Q I rx ry h hs
  obtain ⟨p,xs,i,z,rfl,rfl,hq,he,q⟩:=h
  cases rx
  obtain ⟨t,rfl⟩:=ry
  obtain ⟨its,r,pl,hz⟩:=I.tuple hq
  obtain ⟨j,h1,h2,h3,h4,h5⟩:=atI_get he
  obtain ⟨w,ew,rw'⟩:=r.get h2
  have hl:=r.length
  have hn:=line63
  have fin:EP X pins σ Q w s:=⟨z,H,I,rw',q⟩
  exact subscriptTail_builtinR (x:=w) pl.typeIs slot_tuple_getitem.lookup
    (getItem_tuple (j:=j) (Q:=fun r s'=>r=w∧EP X pins σ Q r s') pl (by omega) (by omega) (by rw [List.size_toArray,← hl]; exact h1) (by simpa using ew) ⟨rfl,fin⟩) hs
def rIx (K:PySem.W.Frag):R2:=fun x y H Q=>rIxL K x y H Q∨rIxT K x y H Q∨rIxS x y H Q
theorem mapSeq_set (its:List Value) (n j:Nat) (u:Value):Obj.mapSeq (·.setIfInBounds j u) { cls := .type "list",data := .seq its.toArray n } = { cls := .type "list",data := .seq (its.set j u).toArray n }:=by
  simp [Obj.mapSeq]
theorem Inv.lst {pins:List (Addr × Obj)} {σ:St} {H:Hp} {s:Shared} {p:Addr} {xs:List V} (I:Inv X pins σ H s) (h:H p=some (.lst xs)) :
    ∃ (its:List Value) (n:Nat),Vals xs its∧s.heap.get? p=some { cls := .type "list",data := .seq its.toArray n }∧xs.length ≤ sizeLine:=by
  obtain ⟨z,its,n,r,e⟩:=I.hok p _ h
  exact ⟨its,n,r,e,z⟩
theorem Inv.lstUpd {pins:List (Addr × Obj)} {σ:St} {H:Hp} {s:Shared} {p:Addr} {xs ys:List V} {its its':List Value} {n n':Nat} {f:Obj→Obj} (I:Inv X pins σ H s) (h:H p=some (.lst xs))
    (ho:s.heap.get? p=some { cls := .type "list",data := .seq its.toArray n }) (hf:f { cls := .type "list",data := .seq its.toArray n } = { cls := .type "list",data := .seq its'.toArray n' }) (r:Vals ys its') (hz:ys.length ≤ sizeLine) (t:Nat) :
    Inv X pins σ (upd H p (.lst ys)) { s with heap:=s.heap.update p f,toks:=t }:=by
  have e:(s.heap.update p f).get? p=some { cls := .type "list",data := .seq its'.toArray n' }:=by
    rw [Heap.get?_update_self f ho (by rw [hf] <;> rfl),hf]
  refine I.write (x:=p) (e:=p) (by rw [h]; trivial) (.inl rfl) (fun b u hb q=>(Heap.get?_update_other _ _ (Ne.symm hb)).trans q) ⟨_,e⟩ ?_
  exact ⟨hz,its',n',r,e⟩
def rSetL:V→V→V→Hp→(Hp→Prop)→Prop:=fun o i v H Q=>∃ p xs k j,o = .ref p∧i = .int k∧H p=some (.lst xs)∧ixN xs.length k=some j∧Q (upd H p (.lst (xs.set j v)))
theorem set_list:PSet X rSetL:=by
  intro pins s σ H o i v ov iv u Q I ro ri rv h
  obtain ⟨p,xs,k,j,rfl,rfl,hp,hj,q⟩:=h
  cases ro
  obtain ⟨t,rfl⟩:=ri
  obtain ⟨its,n,r,ho,hz⟩:=I.lst hp
  obtain ⟨h1,h2,h3,h4⟩:=ixN_seq hj
  have hl:=r.length
  have hn:=line63
  have I':Inv X pins σ (upd H p (.lst (xs.set j v))) { s with heap:=s.heap.update p (Obj.mapSeq (·.setIfInBounds j u)) } :=
    I.lstUpd hp ho (mapSeq_set its n j u) (r.set rv j) (by rw [List.length_set]; exact hz) s.toks
  by_cases h0:0 ≤ k
  · have hk:k.toNat=j:=by
      rw [seqIndex_of h0 h4] at h1
      exact Option.some.inj h1
    exact PySem.W.ki_setAt ho h0 (by omega) (by rw [List.size_toArray,← hl]; exact h4) (by rw [hk]; exact ⟨_,I',q⟩)
  · have hk:(k + (its.toArray.size:Int)).toNat=j:=by
      rw [seqIndex_neg (by omega) h3] at h1
      rw [List.size_toArray,← hl]
      exact Option.some.inj h1
    exact PySem.W.ki_setBack ho (by omega) (by rw [List.size_toArray,← hl]; exact h3) (by omega) (by rw [hk]; exact ⟨_,I',q⟩)
theorem slice_bounds (lo hi:Option Int) (n:Nat):(sliceBounds lo hi none n).1=((HT.sIx n 0 lo:Nat):Int)∧(sliceBounds lo hi none n).2.1=((HT.sIx n n hi:Nat):Int)∧(sliceBounds lo hi none n).2.2=1:=by
  refine ⟨?_,?_,rfl⟩
  · cases lo with
    | none=>simp [sliceBounds,HT.sIx]
    | some i =>
      simp only [sliceBounds,HT.sIx,Option.getD_none,show (1:Int) > 0 by decide,if_true]
      by_cases h:i < 0
      · simp only [h,if_true] <;> omega
      · simp only [h,if_false] <;> omega
  · cases hi with
    | none=>simp [sliceBounds,HT.sIx]
    | some i =>
      simp only [sliceBounds,HT.sIx,Option.getD_none,show (1:Int) > 0 by decide,if_true]
      by_cases h:i < 0
      · simp only [h,if_true] <;> omega
      · simp only [h,if_false] <;> omega
theorem slicePick_cut (its:List Value) (lo hi:Option Int):slicePick its.toArray lo hi none=((its.drop (HT.sIx its.length 0 lo)).take (HT.sIx its.length its.length hi - HT.sIx its.length 0 lo)).toArray:=by
  obtain ⟨h1,h2,h3⟩:=slice_bounds lo hi its.toArray.size
  unfold slicePick
  rw [h1,h2,h3]
  simp only [sliceRange_one,pick_run,List.size_toArray] <;> rfl
def rSlL (K:PySem.W.Frag):V→Option Int→Option Int→Hp→VK→Prop:=fun x lo hi H Q=>∃ a xs,x = .ref a∧SqL K H a xs∧∀ p,H p=none→Q (.ref p) (upd H p (.lst (cutV xs lo hi)))
theorem sl_list:SlR X (rSlL X.K):=by
  intro pins s σ H x v vl vu lo hi sl Q I rx hs pl pu h
  obtain ⟨a,xs,rfl,hx,q⟩:=h
  cases rx
  obtain ⟨its,r,ht,hz⟩:=I.list hx
  have hlen:=r.length
  refine ⟨"list",_,slot_list_getitem.lookup,ht.isList.typeIs,?_⟩
  refine wpAny_getItem_list_slice ht.isList hs pl pu .none (by simp) ?_ (by rw [List.size_toArray] <;> omega)
  rw [slicePick_cut,← hlen]
  refine ⟨.ref s.heap.objs.size,_,I.laid (t':=s.toks) (o := .lst (cutV xs lo hi)) (fun b ob q=>Heap.get?_push_of_some _ q) (Nat.le_refl _) ?_,rfl,q _ (I.hok.fresh (Nat.le_refl _))⟩
  exact ⟨Nat.le_trans (cutV_length xs lo hi) hz,_,0,(r.drop (HT.sIx xs.length 0 lo)).take (HT.sIx xs.length xs.length hi - HT.sIx xs.length 0 lo),Heap.get?_push_size _ rfl⟩
def flatV:V→Bool
  | .non=>true
  | .bl _=>true
  | .int _=>true
  | .str _=>true
  | _=>false
def eqV:V→V→Bool
  | .non, .non=>true
  | .bl a, .bl b=>a == b
  | .bl a, .int b=>(if a then 1 else 0) == b
  | .int a, .bl b=>a == (if b then 1 else 0)
  | .int a, .int b=>a == b
  | .str a, .str b=>a == b
  | _,_=>false
theorem eqAt_V {A:Around} {s:Shared} {y x:V} {u v:Value} (ry:RelV y u) (rx:RelV x v) (fy:flatV y=true) (fx:flatV x=true):SeqAt.EqAt A s u v (eqV y x):=by
  cases y with
  | non =>
    cases ry
    cases x with
    | non=>cases rx; exact SeqAt.EqAt.same _
    | bl b=>cases rx; exact SeqAt.EqAt.none_bool b
    | int b=>obtain ⟨t,rfl⟩:=rx; exact SeqAt.EqAt.none_int b t
    | str b=>obtain ⟨t,rfl⟩:=rx; exact SeqAt.EqAt.none_str b t
    | _=>exact absurd (show false=true from fx) Bool.false_ne_true
  | bl a =>
    cases ry
    cases x with
    | non=>cases rx; exact SeqAt.EqAt.bool_none a
    | bl b=>cases rx; exact SeqAt.EqAt.bool_bool a b
    | int b=>obtain ⟨t,rfl⟩:=rx; exact SeqAt.EqAt.bool_int a b t
    | str b=>obtain ⟨t,rfl⟩:=rx; exact SeqAt.EqAt.bool_str a b t
    | _=>exact absurd (show false=true from fx) Bool.false_ne_true
  | int a =>
    obtain ⟨t',rfl⟩:=ry
    cases x with
    | non=>cases rx; exact SeqAt.EqAt.int_none a t'
    | bl b=>cases rx; exact SeqAt.EqAt.int_bool a t' b
    | int b=>obtain ⟨t,rfl⟩:=rx; exact SeqAt.EqAt.int_int a t' b t
    | str b=>obtain ⟨t,rfl⟩:=rx; exact SeqAt.EqAt.int_str a t' b t
    | _=>exact absurd (show false=true from fx) Bool.false_ne_true
  | str a =>
    obtain ⟨t',rfl⟩:=ry
    cases x with
    | non=>cases rx; exact SeqAt.EqAt.str_none a t'
    | bl b=>cases rx; exact SeqAt.EqAt.str_bool a t' b
    | int b=>obtain ⟨t,rfl⟩:=rx; exact SeqAt.EqAt.str_int a t' b t
    | str b=>obtain ⟨t,rfl⟩:=rx; exact SeqAt.EqAt.str_str a t' b t
    | _=>exact absurd (show false=true from fx) Bool.false_ne_true
  | _=>exact absurd (show false=true from fy) Bool.false_ne_true
def eqU (x:V) (u:Value):Bool:=match u with
  | .none=>eqV .non x
  | .bool b=>eqV (.bl b) x
  | .int i _=>eqV (.int i) x
  | .str z _=>eqV (.str z) x
  | _=>false
theorem eqU_of {x y:V} {u:Value} (r:RelV y u) (f:flatV y=true):eqU x u=eqV y x:=by
  cases y with
  | non=>cases r; rfl
  | bl b=>cases r; rfl
  | int i=>obtain ⟨t,rfl⟩:=r; rfl
  | str z=>obtain ⟨t,rfl⟩:=r; rfl
  | _=>exact absurd (show false=true from f) Bool.false_ne_true
theorem any_eqU {x:V}:∀ {xs:List V} {us:List Value},Vals xs us→xs.all flatV=true→us.any (eqU x)=xs.any fun y=>eqV y x
  | _,_, .nil,_=>rfl
  | y :: xs,u :: us, .cons r t,f=>by
    rw [List.all_cons,Bool.and_eq_true] at f
    rw [List.any_cons,List.any_cons,eqU_of r f.1,any_eqU t f.2]
theorem mem_eqAt {A:Around} {s:Shared} {x:V} {v:Value} (rx:RelV x v) (fx:flatV x=true):∀ {xs:List V} {us:List Value},Vals xs us→xs.all flatV=true→∀ u ∈ us,SeqAt.EqAt A s u v (eqU x u)
  | _,_, .nil,_=>fun u hu=>by cases hu
  | y :: xs,u :: us, .cons r t,f=>fun u' hu=>by
    rw [List.all_cons,Bool.and_eq_true] at f
    rcases List.mem_cons.mp hu with rfl | hu
    · rw [eqU_of r f.1]; exact eqAt_V r rx f.1 fx
    · exact mem_eqAt rx fx t f.2 u' hu
def inV (x:V) (xs:List V):Bool:=xs.any fun y=>eqV y x
def rIn (K:PySem.W.Frag) (neg:Bool):R2:=fun x y H Q=>∃ p xs,y = .ref p∧(SqL K H p xs∨SqT K H p xs)∧flatV x=true∧xs.all flatV=true∧Q (.bl (if neg then !inV x xs else inV x xs)) H
theorem op_in_seq:OpR X (compareOp .In) (rIn X.K false):=by
  intro pins s σ H x y v u Q I rx ry h
  obtain ⟨p,xs,rfl,hq,fx,fs,q⟩:=h
  cases ry
  rcases hq with hq | hq
  · obtain ⟨its,r,pl,hz⟩:=I.list hq
    refine SeqAt.in_listAt (eqU x) pl.isList (fun w hw=>mem_eqAt rx fx r fs w (by simpa using hw)) ⟨.bl _,H,I,rfl,?_⟩
    rw [show its.toArray.any (eqU x)=its.any (eqU x) by simp,any_eqU r fs]
    exact q
  · obtain ⟨its,r,pl,hz⟩:=I.tuple hq
    refine SeqAt.in_tupleAt (eqU x) pl (fun w hw=>mem_eqAt rx fx r fs w (by simpa using hw)) ⟨.bl _,H,I,rfl,?_⟩
    rw [show its.toArray.any (eqU x)=its.any (eqU x) by simp,any_eqU r fs]
    exact q
theorem op_notIn_seq:OpR X (compareOp .NotIn) (rIn X.K true):=by
  intro pins s σ H x y v u Q I rx ry h
  obtain ⟨p,xs,rfl,hq,fx,fs,q⟩:=h
  cases ry
  rcases hq with hq | hq
  · obtain ⟨its,r,pl,hz⟩:=I.list hq
    refine SeqAt.notIn_listAt (eqU x) pl.isList (fun w hw=>mem_eqAt rx fx r fs w (by simpa using hw)) ⟨.bl _,H,I,rfl,?_⟩
    rw [show its.toArray.any (eqU x)=its.any (eqU x) by simp,any_eqU r fs]
    exact q
  · obtain ⟨its,r,pl,hz⟩:=I.tuple hq
    refine SeqAt.notIn_tupleAt (eqU x) pl (fun w hw=>mem_eqAt rx fx r fs w (by simpa using hw)) ⟨.bl _,H,I,rfl,?_⟩
    rw [show its.toArray.any (eqU x)=its.any (eqU x) by simp,any_eqU r fs]
    exact q
theorem call_len_seq:CallR X (.builtin "len") (fun xs H Q=>∃ p ys,xs=[.ref p]∧(SqL X.K H p ys∨SqT X.K H p ys)∧Q (.int ys.length) H):=by
  intro pins s σ H xs us Q I r h
  obtain ⟨p,ys,rfl,hq,q⟩:=h
  obtain ⟨u,rfl,rx⟩:=vals1 r
  cases rx
  have hn:=line63
  rcases hq with hq | hq
  · obtain ⟨its,r',pl,hz⟩:=I.list hq
    have hlen:=r'.length
    exact Calls.call_len_list pl.isList (by simp only [List.size_toArray] <;> omega) ⟨.int ys.length,H,I.tok _,⟨s.toks + 1,by rw [List.size_toArray,hlen]⟩,q⟩
  · obtain ⟨its,r',pl,hz⟩:=I.tuple hq
    have hlen:=r'.length
    exact len_tuple pl (by simp only [List.size_toArray] <;> omega) ⟨.int ys.length,H,I.tok _,⟨s.toks + 1,by rw [List.size_toArray,hlen]⟩,q⟩
theorem call_list_of:CallR X (.type "list") (fun xs H Q=>∃ p ys,xs=[.ref p]∧(SqL X.K H p ys∨SqT X.K H p ys)∧∀ l,H l=none→Q (.ref l) (upd H l (.lst ys))):=by
  intro pins s σ H xs us Q I r h
  obtain ⟨p,ys,rfl,hq,q⟩:=h
  obtain ⟨u,rfl,rx⟩:=vals1 r
  cases rx
  have fin:∀ (its:List Value),Vals ys its→ys.length ≤ sizeLine→∀ (h':Heap) (c':Nat),(∀ b o',s.heap.get? b=some o'→h'.get? b=some o') →
      h'.get? s.heap.objs.size=some { cls := .type "list",dict:=none,data := .seq its.toArray c',slots:=#[] }→EP X pins σ Q (.ref s.heap.objs.size) { s with heap:=h' }:=fun its r' hz h' c' kp e =>
    ⟨.ref s.heap.objs.size,_,I.laid (t':=s.toks) kp (Nat.le_refl _) (show ObjOk X.prog X.w _ h' _ (.lst ys) from ⟨hz,its,c',r',e⟩),rfl,q _ (I.hok.fresh (Nat.le_refl _))⟩
  rcases hq with hq | hq
  · obtain ⟨its,r',pl,hz⟩:=I.list hq
    have hlen:=r'.length
    obtain ⟨o,ho,hc,n,hd⟩:=pl.isList
    exact call_list_seq p (.inl rfl) ho hc hd (fun h' c' kp e=>fin its r' hz h' c' kp e) (by simp only [List.size_toArray] <;> omega)
  · obtain ⟨its,r',pl,hz⟩:=I.tuple hq
    have hlen:=r'.length
    obtain ⟨o,ho,hc,n,hd⟩:=pl
    exact call_list_seq p (.inr rfl) ho hc hd (fun h' c' kp e=>fin its r' hz h' c' kp e) (by simp only [List.size_toArray] <;> omega)
theorem call_tuple_of:CallR X (.type "tuple") (fun xs H Q=>∃ p ys,xs=[.ref p]∧((SqL X.K H p ys∧∀ l,H l=none→Q (.ref l) (upd H l (.tup ys)))∨(SqT X.K H p ys∧Q (.ref p) H))):=by
  intro pins s σ H xs us Q I r h
  obtain ⟨p,ys,rfl,h⟩:=h
  obtain ⟨u,rfl,rx⟩:=vals1 r
  cases rx
  rcases h with ⟨hq,q⟩ | ⟨hq,q⟩
  · obtain ⟨its,r',pl,hz⟩:=I.list hq
    have hlen:=r'.length
    refine call_tuple_list pl.isList (fun h' kp=>?_) (by simp only [List.size_toArray] <;> omega)
    have I1:Inv X pins σ H { s with heap:=h' }:=I.kept (t':=s.toks) kp
    have I2:Inv X pins σ (upd H h'.objs.size (.tup ys)) { s with heap:=h'.push { cls := .type "tuple",data := .seq its.toArray } } :=
      I1.laid (t':=s.toks) (fun b o e=>Heap.get?_push_of_some _ e) (Nat.le_refl _) (show ObjOk X.prog X.w _ _ _ (.tup ys) from ⟨hz,its,r',IsTupN.new _ _⟩)
    exact ⟨.ref h'.objs.size,_,I2,rfl,q _ (I1.hok.fresh (Nat.le_refl _))⟩
  · obtain ⟨its,r',pl,hz⟩:=I.tuple hq
    exact call_tuple_same pl ⟨.ref p,H,I,rfl,q⟩
def tyV (K:PySem.W.Frag) (T:String) (x:V) (H:Hp):Prop:=match x with
  | .str _=>T = "str"
  | .int _=>T = "int"
  | .ref p=>(T = "list"∧∃ xs,SqL K H p xs)∨(T = "tuple"∧∃ o,K.lookup p=some o∧o.cls = .type "tuple"∧o.dict=none) ∨
      (T = "dict"∧((∃ kvs,H p=some (.dK kvs))∨∃ kvs,H p=some (.dT kvs)))∨(T = "set"∧∃ S n,H p=some (.set S n))
  | _=>False
theorem tyV_is {pins:List (Addr × Obj)} {σ:St} {H:Hp} {s:Shared} {T:String} {x:V} {v:Value} (I:Inv X pins σ H s) (r:RelV x v) (ty:tyV X.K T x H) :
    s.TypeIs v T∧∀ a,v = .ref a→∃ ob,s.heap.get? a=some ob∧ob.dict=none:=by
  cases x with
  | str z =>
    obtain ⟨t,rfl⟩:=r
    cases (show T = "str" from ty)
    exact ⟨typeIs_str s z t,fun _ e=>nomatch e⟩
  | int i =>
    obtain ⟨t,rfl⟩:=r
    cases (show T = "int" from ty)
    exact ⟨typeIs_int s i t,fun _ e=>nomatch e⟩
  | ref p =>
    cases r
    rcases ty with ⟨rfl,xs,hq⟩ | ⟨rfl,o,hk,hc,hd⟩ | ⟨rfl,hk⟩ | ⟨rfl,S,n,hk⟩
    · obtain ⟨its,_,pl,_⟩:=I.list hq
      refine ⟨pl.isList.typeIs,fun a e=>?_⟩
      cases e
      obtain ⟨o,n,e,c,hd,_⟩:=pl
      exact ⟨o,e,hd⟩
    · refine ⟨⟨o,I.kIn p o hk,hc⟩,fun a e=>?_⟩
      cases e
      exact ⟨o,I.kIn _ o hk,hd⟩
    · have z:∃ o,s.heap.get? p=some o∧o.ExactDict:=by
        rcases hk with ⟨kvs,hk⟩ | ⟨kvs,hk⟩
        · obtain ⟨_,_,_,_,o,_,_,e,ex,_⟩:=I.hok p _ hk
          exact ⟨o,e,ex⟩
        · obtain ⟨_,_,_,_,o,_,_,e,ex,_⟩:=I.hok p _ hk
          exact ⟨o,e,ex⟩
      obtain ⟨o,e,ex⟩:=z
      refine ⟨⟨o,e,ex.1⟩,fun a e2=>?_⟩
      cases e2
      exact ⟨o,e,ex.2.1⟩
    · obtain ⟨o,_,_,_,e,ex,_⟩:=I.hok p _ hk
      refine ⟨⟨o,e,ex.1⟩,fun a e2=>?_⟩
      cases e2
      exact ⟨o,e,ex.2.1⟩
  | _=>exact False.elim ty
def tBM0 (K:PySem.W.Frag) (T:String) (r:V→List V→Hp→VK→Prop) (to:TE):TE:=fun σ H Q=>to σ H fun x H1=>tyV K T x H1∧r x [] H1 Q
def tBM (K:PySem.W.Frag) (T:String) (r:V→List V→Hp→VK→Prop) (to:TE) (t:TA):TE:=fun σ H Q=>to σ H fun x H1=>tyV K T x H1∧t σ H1 fun xs H2=>r x xs H2 Q
variable {o e:Expr} {es:List Expr} {to:TE} {t:TA} {name:Str} {apos cpos:Pos} {T id:String} {r:V→List V→Hp→VK→Prop}
theorem pe_bm0 (pa:PlainAttrs T) (slot:Slot T name id) (hty:typeOf (.builtin id)=pure (.type "method_descriptor")) (hm:MtR X id r) (ho:PE X o to)
    (hbase:attributeBase o name X.env (eval o X.env)=eval o X.env:=by rfl) (hline:(apos.endLine == cpos.line)=true:=by rfl):PE X (.Call (.Attribute o name apos) [] [] cpos) (tBM0 X.K T r to):=by
  intro pins s σ H Q I h
  refine wpAny_Call_method0_late hbase hline (thn (ho pins s σ H _ I h) fun v s1 ⟨x,H1,I1,r1,ty,q1⟩=>?_)
  obtain ⟨h1,h2⟩:=tyV_is I1 r1 ty
  exact ⟨T,id,pa,slot,hty,h1,h2,Calls.callWith_builtin rfl (PySem.evalArgs_none (hm pins s1 σ H1 x [] v [] Q I1 r1 .nil q1))⟩
theorem pe_bm (pa:PlainAttrs T) (slot:Slot T name id) (hty:typeOf (.builtin id)=pure (.type "method_descriptor")) (hm:MtR X id r) (ho:PE X o to) (ha:PA X (e :: es) t)
    (hbase:attributeBase o name X.env (eval o X.env)=eval o X.env:=by rfl)
    (hfew:((backTo cpos (starEach (e :: es) X.env)).all (fun x=>!x.1) && (backToKw cpos (keywordEach [] X.env)).all (fun x=>x.1.isSome)
      && decide ((e :: es).length + ([]:List Keyword).length + (if ([]:List Keyword).isEmpty then 0 else 1) < 30))=true:=by rfl)
    (hline:(apos.endLine == cpos.line)=true:=by rfl) (hs:starEach (e :: es) X.env=(false,eval e X.env) :: starEach es X.env:=by rfl) (hplain:(backTo cpos (starEach es X.env)).any (·.1)=false:=by rfl) :
    PE X (.Call (.Attribute o name apos) (e :: es) [] cpos) (tBM X.K T r to t):=by
  intro pins s σ H Q I h
  refine wpAny_Call_method_late hbase hfew hline rfl (thn (ho pins s σ H _ I h) fun v s1 ⟨x,H1,I1,r1,ty,q1⟩=>?_)
  obtain ⟨h1,h2⟩:=tyV_is I1 r1 ty
  refine ⟨T,id,pa,slot,hty,h1,h2,?_⟩
  have hA:=ha cpos pins s1 σ H1 _ I1 q1
  rw [hs] at hA ⊢
  refine Calls.callWith_builtin (by show (false || (backTo cpos (starEach es X.env)).any (·.1))=false; rw [hplain] <;> rfl) (Calls.evalArgs_plain ?_)
  exact thn hA fun us s2 ⟨vs,H2,I2,r2,q2⟩=>hm pins s2 σ H2 x vs v us Q I2 r1 r2 q2
/- xs.append(e),list.index on a module's tuple .. are MtR facts of 06m -/
end
end L2
namespace L2
open PySem PySem.Spec PyProof.Rows
def MtM (X:Cx) (id:String) (r:V→List V→Hp→VK→Prop):Prop :=
  ∀ (pins:List (Addr × Obj)) (s:Shared) (σ:St) (H:Hp) (x:V) (xs:List V) (v:Value) (us:List Value) (Q:VK),Inv X pins σ H s→RelV x v→Vals xs us→r x xs H Q →
    wpAny (model X.prog X.w) X.A (call (.builtin id) (v :: us)) (EP X pins σ Q) X.xe s
theorem Vals.one:∀ {x:V} {us:List Value},Vals [x] us→∃ u,us=[u]∧RelV x u
  | _,_, .cons r .nil=>⟨_,rfl,r⟩
theorem Vals.eraseIdx:∀ {xs:List V} {us:List Value} (i:Nat),Vals xs us→Vals (xs.eraseIdx i) (us.eraseIdx i)
  | _,_,_, .nil => .nil
  | _,_,0, .cons _ t=>t
  | _,_,i + 1, .cons r t => .cons r (Vals.eraseIdx i t)
theorem len_erase {α:Type}:∀ (l:List α) (i:Nat),(l.eraseIdx i).length ≤ l.length
  | [],_=>Nat.le_refl _
  | _ :: _,0=>Nat.le_succ _
  | _ :: r,i + 1=>Nat.succ_le_succ (len_erase r i)
section
variable {X:Cx} {pins:List (Addr × Obj)} {σ:St} {H:Hp} {s:Shared} {l b:Addr} {xs ys zs:List V}
theorem Inv.lset {its its':List Value} {n:Nat} {f:Array Value→Array Value} {t':Nat} (I:Inv X pins σ H s) (hH:H l=some (.lst xs))
    (e:s.heap.get? l=some { cls := .type "list",data := .seq its.toArray n }) (hf:f its.toArray=its'.toArray) (hv:Vals ys its') (hz:ys.length ≤ sizeLine) :
    Inv X pins σ (upd H l (.lst ys)) { s with heap:=s.heap.update l (Obj.mapSeq f),toks:=t' }:=by
  have q:=PySem.IsL.update e f
  rw [hf] at q
  refine I.write (x:=l) (e:=l) (by rw [hH]; exact trivial) (.inl rfl) (fun b' u hb hu=>(Heap.get?_update_other s.heap (Obj.mapSeq f) (Ne.symm hb)).trans hu) ⟨_,q⟩ ?_
  exact ⟨hz,its',_,hv,q⟩
theorem Inv.lnew {its:List Value} {t':Nat} (I:Inv X pins σ H s) (hv:Vals ys its) (hz:ys.length ≤ sizeLine) :
    Inv X pins σ (upd H s.heap.objs.size (.lst ys)) { s with heap:=s.heap.push { cls := .type "list",data := .seq its.toArray },toks:=t' } :=
  I.laid (fun _ _ q=>Heap.get?_push_of_some _ q) (Nat.le_refl _) ⟨hz,its,0,hv,Heap.get?_push_size _ rfl⟩
theorem Inv.fresh (I:Inv X pins σ H s):H s.heap.objs.size=none:=I.hok.fresh (Nat.le_refl _)
theorem Inv.lstM (I:Inv X pins σ H s) (hH:H l=some (.lst xs)):xs.length ≤ sizeLine∧∃ (its:List Value) (n:Nat),Vals xs its∧xs.length=its.length∧s.heap.get? l=some { cls := .type "list",data := .seq its.toArray n }:=by
  obtain ⟨z,its,n,r,e⟩:=I.hok l _ hH
  exact ⟨z,its,n,r,r.length,e⟩
theorem notLongL {n:Nat} (h:n ≤ sizeLine):Builtin.List.listTooLong n=false:=by
  unfold Builtin.List.listTooLong
  exact decide_eq_false (by omega)
end
section
variable {X:Cx}
def rAppend:V→List V→Hp→VK→Prop:=fun x vs H Q=>∃ l xs y,x = .ref l∧vs=[y]∧H l=some (.lst xs)∧xs.length < sizeLine∧Q .non (upd H l (.lst (xs ++ [y])))
theorem mt_append:MtM X "list.append" rAppend:=by
  intro pins s σ H x vs v us Q I rx rv h
  obtain ⟨l,xs,y,rfl,rfl,hH,hz,q⟩:=h
  cases rx
  obtain ⟨u,rfl,ru⟩:=rv.one
  obtain ⟨z,its,n,r,hl,e⟩:=I.lstM hH
  refine call_meets F.slot_list_append ⟨_,e,rfl⟩ F.entry_list_append (F.args_list_append_2 _ _) (PySem.list_append l its.toArray n u (by rw [List.size_toArray]; omega)) ⟨e,?_⟩
  refine ⟨.non,_,I.lset (its':=its ++ [u]) hH e (by simp) (r.append (.cons ru .nil)) ?_,rfl,q⟩
  rw [List.length_append,List.length_singleton]
  omega
def rExtend:V→List V→Hp→VK→Prop:=fun x vs H Q=>∃ l b xs zs,x = .ref l∧vs=[.ref b]∧H l=some (.lst xs)∧H b=some (.lst zs)∧xs.length + zs.length ≤ sizeLine∧Q .non (upd H l (.lst (xs ++ zs)))
theorem mt_extend:MtM X "list.extend" rExtend:=by
  intro pins s σ H x vs v us Q I rx rv h
  obtain ⟨l,b,xs,zs,rfl,rfl,hH,hB,hz,q⟩:=h
  cases rx
  obtain ⟨u,rfl,ru⟩:=rv.one
  cases ru
  obtain ⟨z,its,n,r,hl,e⟩:=I.lstM hH
  obtain ⟨z2,its2,n2,r2,hl2,e2⟩:=I.lstM hB
  have hsz:its.toArray.size + its2.toArray.size ≤ sizeLine:=by rw [List.size_toArray,List.size_toArray]; omega
  have hlong:¬ (!its.toArray.isEmpty && Builtin.List.listTooLong (its.toArray.size + its2.toArray.size))=true:=by
    rw [notLongL hsz,Bool.and_false]
    exact Bool.false_ne_true
  refine call_meets F.slot_list_extend ⟨_,e,rfl⟩ F.entry_list_extend (F.args_list_extend_2 _ _)
    (AutoSeq1.list_extend_list_list_0 l its.toArray n b its2.toArray n2 hlong (by rw [List.size_toArray]; omega) (by omega)) ⟨e,e2,?_⟩
  refine ⟨.non,_,I.lset (its':=its ++ its2) hH e (by simp) (r.append r2) ?_,rfl,q⟩
  rw [List.length_append]
  omega
def rPop:V→List V→Hp→VK→Prop:=fun x vs H Q=>∃ l xs y,x = .ref l∧vs=[]∧H l=some (.lst xs)∧xs[xs.length - 1]? = some y∧Q y (upd H l (.lst xs.dropLast))
def rPopAt:V→List V→Hp→VK→Prop:=fun x vs H Q=>∃ l xs i k y,x = .ref l∧vs=[.int i]∧H l=some (.lst xs)∧-(2 ^ 63) ≤ i∧i < 2 ^ 63∧seqIndex? i xs.length=some k∧xs[k]? = some y∧Q y (upd H l (.lst (xs.eraseIdx k)))
theorem mt_popAt:MtM X "list.pop" rPopAt:=by
  intro pins s σ H x vs v us Q I rx rv h
  obtain ⟨l,xs,i,k,y,rfl,rfl,hH,h1,h2,hk,hy,q⟩:=h
  cases rx
  obtain ⟨u,rfl,ru⟩:=rv.one
  obtain ⟨t,rfl⟩:=ru
  obtain ⟨z,its,n,r,hl,e⟩:=I.lstM hH
  obtain ⟨w,hw,rw'⟩:=r.get hy
  refine call_meets F.slot_list_pop ⟨_,e,rfl⟩ F.entry_list_pop (F.args_list_pop_2 _ _)
    (MeetsSeq.list_pop_at l its.toArray n i t k w (fitsIndex_both h1 h2) (by rw [List.size_toArray,← hl]; exact hk) (by rw [← Array.getElem?_toList]; exact hw) (by rw [List.size_toArray]; omega)) ⟨e,?_⟩
  refine ⟨y,_,I.lset (its':=its.eraseIdx k) hH e ?_ (r.eraseIdx k) ?_,rw',q⟩
  · show its.toArray.eraseIdxIfInBounds k=(its.eraseIdx k).toArray
    rw [List.eraseIdxIfInBounds_toArray]
  · have:=len_erase xs k
    omega
def rReverse:V→List V→Hp→VK→Prop:=fun x vs H Q=>∃ l xs,x = .ref l∧vs=[]∧H l=some (.lst xs)∧Q .non (upd H l (.lst xs.reverse))
def rClear:V→List V→Hp→VK→Prop:=fun x vs H Q=>∃ l xs,x = .ref l∧vs=[]∧H l=some (.lst xs)∧Q .non (upd H l (.lst []))
def rCat:R2:=fun x y H Q=>∃ l b xs zs,x = .ref l∧y = .ref b∧H l=some (.lst xs)∧H b=some (.lst zs)∧xs.length + zs.length ≤ sizeLine∧∀ p,H p=none→Q (.ref p) (upd H p (.lst (xs ++ zs)))
theorem op_cat:OpR X (binaryOp .Add) rCat:=by
  intro pins s σ H x y v u Q I rx ry h
  obtain ⟨l,b,xs,zs,rfl,rfl,hH,hB,hz,q⟩:=h
  cases rx
  cases ry
  obtain ⟨z,its,n,r,hl,e⟩:=I.lstM hH
  obtain ⟨z2,its2,n2,r2,hl2,e2⟩:=I.lstM hB
  refine PySem.P.add_list e e2 ?_ (by rw [List.size_toArray,List.size_toArray]; omega)
  have ea:its.toArray ++ its2.toArray=(its ++ its2).toArray:=by simp
  rw [ea]
  exact ⟨.ref _,_,I.lnew (t':=s.toks) (r.append r2) (by rw [List.length_append]; omega),rfl,q _ I.fresh⟩
def rRep:R2:=fun x y H Q=>∃ l k xs,x = .ref l∧y = .int k∧H l=some (.lst xs)∧-(2 ^ 63) ≤ k∧k < 2 ^ 63∧xs.length * k.toNat ≤ sizeLine ∧
  ∀ p,H p=none→Q (.ref p) (upd H p (.lst (List.replicate k.toNat xs).flatten))
end
section
variable {prog:Program} {w:World} {A:Around} {E:Value→Shared→Prop} {s:Shared}
set_option maxRecDepth 100000 in
end
section
variable {X:Cx}
end
end L2
namespace Att
open PySem PySem.W PySem.Calls PyProof.Rows
theorem ints_of_wellAll {P:Params} {h:Heap}:∀ (ns:List Int) (vs:List Value),WellAll P h vs (ns.map WData.int)→IntsAre vs ns:=by
  intro ns
  induction ns with
  | nil =>
    intro vs w
    rw [List.map_nil] at w
    cases w
    exact .nil
  | cons n ns ih =>
    intro vs w
    rw [List.map_cons] at w
    cases w with
    | cons a b =>
      cases a
      exact .cons _ _ (ih _ b)
theorem script_of {l:OpenLaw} {n:Nat} (hn:l.most=some n) {P:Params} {h:Heap} {args:List WData} {vals:List Value}
    (hpre:l.row.toRowW.claim.pre args=true) (hwl:WellAll P h vals args) :
    ∃ a vs ns,vals=[Value.ref a]∧args=[WData.list (ns.map WData.int)]∧h.get? a=some { cls := .type "list",data := .seq vs.toArray }∧IntsAre vs ns∧ns.length ≤ n:=by
  have hsh:WShape.hasAll [] args [.list .int]=true:=(pre_splitW hpre).1
  have hc:l.pre.holds [] { args:=args } = true:=(pre_splitW hpre).2
  obtain ⟨d,r,rfl,h1,h2⟩:=hasAllW_cons hsh
  obtain rfl:=hasAllW_nil h2
  obtain ⟨xs,rfl,h3⟩:=hasW_list h1
  obtain ⟨ns,rfl⟩:=items_int h3
  have hlen:ns.length ≤ n:=by
    unfold OpenLaw.pre at hc
    have h4:(WTm.not (.lt (.lit (.int (n:Int))) (.len (.arg 0)))).holds [] { args:=[.list (ns.map .int)] } = true:=by
      have h4:=(holds_andW hc).1
      rw [hn] at h4
      exact h4
    have h5:=condW_of h4 (w_not (w_lt w_lit (w_len_list (w_arg rfl))))
    rw [List.length_map] at h5
    refine Nat.le_of_not_lt fun q=>?_
    have q':(n:Int) < ((ns.length:Nat):Int):=by omega
    first
      | (rw [decide_eq_true q'] at h5; exact absurd h5 (by decide))
      | (simp at h5; omega)
  cases hwl with
  | cons w1 w2 =>
    cases w2
    cases w1 with
    | list ho hall=>exact ⟨_,_,ns,rfl,rfl,ho,ints_of_wellAll ns _ hall,hlen⟩
theorem post_true (l:OpenLaw) (args:List WData):l.row.toRowW.claim.post args (.bool true) args=true :=
  postW_of (r:=l.row.toRowW) (X:=(true == true))
    (show WShape.has [] (.bool true) .bool=true by first | rfl | decide | simp [WShape.has,WShape.arms,WShape.armsAll])
    (show (WTm.eq .res (.lit (.bool true))).value [] { args:=args,res:=some (.bool true),after:=args } = some (.bool (true == true)) from w_eq_bool (w_res rfl) w_lit) rfl
theorem attach_call {l:OpenLaw} {n:Nat} {q:Program} {loose:List Str} {XP:(Str→Option Value)→Heap→Prop} {YP:World→Heap→Prop} {d:DefRec}
    (hn:l.most=some n) (hdf:d.params.defaults=[])
    (call:∀ (w:World) (s₀ s₁:Shared) (mg mb:Str→Option Value) (fa:Addr) (o:Obj) (pm cd doc:Value) (a:Addr) (vs:List Value) (ns:List Int),
      Ground q loose [] XP w s₀ mg mb s₁.heap→YP w s₁.heap →
      s₁.heap.get? fa=some o→o.data = .func (docDef d.name d.params d.body d.scope pm cd doc)→s₁.heap.CodeRec cd d.name→mg d.name=some (.ref fa) →
      s₁.heap.get? a=some { cls := .type "list",data := .seq vs.toArray }→IntsAre vs ns→ns.length ≤ n→s₁.gens = #[] →
      codeAny (model l.prog w) callerA (.call (.ref fa) ⟨[.ref a],[]⟩) (fun r s'=>r = .ok (.ret (.bool true))∧OldK s₁.heap s'.heap∧s'.os=s₁.os∧AllBare s'.gens) s₁) :
    WalkO q loose XP YP l.row.toRowW d [] (fun f vs=>PySem.call f vs):=by
  intro w s₀ s₁ mg mb G Y fa o pm cd doc dV kV ho hd hcd hD hmg hg args vals as hpre hlay hrd hwl hlo
  obtain rfl:dV = .none:=Dflts.none hD hdf
  obtain rfl:kV = .none:=Dflts.noKw hD
  obtain ⟨a,vs,ns,rfl,rfl,hobj,hints,hlen⟩:=script_of hn hpre hwl
  refine enter_call (codeAny_mono (call w s₀ s₁ mg mb fa o pm cd doc a vs ns G Y ho (fd_plain hd) hcd hmg hobj hints hlen hg) fun r s' hq=>?_)
  obtain ⟨rfl,h2,h3,h4⟩:=hq
  exact ⟨.inl ⟨.bool true, .bool true,[],rfl,fun _=>rfl, .bool true,post_true l _,fun _=>⟨List.Pairwise.nil,fun _ hm=>(nomatch hm)⟩⟩,h2,h3,h4⟩
section
variable {prog:Program} {w:World} {A:Around} {E:Value→Shared→Prop} {s:Shared} {K:Frag}
def noObjs (h:Heap):Heap:={ h with objs:=#[] }
def ledger (h:Heap) (L d:Addr):List (Addr × Obj):=(List.range h.objs.size).filterMap fun a=>if a=L∨a=d then none else (h.get? a).map fun o=>(a,o)
end
end Att
namespace L2
open PySem PySem.Spec PyProof.Rows
theorem vals_ints:∀ {vs:List Value} {ns:List Int},IntsAre vs ns→Vals (ns.map V.int) vs
  | _,_, .nil => .nil
  | _,_, .cons n t h => .cons ⟨t,rfl⟩ (vals_ints h)
def Only (H:Hp):Prop:=∀ b,H b=none∨∃ o xs,H b=some (.frz o (.lst xs))
theorem law_call {P:Program} {w:World} {K:PySem.W.Frag} {mg mb:Str→Option Value} {CX:CXT} {k:Nat} {fa a:Addr} {fd:FuncData} {x:Str} {sp:Sp} {s₁:Shared} {vs:List Value} {ns:List Int}
    (KX:K.In s₁.heap) (hns:s₁.heap.Ns mainGlobals mg) (hb:s₁.heap.Ns builtinsNs mb) (hbb:∀ x:Str,x ≠ "__name__"→mb x=bootBuiltins x) (hlim:s₁.heap.NoLimit) (hg:s₁.gens = #[])
    (ha:s₁.heap.get? a=some { cls := .type "list",data := .seq vs.toArray }) (hi:IntsAre vs ns) (hl:ns.length ≤ sizeLine) (hr:Room k callerA)
    (F:∀ base:Heap,K.In base→base.Ns mainGlobals mg→FnOk P w K mg base CX k fa fd [x] sp) (hbind:∀ (s:Shared) (u:Value),BindsTo s fd ⟨[u],[]⟩ [(x,u)])
    (hsp:∀ H:Hp,Only H→SqL K H a (ns.map V.int)→sp [.ref a] H (fun v _=>v = .bl true) fun _ _ _=>False)
    (hCX:∀ H e s',CX [] H s₁ (fun _ _ _=>False) e s'→False) :
    codeAny (model P w) callerA (.call (.ref fa) ⟨[.ref a],[]⟩) (fun r s'=>r = .ok (.ret (.bool true))∧OldK s₁.heap s'.heap∧s'.os=s₁.os∧AllBare s'.gens) s₁:=by
  have rv:=vals_ints hi
  have lenV:=hi.length
  have core:∀ H:Hp,Only H→SqL K H a (ns.map V.int)→HOk P w H s₁.heap→(∀ b,H b ≠ none→b=a)→(H a ≠ none→K.lookup a=none) →
      codeAny (model P w) callerA (.call (.ref fa) ⟨[.ref a],[]⟩) (fun r s'=>r = .ok (.ret (.bool true))∧OldK s₁.heap s'.heap∧s'.os=s₁.os∧AllBare s'.gens) s₁:=by
    intro H hO hS hok hA hK
    have base_of:∀ {b:Addr} {o:Obj},s₁.heap.get? b=some o→H b=none→(hidT s₁.heap H).get? b=some o:=fun e n=>hidT_get e n
    have noA:∀ {b:Addr} {o:Obj} {es:Array DictEntry} {ep:Nat},s₁.heap.get? b=some o→o.data = .dict es ep→H b=none:=fun {b o es ep} e d=>by
      cases q:H b with
      | none=>rfl
      | some u =>
        have e':b=a:=hA b (by rw [q]; simp)
        subst e'
        rw [ha] at e; cases e
        have d':Data.seq vs.toArray _=Data.dict es ep:=d
        cases d'
    have nsK:∀ {b:Addr} {m:Str→Option Value},s₁.heap.Ns b m→(hidT s₁.heap H).Ns b m:=fun {b m} ⟨o,es,ep,e,d,r⟩=>⟨o,es,ep,base_of e (noA e d),d,r⟩
    have hKb:K.In (hidT s₁.heap H):=fun b o e=>base_of (KX b o e) (by
      cases q:H b with
      | none=>rfl
      | some u =>
        have e':b=a:=hA b (by rw [q]; simp)
        subst e'
        rw [hK (by rw [q]; simp)] at e; cases e)
    have hM:Mod K mg (hidT s₁.heap H):=⟨hKb,nsK hns,⟨mb,nsK hb,hbb⟩,let ⟨mc,h1,h2⟩:=hlim; ⟨mc,nsK h1,h2⟩⟩
    have e0:Env0 P w K mg (hidT s₁.heap H) callerA [] s₁ H:=⟨rfl,hM,fun b o e=>of_hidT e,Nat.le_of_eq (hidT_size _ _),trivial,fun b hb=>absurd (show b ∈ ([]:List Addr) from hb) (by simp),hok, .of_eq hg⟩
    refine codeAny_mono ((F _ hKb (nsK hns)).run callerA [] s₁ H ⟨[.ref a],[]⟩ [.ref a] [.ref a] _ _ hr e0 (hbind s₁ (.ref a)) (.cons rfl .nil) (hsp H hO hS)) fun r s' h=>?_
    cases r with
    | error e=>exact (hCX H e s' h).elim
    | ok fl =>
      cases fl with
      | next=>exact False.elim h
      | brk=>exact False.elim h
      | cont=>exact False.elim h
      | ret u =>
        obtain ⟨v,H',os,bare,un,hok',r',q⟩:=h
        have q':v = .bl true:=q
        subst q'
        obtain rfl:u=Value.bool true:=r'
        refine ⟨rfl,OldK.of_keep fun b o e=>?_,os,bare⟩
        cases q:H b with
        | none=>exact un.keep b o e q (by intro z; exact absurd (show b ∈ ([]:List Addr) from z) (by simp)) (by simp)
        | some u =>
          rcases hO b with z | ⟨ob,xs,z⟩
          · rw [q] at z; cases z
          · have z2:=un.frzs b ob _ z
            obtain ⟨e1,_⟩:=hok b _ z
            obtain ⟨e2,_⟩:=hok' b _ z2
            rw [e] at e1; cases e1
            exact e2
  cases hk:K.lookup a with
  | some o =>
    have e:=KX a o hk
    rw [ha] at e
    cases e
    refine core (fun _=>none) (fun _ => .inl rfl) (.inr ⟨_,vs.toArray,_,hk,rfl,rfl,rfl,by rw [List.size_toArray,lenV]; exact hl,by simpa using rv⟩) (fun b u z=>by have z':(none:Option HO)=some u:=z; cases z') (fun b z=>absurd rfl z) fun z=>absurd rfl z
  | none =>
    refine core (fun b=>if b=a then some (.frz { cls := .type "list",data := .seq vs.toArray } (.lst (ns.map V.int))) else none) (fun b=>?_) (.inl (.inr ⟨{ cls := .type "list",data := .seq vs.toArray },if_pos rfl⟩)) (fun b u z=>?_) (fun b z=>?_) fun _=>hk
    · by_cases hb:b=a
      · exact .inr ⟨_,_,if_pos hb⟩
      · exact .inl (if_neg hb)
    · by_cases hb:b=a
      · have z':=(if_pos hb).symm.trans z
        cases z'
        subst hb
        exact ⟨ha,by rw [List.length_map]; exact hl,vs,_,rv,ha⟩
      · have z':=(if_neg hb).symm.trans z
        cases z'
    · by_cases hb:b=a
      · exact hb
      · exact absurd (if_neg hb) z
end L2
namespace L2
open PySem PySem.Spec PyProof.Rows
abbrev KOf {K:PySem.W.Frag} {h:Heap} (_:K.In h):PySem.W.Frag:=K
theorem walk_of {l:PySem.W.OpenLaw} {n k:Nat} {q:Program} {loose:List Str} {XP:(Str→Option Value)→Heap→Prop} {YP:World→Heap→Prop} {d:DefRec} {K:Params→PySem.W.Frag} {CX:World→CXT} {sp:World→Sp} {x:Str}
    (hn:l.most=some n) (hn2:n ≤ sizeLine) (hdf:d.params.defaults=[]) (hr:Room k callerA)
    (hY:∀ (w:World) (h:Heap),YP w h→(K w.params).In h)
    (F:∀ (w:World) (mg:Str→Option Value) (fa:Addr) (h:Heap),(K w.params).In h→h.Ns mainGlobals mg→mg d.name=some (.ref fa) →
      ∃ fd:FuncData,(∀ (s:Shared) (u:Value),BindsTo s fd ⟨[u],[]⟩ [(x,u)]) ∧
        ∀ base:Heap,(K w.params).In base→base.Ns mainGlobals mg→FnOk l.prog w (K w.params) mg base (CX w) k fa fd [x] (sp w))
    (hsp:∀ (w:World) (H:Hp) (a:Addr) (ns:List Int),ns.length ≤ n→Only H→SqL (K w.params) H a (ns.map V.int)→sp w [.ref a] H (fun v _=>v = .bl true) fun _ _ _=>False)
    (hCX:∀ (w:World) (H:Hp) (s:Shared) (e:Value) (s':Shared),CX w [] H s (fun _ _ _=>False) e s'→False) :
    PySem.W.WalkO q loose XP YP l.row.toRowW d [] (fun f vs=>PySem.call f vs):=by
  refine Att.attach_call hn hdf fun w s₀ s₁ mg mb fa o pm cd doc a vs ns G Y ho hd hcd hmg hobj hints hlen hg=>?_
  have KX:=hY w _ Y
  obtain ⟨fd,hb,hF⟩:=F w mg fa _ KX G.T.g hmg
  exact law_call KX G.T.g G.T.b G.T.builtins G.T.nolimit hg hobj hints (Nat.le_trans hlen hn2) hr hF hb (fun H hO hS=>hsp w H a ns hlen hO hS) fun H e s'=>hCX w H s₁ e s'
end L2
/- THE LAST THEOREM (shape; LID,My.* are yours):
   My.Adr: a structure of the addresses that your layer names (classes,functions); My.Txt K t: a structure (Prop) of the equations over K;
   My.txt_mk:{K} {implicit addresses ..} (e1:nsIn K mainGlobals "law" = some (some (.ref f))) (e2:K.lookup f=some ⟨oc,od, .func (fnOf "law" "law" params body scope dV kV doc pm an cdv ct),sl⟩) (e3:codeIn K cdv "law" = true) ..:∃ t,My.Txt K t
set_option maxRecDepth 100000 in
set_option maxHeartbeats 0 in
theorem PySem.Challenge.cw_LID_holds : PySem.Challenge.rw_LID.Holds := by
  w_on; o_law; k_head; (case hw=>w_witness2)
  k_fill
  refine L2.walk_of (l:=PySem.Challenge.rw_LID) (n:=63) (k:=40) (x := "script") (CX:=fun w => ..) (sp:=fun _=>My.sp_law) rfl (by decide) rfl ⟨rfl,by decide,by decide⟩ (fun w h Y=>PySem.W.kIn_of Y) ?F ?S ?C
  case F =>
    intro w mg fa h KX G hmg
    have T:∃ t,My.Txt (L2.KOf KX) t:=by
      dsimp only [L2.KOf]
      refine' My.txt_mk ?e1 ?e2 ?e3 ..
      (case e1=>PySem.W.k_is)
      (case e2=>PySem.W.k_is)
      ..
    obtain ⟨t,T⟩:=T
    have e0:=hmg.symm.trans (PySem.W.mg_of KX G T.law)
    cases e0
    exact ⟨_,fun s u => .of_eq rfl,fun base kb nb=>My.law_fn T kb nb⟩
  case S=>exact fun w H a ns hl hO hS => ..
  case C=>exact ..
(the tactic k_is has no namespace: write k_is) -/
namespace L2
open PySem PySem.Spec PyProof.Rows
def inClass (s:Stmt) (j:Nat):Stmt:=match s with
  | .ClassDef _ _ _ body _ _ _ _ _ _ _=>body.getD j (.Pass ⟨0,0,0,0⟩)
  | _ => .Pass ⟨0,0,0,0⟩
def defArgs (s:Stmt):Arguments:=match s with
  | .FunctionDef _ a _ _ _ _ _ _ _ _=>a
  | _=>{ posonlyargs:=[],args:=[],vararg:=none,kwonlyargs:=[],kw_defaults:=[],kwarg:=none,defaults:=[] }
def defBody (s:Stmt):List Stmt:=match s with
  | .FunctionDef _ _ b _ _ _ _ _ _ _=>b
  | _=>[]
def defScope (s:Stmt):Scope:=match s with
  | .FunctionDef _ _ _ _ _ _ sc _ _ _=>sc
  | _=>{ kind := .function,names:=[],isGenerator:=false,isCoroutine:=false }
abbrev CX0:CXT:=fun _ _ _ _ _ _=>False
abbrev E0:XK:=fun _ _ _=>False
theorem pass0 {X:Cx}:Passes CX0 X E0:=fun _ _ _ _ _ _ _ h=>h.elim
structure Fun (K:PySem.W.Frag) (x qual:Str) (st:Stmt) (f:Addr) (fd:FuncData):Prop where
  ex:∃ (oc:Value) (od:Option Addr) (kV doc pm:Value) (an:Option Addr) (cdv ct:Value) (osl:Array (Option Value)),
    fd=PySem.W.fnOf x qual (defArgs st) (defBody st) (defScope st) .none kV doc pm an cdv ct∧K.lookup f=some ⟨oc,od, .func fd,osl⟩∧PySem.W.codeIn K cdv qual=true
  kp:PySem.W.keepIn K (.ref f)=true
section
variable {P:Program} {w:World} {K:PySem.W.Frag} {mg:Str→Option Value} {base:Heap}
theorem Fun.ok {x qual:Str} {st:Stmt} {f:Addr} {fd:FuncData} {N ps:List Str} {k:Nat} {sp:Sp} (F:Fun K x qual st f fd) (S:FnScope N ps (defScope st)) (len:∀ vs H Q E,sp vs H Q E→vs.length=ps.length)
    (hbody:∀ (cdv:Value) (A:Around) (outer:List Env) (s:Shared) (H:Hp) (vs:List V) (Q:VK) (E:XK),Room k (A.deeper (envOfC qual (defScope st) s.heap.objs.size f cdv))→sp vs H Q E →
      ∃ t,PSs (cxOf CX0 P w K mg base N qual (defScope st) f cdv A outer s H E).nox (defBody st) t∧t { nx:=fun _ H'=>Q .non H',rt:=Q } (start N vs) H):FnOk P w K mg base CX0 (k + 1) f fd ps sp:=by
  obtain ⟨oc,od,kV,doc,pm,an,cdv,ct,osl,rfl,lk,hcd⟩:=F.ex
  refine fn_of lk hcd S len fun A outer s H vs Q E hr hsp=>?_
  obtain ⟨t,h,q⟩:=hbody cdv A outer s H vs Q E hr hsp
  exact ⟨t,h.nox,q⟩
theorem Fun.binds {x qual:Str} {st:Stmt} {f:Addr} {fd:FuncData} {ps:List Str} (F:Fun K x qual st f fd)
    (h:∀ (kV doc pm:Value) (an:Option Addr) (cdv ct:Value) (us:List Value),us.length=ps.length→bindArgs (PySem.W.fnOf x qual (defArgs st) (defBody st) (defScope st) .none kV doc pm an cdv ct) ⟨us,[]⟩ = pure (ps.zip us)):Binds K fd ps []:=by
  obtain ⟨oc,od,kV,doc,pm,an,cdv,ct,osl,rfl,lk,hcd⟩:=F.ex
  exact .all (h kV doc pm an cdv ct)
theorem fun_mk {x qual:Str} {st:Stmt} {f:Addr} {oc:Value} {od an:Option Addr} {osl:Array (Option Value)} {kV doc pm cdv ct:Value} (l:K.lookup f=some ⟨oc,od, .func (PySem.W.fnOf x qual (defArgs st) (defBody st) (defScope st) .none kV doc pm an cdv ct),osl⟩)
    (c:PySem.W.codeIn K cdv qual=true) (k:PySem.W.keepIn K (.ref f)=true):Fun K x qual st f (PySem.W.fnOf x qual (defArgs st) (defBody st) (defScope st) .none kV doc pm an cdv ct):=⟨⟨oc,od,kV,doc,pm,an,cdv,ct,osl,rfl,l,c⟩,k⟩
end
theorem hu_of {A:Around} {k:Nat} (hr:Room k A):A.units + 1 < cLine:=Nat.lt_of_le_of_lt (Nat.add_le_add_left (by decide:1 ≤ 64) _) hr.units
section
variable {X:Cx}
theorem pv (i:Nat) {x:Str} {pos:Pos} (hN:X.N[i]? = some x:=by rfl) (hv:Vis X.env.scope x:=by first | exact Or.inl rfl | exact Or.inr (Or.inl rfl) | exact Or.inr (Or.inr rfl)) (hd:(x == ("__debug__":Str))=false:=by decide)
    (hcd:(x == ("__classdict__":Str))=false:=by decide):PE X (.Name x pos) (tVar i):=pe_var hN hv hd hcd
end
theorem iteF {A B:Prop} (h:B):if false=true then A else B:=by
  rw [if_neg Bool.false_ne_true]
  exact h
theorem iteT {A B:Prop} (h:A):if true=true then A else B:=by
  rw [if_pos rfl]
  exact h
theorem ite2 {c A B:Prop} [Decidable c] (h1:c→A) (h2:¬ c→B):if c then A else B:=by
  by_cases h:c
  · rw [if_pos h]
    exact h1 h
  · rw [if_neg h]
    exact h2 h
def Same (H H':Hp):Prop:=∀ b o,H b=some o→H' b=some o
theorem Same.refl (H:Hp):Same H H:=fun _ _ h=>h
theorem Same.trans {H H1 H2:Hp} (a:Same H H1) (b:Same H1 H2):Same H H2:=fun c o h=>b c o (a c o h)
theorem Same.free {H H':Hp} (e:Same H H') {l:Addr} (h:H' l=Option.none):H l=Option.none:=by
  cases q:H l with
  | none=>rfl
  | some o =>
    rw [e l o q] at h
    cases h
theorem Same.seq {K:PySem.W.Frag} {H H':Hp} {a:Addr} {xs:List V} (e:Same H H') (h:SqL K H a xs):SqL K H' a xs:=by
  rcases h with (h | ⟨o,h⟩) | h
  · exact .inl (.inl (e _ _ h))
  · exact .inl (.inr ⟨o,e _ _ h⟩)
  · exact .inr h
end L2
namespace Yd
open PySem
theorem bitAnd_nat (a b:Nat):Builtin.bitAnd (a:Int) (b:Int)=((a &&& b:Nat):Int):=by
  unfold Builtin.bitAnd
  simp
theorem bitNot_eq (x:Int):Builtin.bitNot x = -x - 1:=by
  unfold Builtin.bitNot
  omega
theorem bitOr_nat (a b:Nat):Builtin.bitOr (a:Int) (b:Int)=((a ||| b:Nat):Int):=by
  unfold Builtin.bitOr
  have h1:Builtin.bitNot (a:Int) = -(a:Int) - 1:=bitNot_eq _
  have h2:Builtin.bitNot (b:Int) = -(b:Int) - 1:=bitNot_eq _
  unfold Builtin.bitAnd
  rw [h1,h2]
  have e1:decide (0 ≤ -(a:Int) - 1)=false:=decide_eq_false (by omega)
  have e2:decide (0 ≤ -(b:Int) - 1)=false:=decide_eq_false (by omega)
  rw [e1,e2]
  simp only []
  have e3:Builtin.bitNot (-(a:Int) - 1)=a:=by rw [bitNot_eq]; omega
  have e4:Builtin.bitNot (-(b:Int) - 1)=b:=by rw [bitNot_eq]; omega
  rw [e3,e4]
  simp only [Int.toNat_natCast]
  rw [bitNot_eq,bitNot_eq]
  omega
def setN:List Nat→Nat→Nat
  | [],s=>s
  | n :: r,s=>setN r (s ||| 2 ^ n)
theorem setN_bit (k:Nat):∀ (l:List Nat) (s:Nat),(setN l s).testBit k=(s.testBit k || decide (k ∈ l))
  | [],s=>by simp [setN]
  | n :: r,s=>by
    unfold setN
    rw [setN_bit k r]
    rw [Nat.testBit_or,Nat.testBit_two_pow]
    by_cases h:n=k
    · subst h; simp
    · have:¬ k=n:=fun z=>h z.symm
      simp [h,this]
theorem setN_app (l r:List Nat) (s:Nat):setN (l ++ r) s=setN r (setN l s):=by
  induction l generalizing s with
  | nil=>rfl
  | cons n t ih=>exact ih _
def dueN (l:List Nat):Nat→Nat
  | 0=>0
  | n + 1=>if n ∈ l then dueN l n + 2 ^ n else dueN l n
theorem dueN_lt (l:List Nat):∀ n,dueN l n < 2 ^ n
  | 0=>by simp [dueN]
  | n + 1=>by
    have:=dueN_lt l n
    unfold dueN
    rw [Nat.pow_succ]
    split <;> omega
theorem dueN_bit (l:List Nat) (k:Nat):∀ n,(dueN l n).testBit k=decide (k < n∧k ∈ l)
  | 0=>by simp [dueN]
  | n + 1=>by
    have ih:=dueN_bit l k n
    have hlt:=dueN_lt l n
    unfold dueN
    by_cases hn:n ∈ l
    · rw [if_pos hn,Nat.add_comm]
      rcases Nat.lt_trichotomy k n with h | h | h
      · rw [Nat.testBit_two_pow_add_gt h,ih]
        simp [h,Nat.lt_succ_of_lt h]
      · subst h
        rw [Nat.testBit_two_pow_add_eq,Nat.testBit_lt_two_pow hlt]
        simp [hn]
      · have hb:2 ^ n + dueN l n < 2 ^ k:=by
          have:2 ^ (n + 1) ≤ 2 ^ k:=Nat.pow_le_pow_right (by decide) h
          rw [Nat.pow_succ] at this
          omega
        rw [Nat.testBit_lt_two_pow hb]
        have:¬ k < n + 1:=by omega
        simp [this]
    · rw [if_neg hn,ih]
      by_cases h:k=n
      · subst h; simp [hn]
      · have:k < n↔k < n + 1:=by omega
        simp [this]
theorem due_set {l:List Nat} {n:Nat} (h:∀ k ∈ l,k < n):dueN l n=setN l 0:=by
  apply Nat.eq_of_testBit_eq
  intro k
  rw [dueN_bit,setN_bit]
  by_cases hk:k ∈ l
  · simp [hk,h k hk]
  · simp [hk]
def memN (m b:Nat):List Nat:=(List.range b).filter fun k=>m.testBit k
theorem bits_le {m b:Nat} (h:m < 2 ^ b):Builtin.Int.intBits (m:Int) ≤ b:=by
  unfold Builtin.Int.intBits
  by_cases h0:m=0
  · subst h0; simp
  · have e:((m:Int) == 0)=false:=by simp [h0]
    rw [e]
    simp only [Bool.false_eq_true,if_false,Int.natAbs_natCast]
    have:=(Nat.log2_lt h0).mpr h
    omega
theorem has_bit (m k:Nat):decide (Builtin.bitAnd ((m:Int) / 2 ^ k) 1=1)=m.testBit k:=by
  have e:((m:Int) / 2 ^ k)=((m / 2 ^ k:Nat):Int):=by
    rw [Int.natCast_ediv,Int.natCast_pow]
    rfl
  rw [e,show (1:Int)=((1:Nat):Int) from rfl,bitAnd_nat,Nat.testBit_eq_decide_div_mod_eq]
  rw [Nat.and_one_is_mod]
  congr 1
  exact propext ⟨fun z=>by exact_mod_cast z,fun z=>by exact_mod_cast z⟩
end Yd
namespace L2
open PySem PySem.Spec PyProof.Rows
def closOf (cells:List (Str × Addr)):List (Str × NameKind)→List (Str × Addr)→List (Str × Addr)
  | [],acc=>acc
  | (n,k) :: r,acc=>if k == .free then closOf cells r ((n,(cells.lookup n).getD 0) :: acc) else closOf cells r acc
theorem closureFor_of {scope:Scope} {env:Env} (h:∀ y ∈ scope.names,y.2 = .free→∃ c,env.cells.lookup y.1=some c) :
    closureFor scope env=pure (closOf env.cells scope.names []):=by
  unfold closureFor
  have key:∀ (names:List (Str × NameKind)) (acc:List (Str × Addr)),(∀ y ∈ names,y.2 = .free→∃ c,env.cells.lookup y.1=some c) →
      (forIn names acc fun (x:Str × NameKind) (cs:List (Str × Addr))=>(match x with
        | (name,kind)=>if (kind == NameKind.free)=true then do
            let c ← cellOf env name
            pure (ForInStep.yield ((name,c) :: cs))
          else pure (ForInStep.yield cs):Sem (ForInStep (List (Str × Addr)))))=(pure (closOf env.cells names acc):Sem (List (Str × Addr))):=by
    intro names
    induction names with
    | nil=>intro acc _; rfl
    | cons y r ih =>
      intro acc hy
      obtain ⟨n,k⟩:=y
      rw [List.forIn_cons]
      by_cases hk:(k == NameKind.free)=true
      · obtain ⟨c,hc⟩:=hy (n,k) List.mem_cons_self (by simpa using hk)
        have e1:cellOf env n=pure c:=by
          unfold cellOf
          simp only [] at hc
          rw [hc]
        simp only [hk,if_true,e1,pure_bind]
        rw [ih _ fun z hz=>hy z (List.mem_cons_of_mem _ hz)]
        unfold closOf
        simp only [] at hc
        rw [if_pos hk,hc]
        conv=>rhs; unfold closOf
        rfl
      · simp only [hk,Bool.false_eq_true,if_false,pure_bind]
        rw [ih _ fun z hz=>hy z (List.mem_cons_of_mem _ hz)]
        conv=>rhs; unfold closOf
        rw [if_neg hk]
  exact (congrArg (fun (m:Sem (List (Str × Addr)))=>m >>= fun z=>pure z) (key scope.names [] h)).trans (pure_bind _ _)
theorem closOf_lookup {cells:List (Str × Addr)} {x:Str} {c:Addr}:∀ (names:List (Str × NameKind)) (acc:List (Str × Addr)),(∀ y ∈ names,y.2 = .free→∃ c,cells.lookup y.1=some c) →
    (∀ c,acc.lookup x=some c→cells.lookup x=some c)→(closOf cells names acc).lookup x=some c→cells.lookup x=some c
  | [],acc,_,ha,e=>ha c e
  | (n,k) :: r,acc,hn,ha,e=>by
    unfold closOf at e
    have hr:=fun z hz=>hn z (List.mem_cons_of_mem _ hz)
    split at e
    · rename_i hk
      refine closOf_lookup r _ hr (fun c' e'=>?_) e
      rw [List.lookup_cons] at e'
      split at e'
      · rename_i hx
        have hx':x=n:=by simpa using hx
        subst hx'
        obtain ⟨c0,hc0⟩:=hn (x,k) List.mem_cons_self (by simpa using hk)
        simp only [] at hc0
        rw [hc0] at e' ⊢
        exact e'
      · exact ha c' e'
    · exact closOf_lookup r acc hr ha e
theorem closOf_has {cells:List (Str × Addr)} {x:Str}:∀ (names:List (Str × NameKind)) (acc:List (Str × Addr)),((x,NameKind.free) ∈ names∨∃ c,acc.lookup x=some c) →
    ∃ c,(closOf cells names acc).lookup x=some c
  | [],acc,h=>by
    rcases h with h | h
    · cases h
    · exact h
  | (n,k) :: r,acc,h=>by
    unfold closOf
    split
    · rename_i hk
      refine closOf_has r _ ?_
      rcases h with h | ⟨c,h⟩
      · rcases List.mem_cons.mp h with h | h
        · refine .inr ⟨(cells.lookup n).getD 0,?_⟩
          injection h with h1 h2
          rw [List.lookup_cons,h1]
          simp
        · exact .inl h
      · refine .inr ?_
        rw [List.lookup_cons]
        split
        · exact ⟨_,rfl⟩
        · exact ⟨c,h⟩
    · rename_i hk
      refine closOf_has r _ ?_
      rcases h with h | h
      · rcases List.mem_cons.mp h with h | h
        · injection h with h1 h2
          subst h2
          exact absurd rfl hk
        · exact .inl h
      · exact .inr h
theorem relabel_free {env:Env} {x:Str}:∀ {names:List (Str × NameKind)},names.lookup x=some .free →
    (names.map fun (n,k)=>if (k == NameKind.free && env.scope.kind == .function && env.kindOf n == some .cell) then (n,NameKind.cell) else (n,k)).lookup x=some .cell ∨
    (names.map fun (n,k)=>if (k == NameKind.free && env.scope.kind == .function && env.kindOf n == some .cell) then (n,NameKind.cell) else (n,k)).lookup x=some .free
  | [],h=>by simp at h
  | (n,k) :: r,h=>by
    have ih:=@relabel_free env x r
    rw [List.map_cons]
    cases hx:x == n with
    | true =>
      rw [List.lookup_cons,hx] at h
      cases h
      simp only []
      split
      · left; rw [List.lookup_cons,hx]
      · right; rw [List.lookup_cons,hx]
    | false =>
      rw [List.lookup_cons,hx] at h
      simp only []
      split
      · rw [List.lookup_cons,hx]; exact ih h
      · rw [List.lookup_cons,hx]; exact ih h
theorem relabel_mem {env:Env} {x:Str} {k:NameKind} (hk:k = .cell∨k = .free):∀ {names:List (Str × NameKind)},(∀ y ∈ names,y.2 ≠ .cell) →
    (names.map fun (n,k)=>if (k == NameKind.free && env.scope.kind == .function && env.kindOf n == some .cell) then (n,NameKind.cell) else (n,k)).lookup x=some k→(x,NameKind.free) ∈ names
  | [],_,h=>by simp at h
  | (n,k') :: r,hc,h=>by
    have ih:=@relabel_mem env x k hk r fun y hy=>hc y (List.mem_cons_of_mem _ hy)
    rw [List.map_cons] at h
    simp only [] at h
    cases hx:x == n with
    | true =>
      have e:x=n:=by simpa using hx
      subst e
      split at h
      · rename_i q
        have q':k' = .free:=by
          have:=(Bool.and_eq_true _ _ ▸ q:_∧_).1
          have:=(Bool.and_eq_true _ _ ▸ this:_∧_).1
          simpa using this
        rw [q']
        exact List.mem_cons_self
      · rw [List.lookup_cons,hx] at h
        have e2:k' = k:=Option.some.inj h
        rcases hk with z | z
        · exact absurd (e2.trans z) (hc (x,k') List.mem_cons_self)
        · rw [e2,z]; exact List.mem_cons_self
    | false =>
      split at h
      · rw [List.lookup_cons,hx] at h; exact List.mem_cons_of_mem _ (ih h)
      · rw [List.lookup_cons,hx] at h; exact List.mem_cons_of_mem _ (ih h)
section
variable {prog:Program} {w:World} {A:Around} {R:Result→Shared→Prop} {s:Shared}
abbrev testsOf (ifs:List Expr) (env:Env):Sem Bool :=
  forIn ifs true fun c r=>if r=true then do let ok ← isTrue c env (eval c env); pure (ForInStep.yield ok) else pure (ForInStep.yield r)
theorem compLoop_by {elt tg iter:Expr} {ifs:List Expr} {scope:Scope} {pos:Pos} {it acc:Value} {env:Env} (I:Nat→Shared→Prop)
    (turn:∀ n s,I n s→wpAny (model prog w) A (pyNext it) (fun r s1=>match r with
      | none=>R (.ok .next) s1
      | some v=>wpAny (model prog w) A (letOwnedTupleGo tg it v) (fun _ s2=>wpAny (model prog w) A (assign tg env v) (fun _ s3 =>
          wpAny (model prog w) A (testsOf ifs env) (fun ok s4 =>
            if ok=true then wpAny (model prog w) A (eval elt env) (fun x s5 =>
              wpAny (model prog w) A (call (.builtin "list.append") [acc,x]) (fun _ s6=>∃ m,m < n∧I m s6) (fun _ _=>False) s5) (fun _ _=>False) s4
            else ∃ m,m < n∧I m s4) (fun _ _=>False) s3) (fun _ _=>False) s2) (fun _ _=>False) s1) (fun _ _=>False) s)
    (n:Nat) (h:I n s):codeAny (model prog w) A (.compLoop (.ListComp elt [⟨tg,iter,ifs,0⟩] scope pos) 0 it acc env) R s:=by
  refine codeAny_loop rfl I (fun n s hI=>?_) n h
  have no:∀ {E':Value→Shared→Prop} (e:Value) (s':Shared),False→E' e s':=fun _ _ z=>z.elim
  show wpAny _ A (Sem.onRaise (compTurn (.ListComp elt [⟨tg,iter,ifs,0⟩] scope pos) 0 it acc env) fun x=>do
    noteFrame x env
    theTreesLotGoes x) _ _ s
  refine wpAny_noted ?_
  rw [compTurn_list]
  refine wpAny_bind (wpAny_standAt (wpAny_bind (wpAny_mono (turn n s hI) (fun r s1 h1=>?_) no)))
  cases r with
  | none=>exact wpAny_pure h1
  | some v =>
    refine wpAny_bind (wpAny_mono h1 (fun _ s2 h2=>?_) no)
    refine wpAny_bind (wpAny_mono h2 (fun _ s3 h3=>?_) no)
    refine wpAny_bind (wpAny_mono h3 (fun ok s4 h4=>?_) no)
    cases ok with
    | false=>exact wpAny_pure ⟨rfl,h4⟩
    | true =>
      refine wpAny_bind (wpAny_bind (wpAny_mono h4 (fun x s5 h5=>?_) no))
      exact wpAny_bind (wpAny_mono h5 (fun _ s6 h6=>wpAny_pure (wpAny_pure ⟨rfl,h6⟩)) no)
end
def PTs (X:Cx) (ifs:List Expr) (t:TT):Prop :=
  ∀ (pins:List (Addr × Obj)) (s:Shared) (σ:St) (H:Hp) (Q:Bool→Hp→Prop),Inv X pins σ H s→t σ H Q→wpAny (model X.prog X.w) X.A (testsOf ifs X.env) (TP X pins σ Q) X.xe s
def tYes:TT:=fun _ H Q=>Q true H
theorem pts_nil {X:Cx}:PTs X [] tYes:=fun _ _ _ H _ I h=>wpAny_pure ⟨H,I,h⟩
theorem pts_one {X:Cx} {c:Expr} {t:TT} (h:PT X c t):PTs X [c] t:=fun pins s σ H Q I hw=>by
  simp only [testsOf,List.forIn_cons,List.forIn_nil,if_true]
  exact wpAny_bind (wpAny_bind (thn (h pins s σ H Q I hw) fun b s' hb=>wpAny_pure (wpAny_pure hb)))
structure Blk (N:List Str) (sc scope:Scope) (capN:List Str) (cap:List Nat):Prop where
  kind:scope.kind = .function
  nocell:∀ y ∈ scope.names,y.2 ≠ .cell
  loc:∀ y ∈ scope.names,y.2 = .local→scope.names.lookup y.1=some .local
  free:∀ y ∈ scope.names,y.2 = .free→sc.names.lookup y.1=some .cell∨sc.names.lookup y.1=some .free
  len:cap.length=capN.length
  cap:∀ p ∈ capN.zip cap,scope.names.lookup p.1=some .free∧N[p.2]? = some p.1
abbrev cxBlk (X:Cx) (scope:Scope) (N:List Str) (C:Addr) (s:Shared) (H:Hp) (fp:List Addr):Cx :=
  { X with N:=N,s₀:=s,H₀:=H,env:=compEnvC scope (closOf X.env.cells scope.names []) C X.env,outer:=X.stack,stack:=X.stack,ex:=fp,fn:=fun _=>false,pn:=[],xe:=fun _ _=>False }
def blkσ (n:Nat) (cap:List Nat) (σ:St):St:=List.replicate n none ++ cap.map fun j=>(σ[j]?).join
theorem blkσ_len (n:Nat) (cap:List Nat) (σ:St):(blkσ n cap σ).length=n + cap.length:=by simp [blkσ]
section
variable {X:Cx} {pins:List (Addr × Obj)} {σ:St} {H:Hp} {s:Shared} {scope:Scope} {own capN:List Str} {cap:List Nat} {fp:List Addr}
theorem Blk.clos (B:Blk X.N X.env.scope scope capN cap) (ok:X.Ok):∀ y ∈ scope.names,y.2 = .free→∃ c,X.env.cells.lookup y.1=some c:=fun y hy hf=>ok.has y.1 (B.free y hy hf)
theorem Blk.cell (B:Blk X.N X.env.scope scope capN cap) (ok:X.Ok) {x:Str} {c:Addr} (h:(closOf X.env.cells scope.names []).lookup x=some c):X.env.cells.lookup x=some c :=
  closOf_lookup scope.names [] (B.clos ok) (fun _ e=>by cases e) h
theorem Blk.locs (I:Inv X pins σ H s) (B:Blk X.N X.env.scope scope capN cap) {h':Heap} (k:∀ x c v,X.env.cells.lookup x=some c→s.heap.IsCell c v→h'.IsCell c v) (C:Addr) (m0:Str→Option Value) :
    ∀ (i:Nat) (x:Str) (v:V),(own ++ capN)[i]? = some x→(blkσ own.length cap σ)[i]? = some (some v)→∃ u,RelV v u∧Look (compEnvC scope (closOf X.env.cells scope.names []) C X.env) h' m0 x u:=by
  intro i x v e1 e2
  have hi:own.length ≤ i:=by
    by_cases q:own.length ≤ i
    · exact q
    · unfold blkσ at e2
      rw [List.getElem?_append_left (by simp; omega),List.getElem?_replicate,if_pos (by omega)] at e2
      cases e2
  have e1':capN[i - own.length]? = some x:=by
    rwa [List.getElem?_append_right hi] at e1
  unfold blkσ at e2
  rw [List.getElem?_append_right (by simpa using hi),List.length_replicate,List.getElem?_map] at e2
  cases ej:cap[i - own.length]? with
  | none=>rw [ej] at e2; cases e2
  | some j =>
    rw [ej] at e2
    have e2':(σ[j]?).join=some v:=Option.some.inj e2
    have e3':σ[j]? = some (some v):=by
      cases q:σ[j]? with
      | none=>rw [q] at e2'; cases e2'
      | some u=>rw [q] at e2'; exact congrArg some e2'
    have hz:(x,j) ∈ capN.zip cap:=by
      refine List.mem_iff_getElem?.mpr ⟨i - own.length,?_⟩
      rw [List.getElem?_zip_eq_some]
      exact ⟨e1',ej⟩
    obtain ⟨c1,c2⟩:=B.cap (x,j) hz
    have hfx:(x,NameKind.free) ∈ scope.names:=PySem.mem_of_lookup c1
    have hX:=B.free _ hfx rfl
    obtain ⟨m,hm,hl⟩:=I.loc
    obtain ⟨u,ru,lk⟩:=hl j x v c2 e3' (hX.elim (fun z => .inr (.inl z)) fun z => .inr (.inr z))
    refine ⟨u,ru, .inr ⟨relabel_free c1,?_⟩⟩
    rcases lk with ⟨q,_⟩ | ⟨_,c,ec,ic⟩
    · have q':X.env.scope.names.lookup x=some .local:=q
      rcases hX with z | z
      · rw [z] at q'; cases q'
      · rw [z] at q'; cases q'
    · obtain ⟨c',ec'⟩:=closOf_has (cells:=X.env.cells) (x:=x) scope.names [] (.inl hfx)
      have:=B.cell I.ok ec'
      rw [ec] at this
      cases this
      exact ⟨c,ec',k x c _ ec ic⟩
theorem Inv.blk {h4:Heap} {tk:Nat} {m0:Str→Option Value} {C:Addr} (I:Inv X pins σ H s) (B:Blk X.N X.env.scope scope capN cap) (hC:s.heap.objs.size ≤ C) (k:∀ b o,s.heap.get? b=some o→h4.get? b=some o)
    (hn:h4.Ns C m0) (hf:∀ b ∈ fp,FpOk X pins H b) (hlt:∀ b ∈ fp,b < s.heap.objs.size) :
    Inv (cxBlk X scope (own ++ capN) C s H fp) [] (blkσ own.length cap σ) H { s with heap:=h4,toks:=tk }:=by
  have nfs:∀ b ∈ fp,b ∉ frs X.stack:=fun b hb z=>by
    obtain ⟨_,f1,f2,_⟩:=hf b hb
    rcases List.mem_cons.mp (I.stkSub b z) with e | e
    · exact f1 e
    · exact f2 e
  have hinv:∀ x,((relabel scope X.env).names.lookup x=some .cell∨(relabel scope X.env).names.lookup x=some .free)→(x,NameKind.free) ∈ scope.names:=fun x hx=>by
    rcases hx with q | q
    · exact relabel_mem (.inl rfl) B.nocell q
    · exact relabel_mem (.inr rfl) B.nocell q
  refine ⟨⟨I.ok.mod,B.kind,I.ok.glob,I.ok.blt,hC,fun x y c h1 h2=>I.ok.inj x y c (B.cell I.ok h1) (B.cell I.ok h2),fun x hx=>closOf_has scope.names [] (.inl (hinv x hx)),fun _ _ z=>absurd z Bool.false_ne_true,I.ok.hd,I.ok.frames, .inl rfl,
    fun b hb=>⟨Nat.ne_of_lt (Nat.lt_of_lt_of_le (hlt b hb) hC),fun x c e=>(hf b hb).2.2.2.2.1 x c (B.cell I.ok e)⟩,I.bs,Nat.le_trans I.ok.bsz I.sz,fun b o e hb=>?_,fun b hb=>nfs b hb,I.stack,I.stkFree⟩,
    rfl,I.bare,Un.kept k,⟨m0,hn,fun i x v e1 e2 _=>B.locs I (fun _ _ _ _ q=>q.keeps k) C m0 i x v e1 e2⟩,fun x c e=>?_,I.hok.fresh hC,fun x c e=>I.freeC x c (B.cell I.ok e),fun p hp=>absurd (show p ∈ ([]:List (Addr × Obj)) from hp) (by simp),I.hok.kept k,?_⟩
  · rcases (hf b hb).2.2.2.1 with z | z
    · exact I.ok.noex b o e z
    · exact absurd (Nat.lt_of_lt_of_le (Heap.lt_size e) (Nat.le_trans I.ok.bsz z)) (Nat.lt_irrefl _)
  · obtain ⟨v,q⟩:=I.cell x c (B.cell I.ok e)
    exact ⟨v,q.keeps k⟩
  · show (blkσ own.length cap σ).length=(own ++ capN).length
    rw [blkσ_len,List.length_append,B.len]
theorem Inv.reset {pins':List (Addr × Obj)} {σ':St} {H':Hp} {s':Shared} {C:Addr} (I:Inv X pins σ H s) (B:Blk X.N X.env.scope scope capN cap) (hf:∀ b ∈ fp,FpOk X pins H b) (J:Inv (cxBlk X scope (own ++ capN) C s H fp) pins' σ' H' s') :
    Inv (cxBlk X scope (own ++ capN) C s H fp) pins' (blkσ own.length cap σ) H' s':=by
  obtain ⟨m,hn,_⟩:=J.loc
  refine ⟨J.ok,J.os,J.bare,J.base,⟨m,hn,fun i x v e1 e2 _=>?_⟩,J.cell,J.free,J.freeC,J.pin,J.hok,?_⟩
  · refine B.locs I (fun y c v' ec ic=>?_) C m i x v e1 e2
    obtain ⟨o,ho,hd⟩:=ic
    have hx:c ∉ fp:=fun z=>(hf c z).2.2.2.2.1 y c ec rfl
    obtain ⟨sl,e⟩:=J.base.any ho (I.freeC y c ec) hx
    exact ⟨_,e,hd⟩
  · show (blkσ own.length cap σ).length=(own ++ capN).length
    rw [blkσ_len,List.length_append,B.len]
theorem Inv.adopt {D:Addr} {o:HO} (I:Inv X pins σ H s) (hn:H D=none) (h0:X.s₀.heap.objs.size ≤ D) (hL:D ≠ X.env.locals) (hc:∀ x c,X.env.cells.lookup x=some c→c ≠ D) (hp:∀ p ∈ X.pn ++ pins,p.1 ≠ D)
    (new:ObjOk X.prog X.w (upd H D o) s.heap D o):Inv X pins σ (upd H D o) s:=by
  have ne:∀ b u,H b=some u→b ≠ D:=fun b u e=>ne_of_none e hn
  refine ⟨I.ok,I.os,I.bare,⟨I.base.keep,I.base.slot,fun b ob e n hx=>?_,I.base.there,fun b xs e=>?_,fun b ob u e=>?_,fun b ps e=>?_⟩,I.loc,I.cell,?_,fun x c e=>?_,fun p hp'=>?_,fun b u e=>?_,I.len⟩
  · rw [upd_ne (Nat.ne_of_lt (Nat.lt_of_lt_of_le (Heap.lt_size e) h0))]
    exact I.base.free b ob e n hx
  · have q:=I.base.tups b xs e
    rw [upd_ne (ne b _ q)]; exact q
  · have q:=I.base.frzs b ob u e
    rw [upd_ne (ne b _ q)]; exact q
  · obtain ⟨more,q⟩:=I.base.tbls b ps e
    exact ⟨more,by rw [upd_ne (ne b _ q)]; exact q⟩
  · rw [upd_ne (Ne.symm hL)]; exact I.free
  · rw [upd_ne (hc x c e)]; exact I.freeC x c e
  · obtain ⟨e,n,r⟩:=I.pin p hp'
    exact ⟨e,by rw [upd_ne (hp p hp')]; exact n,r⟩
  · by_cases hb:b=D
    · subst hb; rw [upd_same] at e; cases e; exact new
    · rw [upd_ne hb] at e
      exact (I.hok b u e).stay (fun _ _ _ q=>q) (fun c q=>by rw [upd_ne (ne c _ q)]; exact q) fun c xs q=>by rw [upd_ne (ne c _ q)]; exact q
end
def CompR (J:It) (g:TG) (tt:TT) (te:TE) (σ0:St) (Q:VK) (H1:Hp):Prop:=∃ W:Nat→Nat→List V→Hp→Prop,(∃ m,W 0 m [] H1)∧∀ i m acc H,W i m acc H →
  acc.length < sizeLine∧((J.stop i H∧∀ D,H D=none→Q (.ref D) (upd H D (.lst acc)))∨(J.go i H∧∃ N:List V→Hp→Prop,(∀ acc' H',N acc' H'→∃ m',m' < m∧W (i + 1) m' acc' H') ∧
    ∀ x H',J.yld i H x H'→g x σ0 H' fun σ2 H2=>tt σ2 H2 fun b H3=>if b=true then te σ2 H3 fun y H4=>N (acc ++ [y]) H4 else N acc H3))
def tComp (wi:TI) (g:TG) (tt:TT) (te:TE) (n:Nat) (cap:List Nat):TE:=fun σ H Q=>wi σ H fun J H1=>CompR J g tt te (blkσ n cap σ) Q H1
section
variable {X:Cx} {tg iter elt:Expr} {ifs:List Expr} {scope:Scope} {pos:Pos} {wi:TI} {g:TG} {tt:TT} {te:TE} {own capN:List Str} {cap:List Nat}
abbrev lobj (its:List Value) (k:Nat):Obj:={ cls := .type "list",data := .seq its.toArray k }
theorem comp_run {pins:List (Addr × Obj)} {s:Shared} {σ:St} {H:Hp} {Q:VK} {it:Addr} {fp:List Addr} {tn:Nat→Heap→Prop} {J:It} (B:Blk X.N X.env.scope scope capN cap) (hc:X.calm=true)
    (hb:∀ (C:Addr) (s:Shared) (H:Hp) (fp:List Addr),PG (cxBlk X scope (own ++ capN) C s H fp) tg g∧PTs (cxBlk X scope (own ++ capN) C s H fp) ifs tt∧PE (cxBlk X scope (own ++ capN) C s H fp) elt te)
    (I:Inv X pins σ H s) (T:Turn X.prog X.w X.K tg J fp it tn) (st:tn 0 s.heap) (hf:∀ b ∈ fp,FpOk X pins H b) {W:Nat→Nat→List V→Hp→Prop} {m0:Nat} (w0:W 0 m0 [] H)
    (turn:∀ i m acc H,W i m acc H→acc.length < sizeLine∧((J.stop i H∧∀ D,H D=none→Q (.ref D) (upd H D (.lst acc)))∨(J.go i H∧∃ N:List V→Hp→Prop,(∀ acc' H',N acc' H'→∃ m',m' < m∧W (i + 1) m' acc' H') ∧
      ∀ x H',J.yld i H x H'→g x (blkσ own.length cap σ) H' fun σ2 H2=>tt σ2 H2 fun b H3=>if b=true then te σ2 H3 fun y H4=>N (acc ++ [y]) H4 else N acc H3)))
    {RR:Value→Addr→Result→Shared→Prop}
    (fin:∀ (D C:Addr) (H':Hp) (s':Shared),Q (.ref D) H'→Inv X pins σ H' s'→(∃ m,s'.heap.Ns C m)→H' C=none→C ≠ X.env.locals→X.s₀.heap.objs.size ≤ C→(∀ x c,X.env.cells.lookup x=some c→c ≠ C)→(∀ p ∈ X.pn ++ pins,p.1 ≠ C) →
      RR (.ref D) C (.ok .next) s') :
    wpAny (model X.prog X.w) X.A (newList []) (fun acc s3=>wpAny (model X.prog X.w) X.A (newFunctionEnv scope X.env.globals (closOf X.env.cells scope.names []) [] X.env.qual none .none (some X.env)) (fun cenv s4 =>
      codeAny (model X.prog X.w) X.A (.compStart (.ListComp elt [⟨tg,iter,ifs,0⟩] scope pos) 0 (.ref it) acc { cenv with scope:=relabel scope X.env }) (RR acc cenv.locals) s4) X.xe s3) X.xe s:=by
  refine wpAny_newObj_type (wpAny_newFunctionEnv B.nocell (by intro y hy; simp at hy) (fun h1 hns hsb=>?_) B.kind)
  dsimp only at hns hsb ⊢
  generalize hH2:s.heap.push { cls := .type "list",dict:=none,data := .seq ([]:List Value).toArray } = H2 at hns hsb ⊢
  have hCs:H2.objs.size=s.heap.objs.size + 1:=by rw [← hH2,Heap.size_push]
  have hCle:s.heap.objs.size ≤ H2.objs.size:=by omega
  have ltOf:∀ b ∈ fp,b < s.heap.objs.size:=fun b hb=>by
    obtain ⟨o,e,_⟩:=T.obj 0 s.heap st b hb
    exact Heap.lt_size e
  have old:∀ b o,s.heap.get? b=some o→h1.get? b=some o:=fun b o e =>
    hsb.extBut b o (Nat.ne_of_lt (Nat.lt_of_lt_of_le (Heap.lt_size e) hCle)) (Heap.get?_push_of_some _ (hH2 ▸ Heap.get?_push_of_some _ e))
  have hDC:s.heap.objs.size ≠ H2.objs.size:=by omega
  have hacc:h1.get? s.heap.objs.size=some (lobj [] 0):=hsb.extBut _ _ hDC (Heap.get?_push_of_some _ (hH2 ▸ Heap.get?_push_size _ rfl))
  have I4:Inv (cxBlk X scope (own ++ capN) H2.objs.size s H fp) [] (blkσ own.length cap σ) H { s with heap:=h1,toks:=s.toks + ([]:List (Str × Value)).length }:=I.blk (own:=own) B hCle old hns hf ltOf
  have nfs:∀ b ∈ fp,b ∉ frs X.stack:=fun b hb z=>by
    obtain ⟨_,f1,f2,_⟩:=hf b hb
    rcases List.mem_cons.mp (I.stkSub b z) with e | e
    · exact f1 e
    · exact f2 e
  have stackLt:∀ b ∈ frs X.stack,b < s.heap.objs.size:=fun b hb=>by
    obtain ⟨_,o,ho,_⟩:=I.stack.mem hb
    exact Heap.lt_size ho
  have cellLt:∀ x c,X.env.cells.lookup x=some c→c < s.heap.objs.size:=fun x c e=>by
    obtain ⟨v,q⟩:=I.cell x c e
    exact q.lt
  have pinOk:∀ (H':Hp) (h':Heap) (its:List Value) (k:Nat),H' s.heap.objs.size=none→h'.get? s.heap.objs.size=some (lobj its k) →
      ∀ p ∈ [(s.heap.objs.size,lobj its k)],h'.get? p.1=some p.2∧H' p.1=none∧p.1 ≠ (cxBlk X scope (own ++ capN) H2.objs.size s H fp).env.locals∧p.1 ∉ (cxBlk X scope (own ++ capN) H2.objs.size s H fp).fs∧∀ v,p.2.data ≠ .cell v:=fun H' h' its k hn he p hp=>by
    have e:p=(s.heap.objs.size,lobj its k):=by simpa using hp
    subst e
    exact ⟨he,hn,hDC,fun z=>absurd (stackLt _ z) (Nat.lt_irrefl _),fun v z=>by cases z⟩
  have stat:∀ (H':Hp) (its:List Value) (k:Nat),(∀ b ∈ fp,H' b=none)→∀ b ∈ fp,FpOk (cxBlk X scope (own ++ capN) H2.objs.size s H fp) [(s.heap.objs.size,lobj its k)] H' b:=fun H' its k hn b hb =>
    ⟨hn b hb,Nat.ne_of_lt (Nat.lt_of_lt_of_le (ltOf b hb) hCle),nfs b hb, .inl hb,fun x c e=>(hf b hb).2.2.2.2.1 x c (B.cell I.ok e),fun p hp=>by
      have e:p=(s.heap.objs.size,lobj its k):=by simpa using hp
      subst e
      exact Nat.ne_of_gt (ltOf b hb)⟩
  have loop:∀ s3:Shared,s3 = { s with heap:=h1,toks:=s.toks + ([]:List (Str × Value)).length } →
      codeAny (model X.prog X.w) X.A (.compLoop (.ListComp elt [⟨tg,iter,ifs,0⟩] scope pos) 0 (.ref it) (.ref s.heap.objs.size) (compEnvC scope (closOf X.env.cells scope.names []) H2.objs.size X.env))
        (RR (.ref s.heap.objs.size) H2.objs.size) s3:=by
    rintro s3 rfl
    refine compLoop_by (fun n s'=>∃ i acc its k H',Inv (cxBlk X scope (own ++ capN) H2.objs.size s H fp) [(s.heap.objs.size,lobj its k)] (blkσ own.length cap σ) H' s'∧tn i s'.heap∧(∀ b ∈ fp,H' b=none)∧Vals acc its∧W i n acc H') ?_ m0
      ⟨0,[],[],0,H,I4.pins_of (pinOk _ _ _ _ (I.hok.fresh (Nat.le_refl _)) hacc),T.keep 0 s.heap h1 st fun b _ o e=>old b o e,fun b hb=>(hf b hb).1, .nil,w0⟩
    rintro n s5 ⟨i,acc,its,k,H5,I5,st5,fr5,rv,w5⟩
    obtain ⟨hsz,hcase⟩:=turn i n acc H5 w5
    obtain ⟨hgt,htt,hte⟩:=hb H2.objs.size s H fp
    rcases hcase with ⟨stop,q⟩ | ⟨go,N,hN,step⟩
    · refine thn (T.done (cxBlk X scope (own ++ capN) H2.objs.size s H fp) rfl rfl rfl hc i _ s5 _ H5 _ I5 (stat H5 its k fr5) st5 stop) fun r s6 ⟨hr,I6⟩=>?_
      subst hr
      obtain ⟨hD,hDn,_⟩:=I6.pin (s.heap.objs.size,lobj its k) (by simp)
      have J1:Inv X pins σ H5 s6:=I.call' (s':=s6) (ch:=fp) I6.os I6.base I6.hok I6.bare fun b hb=>by
        obtain ⟨_,f1,_,f3,f4,f5⟩:=hf b hb
        exact ⟨f3,f1,f4,f5⟩
      have J2:Inv X pins σ (upd H5 s.heap.objs.size (.lst acc)) s6:=J1.adopt hDn I.sz (Nat.ne_of_gt I.lt) (fun x c e=>Nat.ne_of_lt (cellLt x c e)) (fun p hp=>Nat.ne_of_lt (Heap.lt_size (I.pin p hp).1)) ⟨Nat.le_of_lt hsz,its,k,rv,hD⟩
      obtain ⟨mC,hnC,_⟩:=I6.loc
      refine fin _ _ _ s6 (q _ hDn) J2 ⟨mC,hnC⟩ (by rw [upd_ne (Ne.symm hDC)]; exact I6.free) (Nat.ne_of_gt (Nat.lt_of_lt_of_le I.lt hCle)) (Nat.le_trans I.sz hCle) (fun x c e=>Nat.ne_of_lt (Nat.lt_of_lt_of_le (cellLt x c e) hCle)) fun p hp =>
        Nat.ne_of_lt (Nat.lt_of_lt_of_le (Heap.lt_size (I.pin p hp).1) hCle)
    · refine thn (T.item (cxBlk X scope (own ++ capN) H2.objs.size s H fp) rfl rfl rfl hc i _ s5 _ H5 _ I5 (stat H5 its k fr5) st5 go) fun r s6 ⟨u,hr,h6⟩=>?_
      subst hr
      refine thn h6 fun _ s7 ⟨x,H7,I7,r7,y7,st7,fr7⟩=>?_
      have I7':=I7.pinned (stat H7 its k fr7) (T.obj _ _ st7)
      refine thn (hgt _ s7 _ H7 x u _ I7' r7 (step x H7 y7)) fun _ s8 ⟨σ8,H8,I8,q8⟩=>?_
      refine thn (htt _ s8 σ8 H8 _ I8 q8) fun b s9 ⟨H9,I9,q9⟩=>?_
      have itk:∀ {H':Hp} {s':Shared} {σ':St},Inv (cxBlk X scope (own ++ capN) H2.objs.size s H fp) (pinsAt fp s7.heap) σ' H' s'→tn (i + 1) s'.heap∧∀ b ∈ fp,H' b=none:=fun {H' s' σ'} K=>by
        refine ⟨T.keep _ _ _ st7 fun b hb o e=>(K.pin (b,o) (mem_pinsAt hb e)).1,fun b hb=>?_⟩
        obtain ⟨o,e,_⟩:=T.obj _ _ st7 b hb
        exact (K.pin (b,o) (mem_pinsAt hb e)).2.1
      cases b with
      | false =>
        rw [if_neg Bool.false_ne_true]
        obtain ⟨m',hm,w9⟩:=hN acc H9 (by simpa using q9)
        have K9:Inv (cxBlk X scope (own ++ capN) H2.objs.size s H fp) (pinsAt fp s7.heap) σ8 H9 s9:=I9.pins_of fun p hp=>I9.pin p (List.mem_append_right _ (List.mem_append_right _ hp))
        obtain ⟨t9,f9⟩:=itk K9
        exact ⟨m',hm,i + 1,acc,its,k,H9,I.reset B hf I9.unpinned,t9,f9,rv,w9⟩
      | true =>
        rw [if_pos rfl]
        have q9':te σ8 H9 fun y H4=>N (acc ++ [y]) H4:=by simpa using q9
        refine thn (hte _ s9 σ8 H9 _ I9 q9') fun yv s10 ⟨y,H10,I10,r10,q10⟩=>?_
        obtain ⟨hD,hDn,_⟩:=I10.pin (s.heap.objs.size,lobj its k) (by simp)
        have hlen:=rv.length
        refine wpAny_list_append_plain ⟨k,hD⟩ (fun h' hpl hsb'=>?_) (by rw [List.size_toArray]; omega)
        obtain ⟨k',hD'⟩:=hpl
        obtain ⟨m',hm,w10⟩:=hN (acc ++ [y]) H10 q10
        have K10:Inv (cxBlk X scope (own ++ capN) H2.objs.size s H fp) (pinsAt fp s7.heap) σ8 H10 s10:=I10.pins_of fun p hp=>I10.pin p (List.mem_append_right _ (List.mem_append_right _ hp))
        have K11:Inv (cxBlk X scope (own ++ capN) H2.objs.size s H fp) (pinsAt fp s7.heap) σ8 H10 { s10 with heap:=h' }:=K10.turned (t':=s10.toks) (it:=s.heap.objs.size) (fun b o hb e=>(hsb'.2 b hb).trans e) hDn hDC (.inr (Nat.le_refl _))
          (fun x c e=>Nat.ne_of_lt (cellLt x c (B.cell I.ok e))) fun p hp=>by
            obtain ⟨hb,_⟩:=of_pinsAt (show p ∈ pinsAt fp s7.heap from hp)
            exact Nat.ne_of_lt (ltOf p.1 hb)
        obtain ⟨t11,f11⟩:=itk K11
        refine ⟨m',hm,i + 1,acc ++ [y],its ++ [yv],k',H10,?_,t11,f11,rv.append (.cons r10 .nil),w10⟩
        refine I.reset B hf (K11.pins_of (pinOk _ _ _ _ hDn ?_))
        show h'.get? s.heap.objs.size=some { cls := .type "list",data := .seq (its ++ [yv]).toArray k' }
        rw [show (its ++ [yv]).toArray=its.toArray.push yv by simp]
        exact hD'
  exact codeAny_compStart_list (loop _ rfl) (T.self X.A 0 _ _ _ (T.keep 0 s.heap h1 st fun b _ o e=>old b o e) (loop _ rfl))
theorem pe_comp (B:Blk X.N X.env.scope scope capN cap) (hc:X.calm=true) (hi:PI X tg iter wi)
    (hb:∀ (C:Addr) (s:Shared) (H:Hp) (fp:List Addr),PG (cxBlk X scope (own ++ capN) C s H fp) tg g∧PTs (cxBlk X scope (own ++ capN) C s H fp) ifs tt∧PE (cxBlk X scope (own ++ capN) C s H fp) elt te)
    (hs:∀ x,foldedSetIterable iter X.env x=pure x:=by intro _; rfl):PE X (.ListComp elt [⟨tg,iter,ifs,0⟩] scope pos) (tComp wi g tt te own.length cap):=by
  intro pins s σ H Q I h
  rw [eval_ListComp]
  refine wpAny_comprehension_free (use:=none) rfl hs (closureFor_of (B.clos I.ok)) B.kind B.loc (thn (hi pins s σ H _ I h) fun v s1 h1=>thn h1 fun itv s2 h2=>?_)
  obtain ⟨it,fp,tn,J,H2,e,I2,T,st2,f2,W,⟨m0,w0⟩,turn⟩:=h2
  subst e
  refine comp_run (own:=own) B hc hb I2 T st2 f2 w0 turn (RR:=fun acc C=>compPost (model X.prog X.w) X.A X.xe none (EP X pins σ Q) acc C) fun D C H' s' q J2 ⟨mC,hnC⟩ fC n1 n2 n3 n4=>?_
  refine ⟨mC,hnC,fun h' hsb=>⟨.ref D,H',?_,rfl,q⟩⟩
  exact J2.turned (t':=s'.toks) (it:=C) (fun b o hb e=>(hsb.2 b hb).trans e) fC n1 (.inr n2) n3 n4
theorem ps_setComp {i:Nat} {x:Str} {px:Pos} {spos:Pos} (B:Blk X.N X.env.scope scope capN cap) (hc:X.calm=true) (hN:X.N.Nodup) (hx:X.N[i]? = some x) (hl:X.env.scope.names.lookup x=some .local) (hi:PI X tg iter wi)
    (hb:∀ (C:Addr) (s:Shared) (H:Hp) (fp:List Addr),PG (cxBlk X scope (own ++ capN) C s H fp) tg g∧PTs (cxBlk X scope (own ++ capN) C s H fp) ifs tt∧PE (cxBlk X scope (own ++ capN) C s H fp) elt te)
    (hsw:swapsWith (.ListComp elt [⟨tg,iter,ifs,0⟩] scope pos) (some (.Name x px)) spos.line X.env=pure true:=by rfl)
    (hs:∀ x,foldedSetIterable iter X.env x=pure x:=by intro _; rfl):PS X (.Assign [.Name x px] (.ListComp elt [⟨tg,iter,ifs,0⟩] scope pos) spos) (tAsg (tComp wi g tt te own.length cap) (gName i)):=by
  intro pins s σ H D0 I h
  rw [exec_Assign_Name_used _ _ _ _ hsw]
  refine wpAny_bind (wpAny_standAt (wpAny_bind ?_))
  show wpAny _ X.A (do
    let _ ← comprehension (.ListComp elt [⟨tg,iter,ifs,0⟩] scope pos) scope X.env _ (newList []) false (eval iter X.env) (some (assign (.Name x px) X.env))) _ _ s
  refine wpAny_bind (wpAny_mono (wpAny_comprehension_free (use:=some (assign (.Name x px) X.env)) (Q:=fun _ s'=>SP X pins D0 .next s') rfl hs (closureFor_of (B.clos I.ok)) B.kind B.loc
    (thn (hi pins s σ H _ I h) fun v s1 h1=>thn h1 fun itv s2 h2=>?_)) (fun _ s' hq=>wpAny_pure (wpAny_pure hq)) fun _ _ e=>e)
  obtain ⟨it,fp,tn,J,H2,e,I2,T,st2,f2,W,⟨m0,w0⟩,turn⟩:=h2
  subst e
  refine comp_run (own:=own) (Q:=fun x H1=>gName i x σ H1 D0.nx) B hc hb I2 T st2 f2 w0 turn (RR:=fun acc C=>compPost (model X.prog X.w) X.A X.xe (some (assign (.Name x px) X.env)) (fun _ s'=>SP X pins D0 .next s') acc C) fun D C H' s' q J2 ⟨mC,hnC⟩ fC n1 n2 n3 n4=>?_
  show wpAny _ X.A (assign (.Name x px) X.env (.ref D)) _ _ s'
  refine wpAny_assign_Name (store_ok2 J2 hN hx (.inl hl) (show RelV (.ref D) (.ref D) from rfl) (fun s'' J3 ⟨a,hsb,ha⟩=>?_) (.inr hl))
  have hCa:C ≠ a:=by
    rcases ha with z | z
    · rw [z]; exact n1
    · exact (n3 x a z).symm
  refine ⟨mC,hnC.sameBut hsb hCa,fun h' hsb'=>⟨_,H',?_,q⟩⟩
  exact J3.turned (t':=s''.toks) (it:=C) (fun b o hb e=>(hsb'.2 b hb).trans e) fC n1 (.inr n2) n3 n4
end
end L2
namespace L2
open PySem PySem.Spec PyProof.Rows
mutual
inductive Den (K:PySem.W.Frag) (H:Hp):V→PyData→Prop
  | non:Den K H .non .none
  | bl (b:Bool):Den K H (.bl b) (.bool b)
  | int (i:Int):Den K H (.int i) (.int i)
  | str (x:Str):Den K H (.str x) (.str x)
  | lst {a:Addr} {xs:List V} {ds:List PyData}:SqL K H a xs→Dens K H xs ds→Den K H (.ref a) (.list ds)
  | tup {a:Addr} {xs:List V} {ds:List PyData}:SqT K H a xs→Dens K H xs ds→Den K H (.ref a) (.tuple ds)
inductive Dens (K:PySem.W.Frag) (H:Hp):List V→List PyData→Prop
  | nil:Dens K H [] []
  | cons {x:V} {d:PyData} {xs:List V} {ds:List PyData}:Den K H x d→Dens K H xs ds→Dens K H (x :: xs) (d :: ds)
end
section
variable {X:Cx} {pins:List (Addr × Obj)} {σ:St} {H:Hp} {s:Shared}
mutual
theorem Inv.den (I:Inv X pins σ H s):∀ {x:V} {d:PyData} {u:Value},Den X.K H x d→RelV x u→∃ as,Reads s.heap u d as
  | _,_,_, .non,r=>by cases r; exact ⟨_, .none⟩
  | _,_,_, .bl b,r=>by cases r; exact ⟨_, .bool b⟩
  | _,_,_, .int i,r=>by obtain ⟨t,rfl⟩:=r; exact ⟨_, .int i t⟩
  | _,_,_, .str x,r=>by obtain ⟨t,rfl⟩:=r; exact ⟨_, .str x t⟩
  | _,_,_, .lst hq hd,r=>by
    cases r
    obtain ⟨its,rv,⟨o,n,e,hc,_,hdt⟩,_⟩:=I.list hq
    obtain ⟨as,q⟩:=I.dens hd rv
    exact ⟨_, .list e hc hdt (by simpa using q)⟩
  | _,_,_, .tup hq hd,r=>by
    cases r
    obtain ⟨its,rv,⟨o,e,hc,n,hdt⟩,_⟩:=I.tuple hq
    obtain ⟨as,q⟩:=I.dens hd rv
    exact ⟨_, .tuple e hc hdt (by simpa using q)⟩
theorem Inv.dens (I:Inv X pins σ H s):∀ {xs:List V} {ds:List PyData} {us:List Value},Dens X.K H xs ds→Vals xs us→∃ as,ReadsAll s.heap us ds as
  | _,_,_, .nil, .nil=>⟨_, .nil⟩
  | _,_,_, .cons hd hr, .cons r rr=>by
    obtain ⟨as,q⟩:=I.den hd r
    obtain ⟨bs,q'⟩:=I.dens hr rr
    exact ⟨_, .cons q q'⟩
end
def rEqD (K:PySem.W.Frag):R2:=fun x y H Q=>∃ da db,Den K H x da∧Den K H y db∧SeqAt.shaped da=true∧SeqAt.shaped db=true∧Q (.bl (PyData.eqv da db)) H
def rNeD (K:PySem.W.Frag):R2:=fun x y H Q=>∃ da db,Den K H x da∧Den K H y db∧SeqAt.shaped da=true∧SeqAt.shaped db=true∧Q (.bl (!PyData.eqv da db)) H
end
section
variable {X:Cx}
theorem op_eqD (hu:X.A.units + 64 < cLine):OpR X (compareOp .Eq) (rEqD X.K):=by
  intro pins s σ H x y v u Q I rx ry h
  obtain ⟨da,db,h1,h2,h3,h4,q⟩:=h
  obtain ⟨as,r1⟩:=I.den h1 rx
  obtain ⟨bs,r2⟩:=I.den h2 ry
  exact SeqAt.compareEq_shaped r1 r2 h3 h4 hu ⟨.bl _,H,I,rfl,q⟩
theorem op_neD (hu:X.A.units + 64 < cLine):OpR X (compareOp .NotEq) (rNeD X.K):=by
  intro pins s σ H x y v u Q I rx ry h
  obtain ⟨da,db,h1,h2,h3,h4,q⟩:=h
  obtain ⟨as,r1⟩:=I.den h1 rx
  obtain ⟨bs,r2⟩:=I.den h2 ry
  exact SeqAt.compareNe_shaped r1 r2 h3 h4 hu ⟨.bl _,H,I,rfl,q⟩
theorem dens_ints {K:PySem.W.Frag} {H:Hp}:∀ ns:List Int,Dens K H (ns.map V.int) (ns.map PyData.int)
  | [] => .nil
  | n :: r => .cons (.int n) (dens_ints r)
theorem den_ints {K:PySem.W.Frag} {H:Hp} {a:Addr} {ns:List Int} (h:SqL K H a (ns.map V.int)):Den K H (.ref a) (.list (ns.map PyData.int)) := .lst h (dens_ints ns)
def rEqI (K:PySem.W.Frag):R2:=fun x y H Q=>∃ (p q:Addr) (ns ms:List Int),x = .ref p∧y = .ref q∧SqL K H p (ns.map V.int)∧SqL K H q (ms.map V.int)∧Q (.bl (decide (ns=ms))) H
def rNeI (K:PySem.W.Frag):R2:=fun x y H Q=>∃ (p q:Addr) (ns ms:List Int),x = .ref p∧y = .ref q∧SqL K H p (ns.map V.int)∧SqL K H q (ms.map V.int)∧Q (.bl (!decide (ns=ms))) H
theorem op_eqI (hu:X.A.units + 64 < cLine):OpR X (compareOp .Eq) (rEqI X.K):=by
  intro pins s σ H x y v u Q I rx ry h
  obtain ⟨p,q,ns,ms,rfl,rfl,h1,h2,q⟩:=h
  refine op_eqD hu pins s σ H _ _ v u Q I rx ry ⟨_,_,den_ints h1,den_ints h2,PySem.W.shaped_ints ns,PySem.W.shaped_ints ms,?_⟩
  simp only [PyData.eqv,PySem.W.ked_eqvAll]
  exact q
theorem op_neI (hu:X.A.units + 64 < cLine):OpR X (compareOp .NotEq) (rNeI X.K):=by
  intro pins s σ H x y v u Q I rx ry h
  obtain ⟨p,q,ns,ms,rfl,rfl,h1,h2,q⟩:=h
  refine op_neD hu pins s σ H _ _ v u Q I rx ry ⟨_,_,den_ints h1,den_ints h2,PySem.W.shaped_ints ns,PySem.W.shaped_ints ms,?_⟩
  simp only [PyData.eqv,PySem.W.ked_eqvAll]
  exact q
def rIsi (K:PySem.W.Frag):List V→Hp→VK→Prop:=fun xs H Q =>
  (∃ i,xs=[.int i, .ty "int"]∧Q (.bl true) H)∨(∃ i,xs=[.int i, .ty "bool"]∧Q (.bl false) H)∨(∃ p ys,xs=[.ref p, .ty "list"]∧SqL K H p ys∧Q (.bl true) H)∨(∃ p ys,xs=[.ref p, .ty "tuple"]∧SqT K H p ys∧Q (.bl true) H)
theorem call_isi:CallR X (.builtin "isinstance") (rIsi X.K):=by
  intro pins s σ H xs us Q I r h
  rcases h with ⟨i,rfl,q⟩ | ⟨i,rfl,q⟩ | ⟨p,ys,rfl,hq,q⟩ | ⟨p,ys,rfl,hq,q⟩
  · cases r with
    | cons r1 r2 =>
      cases r2 with
      | cons r2 r3 =>
        cases r3
        obtain ⟨t,rfl⟩:=r1
        cases r2
        exact IsiPair.int_int ⟨.bl true,H,I,rfl,q⟩
  · cases r with
    | cons r1 r2 =>
      cases r2 with
      | cons r2 r3 =>
        cases r3
        obtain ⟨t,rfl⟩:=r1
        cases r2
        exact IsiPair.int_bool ⟨.bl false,H,I.tok _,rfl,q⟩
  · cases r with
    | cons r1 r2 =>
      cases r2 with
      | cons r2 r3 =>
        cases r3
        cases r1
        cases r2
        obtain ⟨its,rv,⟨o,n,e,hc,_⟩,_⟩:=I.list hq
        exact IsiPair.list_list e hc ⟨.bl true,H,I,rfl,q⟩
  · cases r with
    | cons r1 r2 =>
      cases r2 with
      | cons r2 r3 =>
        cases r3
        cases r1
        cases r2
        obtain ⟨its,rv,⟨o,e,hc,_⟩,_⟩:=I.tuple hq
        exact IsiPair.tuple_tuple e hc ⟨.bl true,H,I,rfl,q⟩
theorem mt_bits:MtR X "int.bit_length" (fun x xs H Q=>∃ i,x = .int i∧xs=[]∧Q (.int (Builtin.Int.intBits i:Nat)) H):=by
  intro pins s σ H x xs v us Q I rx rv h
  obtain ⟨i,rfl,rfl,q⟩:=h
  obtain ⟨t,rfl⟩:=rx
  cases rv
  exact call_int_bit_length ⟨.int _,H,I.tok _,⟨_,rfl⟩,q⟩
theorem Inv.same {pins:List (Addr × Obj)} {σ:St} {H:Hp} {s s':Shared} (I:Inv X pins σ H s) (k:∀ b o,s.heap.get? b=some o→s'.heap.get? b=some o) (g:s'.gens=s.gens) (ho:s'.os=s.os):Inv X pins σ H s':=by
  obtain ⟨hh,gg,dd,tt,oo⟩:=s'
  simp only at k g ho
  subst g
  subst ho
  have J:Inv X pins σ H { s with heap:=hh,toks:=tt }:=I.kept k
  exact ⟨J.ok,J.os,J.bare,J.base,J.loc,J.cell,J.free,J.freeC,J.pin,J.hok,J.len⟩
theorem call_all (hc:X.calm=true):CallR X (.builtin "all") (fun xs H Q=>∃ (p:Addr) (bs:List Bool),xs=[.ref p]∧SqL X.K H p (bs.map V.bl)∧Q (.bl (bs.all id)) H):=by
  intro pins s σ H xs us Q I r h
  obtain ⟨p,bs,rfl,hq,q⟩:=h
  obtain ⟨u,rfl,rx⟩:=vals1 r
  cases rx
  obtain ⟨its,rv,pl,hz⟩:=I.list hq
  have hlen:=rv.length
  rw [List.length_map] at hlen
  have hlt:p < s.heap.objs.size:=by obtain ⟨o,n,e,_⟩:=pl; exact Heap.lt_size e
  have bAt:∀ (i:Nat) (v:Value),its.toArray[i]? = some v→v=Value.bool (bs.getD i false):=fun i v hv=>by
    have hv':its[i]? = some v:=by simpa using hv
    have hi:i < bs.length:=by rw [hlen]; exact (List.getElem?_eq_some_iff.mp hv').1
    obtain ⟨u,hu,ru⟩:=rv.get (i:=i) (x := .bl bs[i]) (by simp [hi])
    rw [hv'] at hu
    cases hu
    rw [List.getD_eq_getElem?_getD,List.getElem?_eq_getElem hi]
    exact ru
  have hh1:X.A.in1.handled=none:=I.ok.hd hc
  refine call_all_walkS (wpAny_pyIter_list pl.isList ⟨s.heap.objs.size,[s.heap.objs.size,p],[s.heap.objs.size],fun a b=>b=a,its.toArray.size,fun i v=>its.toArray[i]? = some v,_,fun i=>bs.getD i false,rfl,
    (Walks.list hh1 _ p (Nat.ne_of_lt hlt) its.toArray).toS,⟨⟨_,Heap.get?_push_size _ rfl,rfl,rfl⟩,pl.isList.push _⟩,fun i v s1 Q1 E1 hv hq1=>?_,fun s' hm=>?_⟩)
  · rw [bAt i v hv]
    exact wpAny_truthy_bool hq1
  · have I1:Inv X pins σ H { s with heap:=s.heap.push { cls := .type "list_iterator",data := .fields #[.ref p, .int 0 0] } }:=I.kept (t':=s.toks) fun b o e=>Heap.get?_push_of_some _ e
    refine ⟨.bl _,H,I.same (fun b o e=>hm.heap b o (fun hb=>?_) (Heap.get?_push_of_some _ e)) hm.gens hm.os,rfl,?_⟩
    · have hb':b=s.heap.objs.size:=by simpa using hb
      exact absurd (Heap.lt_size e) (by rw [hb']; exact Nat.lt_irrefl _)
    · have e:((List.range its.toArray.size).all fun i=>bs.getD i false)=bs.all id:=by
        rw [List.size_toArray,← hlen]
        clear bAt hlen hq rv q
        have:(List.range bs.length).map (fun i=>bs.getD i false)=bs:=by
          apply List.ext_getElem
          · simp
          · intro i h1 h2
            simp [h2]
        conv=>rhs; rw [← this]
        rw [List.all_map]
        rfl
      rw [e]
      exact q
def tRev (K:PySem.W.Frag) (te tk:TE):TE:=fun σ H Q=>te σ H fun x H1=>tk σ H1 fun y H2=>y = .int (-1)∧∃ a xs,x = .ref a∧SqL K H2 a xs∧∀ p,H2 p=none→Q (.ref p) (upd H2 p (.lst xs.reverse))
end
end L2
namespace L2
open PySem PySem.Spec PyProof.Rows
theorem dict_mapFields {o:Obj} {vs:Array Value} (hd:o.data = .fields vs) (f:Array Value→Array Value):(Obj.mapFields f o).dict=o.dict:=by
  obtain ⟨c,d,dt,sl⟩:=o
  cases dt <;> rfl
def Fly (h:Heap) (e:Addr) (cls:Value) (dd:Option Addr) (ch:List Addr):Prop :=
  ∃ oe vs,h.get? e=some oe∧oe.cls=cls∧oe.dict=dd∧oe.data = .fields vs ∧
    ((vs[1]? = some .none∧ch=[e])∨∃ T oT ts,vs[1]? = some (.ref T)∧T ≠ e∧h.get? T=some oT∧oT.data = .fields ts∧ts[3]? = some .none∧ch=[e,T])
theorem Fly.rec {h:Heap} {e:Addr} {cls:Value} {dd:Option Addr} {ch:List Addr} (x:Fly h e cls dd ch):∀ b ∈ ch,∃ o vs,h.get? b=some o∧o.data = .fields vs:=by
  obtain ⟨oe,vs,he,_,_,hd,h1 | ⟨T,oT,ts,_,_,hT,hdT,_,rfl⟩⟩:=x
  · obtain ⟨_,rfl⟩:=h1
    intro b hb
    simp only [List.mem_singleton] at hb
    subst hb
    exact ⟨oe,vs,he,hd⟩
  · intro b hb
    simp only [List.mem_cons,List.not_mem_nil,or_false] at hb
    rcases hb with rfl | rfl
    · exact ⟨oe,vs,he,hd⟩
    · exact ⟨oT,ts,hT,hdT⟩
structure Moved (fs ch:List Addr) (h h':Heap):Prop where
  keep:∀ b o,h.get? b=some o→b ∉ ch→b ∉ fs→h'.get? b=some o
  slot:∀ b o,h.get? b=some o→b ∉ ch→∃ sl,h'.get? b=some { o with slots:=sl }
  there:∀ b o,h.get? b=some o→∃ o',h'.get? b=some o'
section
variable {M:Model} {A:Around} {E:Value→Shared→Prop} {s:Shared}
theorem new_entry {base:Heap} {env:Env} {outer:List Env} {L e:Addr} {oe:Obj} {vs:Array Value} {head:Value} {hadNext:Bool} {Q:Unit→Shared→Prop}
    (hfr:A.frames=some (env :: outer)) (hl:s.heap.FunFrames base (env :: outer)) (hf:env.frame=some L)
    (he:s.heap.get? e=some oe) (hd:oe.data = .fields vs) (hsz:1 < vs.size)
    (h:∀ h',Fly h' e oe.cls oe.dict [e,s.heap.objs.size]→Moved (frs (env :: outer)) [e] s.heap h'→Q () { s with heap:=h' }) :
    wpAny M A (do let a ← frameOf env; let pl ← entryPlaceOf L hadNext; let b ← EntryCells.newEntry head a .none (rawInt L) .none pl; setField (.ref e) 1 b) (fun _ s'=>wpAny M A (setFlight (.ref e) none) Q E s') E s:=by
  have hene:e ∉ (env :: outer).filterMap (·.frame):=fun hm=>by
    obtain ⟨_,o,ho,hnf⟩:=hl.mem hm
    rw [he] at ho; injection ho with ho; subst ho; exact hnf vs hd
  refine wpAny_bind (wpAny_frameOf_fun hfr hl hf fun h₁ hs₁=>?_)
  refine wpAny_bind (wpAny_entryPlaceOf fun pl hpl=>?_)
  unfold EntryCells.newEntry newFields
  refine wpAny_bind (wpAny_newObj_type ?_ (hpl.sizeOk5 _ _ _ _ _))
  have he₁:h₁.get? e=some oe:=(hs₁.2.1 e hene).trans he
  have he₂:=Heap.get?_push_of_some (h:=h₁) { cls := .type "traceback",dict:=none,data := .fields ([head, .ref L, .none,rawInt L, .none] ++ (if pl.isEmpty then List.replicate 6 Value.none else pl)).toArray } he₁
  refine wpAny_setField he₂ hd hsz ?_
  have hTe:h₁.objs.size ≠ e:=Nat.ne_of_gt (Heap.lt_size he₁)
  have hd₃:=Obj.data_mapFields hd (·.setIfInBounds 1 (Value.ref h₁.objs.size))
  have he₃:=Heap.get?_update_self (Obj.mapFields (·.setIfInBounds 1 (Value.ref h₁.objs.size))) he₂ (Obj.isFreed_of_fields hd₃)
  have hT₃:=(Heap.get?_update_other (h₁.push { cls := .type "traceback",dict:=none,data := .fields ([head, .ref L, .none,rawInt L, .none] ++ (if pl.isEmpty then List.replicate 6 Value.none else pl)).toArray })
    (Obj.mapFields (·.setIfInBounds 1 (Value.ref h₁.objs.size))) (Ne.symm hTe)).trans (Heap.get?_push_size h₁ rfl)
  unfold setFlight
  refine wpAny_bind (wpAny_field he₃ hd₃ (x := .ref h₁.objs.size) (by simp [hsz]) ?_)
  rw [if_pos (show (Value.ref h₁.objs.size != Value.none)=true from by simp)]
  refine wpAny_setField hT₃ rfl (by simp only [List.size_toArray,List.length_append,List.length_cons,List.length_nil] <;> omega) (h _ ?_ ?_)
  · refine ⟨_,_,?_,Obj.cls_mapFields _ _,dict_mapFields hd _,hd₃, .inr ⟨h₁.objs.size,_,_,by simp [hsz],hTe,Heap.get?_update_self _ hT₃ (Obj.isFreed_of_fields (Obj.data_mapFields rfl _)),Obj.data_mapFields rfl _,by first | (simp; done) | (rcases hpl with rfl | ⟨_,_,_,_,_,_,_,rfl⟩ <;> simp),by rw [hs₁.1]⟩⟩
    rw [Heap.get?_update_other _ _ hTe]; exact he₃
  · have keep:∀ b o,b ≠ e→h₁.get? b=some o →
        (((h₁.push { cls := .type "traceback",dict:=none,data := .fields ([head, .ref L, .none,rawInt L, .none] ++ (if pl.isEmpty then List.replicate 6 Value.none else pl)).toArray }).update e (Obj.mapFields (·.setIfInBounds 1 (Value.ref h₁.objs.size)))).update h₁.objs.size
          (Obj.mapFields (·.setIfInBounds 3 ((none:Option Addr).elim Value.none fun f=>rawInt f)))).get? b=some o:=fun b o hbe hb=>by
      have hbT:h₁.objs.size ≠ b:=Nat.ne_of_gt (Heap.lt_size hb)
      rw [Heap.get?_update_other _ _ hbT,Heap.get?_update_other _ _ (Ne.symm hbe)]
      exact Heap.get?_push_of_some _ hb
    refine ⟨fun b o hb hc hfs=>keep b o (by simpa using hc) ((hs₁.2.1 b hfs).trans hb),fun b o hb hc=>?_,fun b o hb=>?_⟩
    · obtain ⟨sl,hs⟩:=hs₁.2.2 b o hb
      exact ⟨sl,keep b _ (by simpa using hc) hs⟩
    · by_cases hbe:b=e
      · subst hbe
        exact ⟨_,by rw [Heap.get?_update_other _ _ hTe]; exact he₃⟩
      · obtain ⟨sl,hs⟩:=hs₁.2.2 b o hb
        exact ⟨_,keep b _ hbe hs⟩
theorem note_step {base:Heap} {env:Env} {outer:List Env} {L e:Addr} {cls:Value} {dd:Option Addr} {ch:List Addr} {Q:Unit→Shared→Prop}
    (hfr:A.frames=some (env :: outer)) (hl:s.heap.FunFrames base (env :: outer)) (hf:env.frame=some L) (x:Fly s.heap e cls dd ch)
    (h:∀ h' ch',Fly h' e cls dd ch'→Moved (frs (env :: outer)) ch s.heap h'→(∀ b ∈ ch',b ∈ ch∨s.heap.objs.size ≤ b)→Q () { s with heap:=h' }) :
    wpAny M A (noteFrame (.ref e) env) (fun _ s'=>wpAny M A (setFlight (.ref e) none) Q E s') E s:=by
  obtain ⟨oe,vs,he,rfl,rfl,hd,⟨h1,rfl⟩ | ⟨T,oT,ts,h1,hTe,hT,hdT,h3,rfl⟩⟩:=x
  · unfold noteFrame
    simp only [hf]
    refine wpAny_bind (wpAny_field he hd h1 ?_)
    rw [if_neg (by decide)]
    refine new_entry hfr hl hf he hd (Array.getElem?_eq_some_iff.mp h1).1 fun h' f m=>h h' _ f m fun b hb=>?_
    simp only [List.mem_cons,List.not_mem_nil,or_false] at hb
    rcases hb with rfl | rfl
    · exact .inl (by simp)
    · exact .inr (Nat.le_refl _)
  · unfold noteFrame
    simp only [hf]
    refine wpAny_bind (wpAny_field he hd h1 ?_)
    rw [if_pos (show (Value.ref T != Value.none)=true from by simp)]
    refine wpAny_bind (wpAny_field hT hdT h3 ?_)
    rw [if_neg (show ¬ ((Value.none == rawInt L)=true) from by simp [rawInt])]
    refine wpAny_bind (wpAny_setField hT hdT (Array.getElem?_eq_some_iff.mp h3).1 ?_)
    have other:∀ b,b ≠ T→(s.heap.update T (Obj.mapFields (·.setIfInBounds 3 Value.none))).get? b=s.heap.get? b:=fun b hb=>Heap.get?_update_other _ _ (Ne.symm hb)
    have selfT:=Heap.get?_update_self (Obj.mapFields (·.setIfInBounds 3 Value.none)) hT (Obj.isFreed_of_fields (Obj.data_mapFields hdT _))
    have noRecord:∀ b o,s.heap.get? b=some o→(∀ vs,o.data ≠ .fields vs)→b ≠ T:=fun b o hb hnf q=>by
      rw [q,hT] at hb; injection hb with hb; subst hb; exact hnf ts hdT
    have hsize:(s.heap.update T (Obj.mapFields (·.setIfInBounds 3 Value.none))).objs.size=s.heap.objs.size:=Heap.size_after_update _ _ _
    refine new_entry (s:={ s with heap:=s.heap.update T (Obj.mapFields (·.setIfInBounds 3 Value.none)) }) hfr (hl.of_keeps fun b o hb hnf=>⟨o,(other b (noRecord b o hb hnf)).trans hb,rfl⟩) hf ((other e (Ne.symm hTe)).trans he) hd (Array.getElem?_eq_some_iff.mp h1).1
      fun h' f m=>h h' _ f ⟨fun b o hb hc hfs=>?_,fun b o hb hc=>?_,fun b o hb=>?_⟩ fun b hb=>?_
    · simp only [List.mem_cons,List.not_mem_nil,or_false,not_or] at hc
      exact m.keep b o ((other b hc.2).trans hb) (by simpa using hc.1) hfs
    · simp only [List.mem_cons,List.not_mem_nil,or_false,not_or] at hc
      exact m.slot b o ((other b hc.2).trans hb) (by simpa using hc.1)
    · by_cases hbT:b=T
      · subst hbT
        exact m.there b _ selfT
      · exact m.there b o ((other b hbT).trans hb)
    · simp only [List.mem_cons,List.not_mem_nil,or_false] at hb
      rcases hb with rfl | rfl
      · exact .inl (by simp)
      · exact .inr (Nat.le_of_eq hsize.symm)
theorem leave_step {base:Heap} {env:Env} {outer:List Env} {L e:Addr} {cls:Value} {dd:Option Addr} {ch:List Addr} {Q:Unit→Shared→Prop}
    (hfr:A.frames=some (env :: outer)) (hl:s.heap.FunFrames base (env :: outer)) (hf:env.frame=some L) (x:Fly s.heap e cls dd ch)
    (h:∀ h' ch',Fly h' e cls dd ch'→Moved (frs (env :: outer)) ch s.heap h'→(∀ b ∈ ch',b ∈ ch∨s.heap.objs.size ≤ b)→Q () { s with heap:=h' }) :
    wpAny M A (leaving env (.ref e)) Q E s:=by
  unfold leaving
  exact wpAny_bind (note_step hfr hl hf x h)
end
section
variable {X:Cx} {pins:List (Addr × Obj)} {σ:St} {H:Hp} {s:Shared}
theorem Inv.excStep {h':Heap} {ch:List Addr} (I:Inv X pins σ H s) (m:Moved (frs X.stack) ch s.heap h')
    (hch:∀ b ∈ ch,X.s₀.heap.get? b=none∧H b=none∧(∀ p ∈ X.pn ++ pins,p.1 ≠ b)∧∃ o vs,s.heap.get? b=some o∧o.data = .fields vs) :
    Inv X pins σ H { s with heap:=h' }:=by
  have notF:∀ b o,s.heap.get? b=some o→(∀ vs,o.data ≠ .fields vs)→b ∉ ch:=fun b o hb hn hc=>by
    obtain ⟨_,_,_,o',vs,hb',hd⟩:=hch b hc
    rw [hb] at hb'; cases hb'
    exact hn vs hd
  have cellK:∀ c v,s.heap.IsCell c v→h'.IsCell c v:=fun c v ⟨o,ho,hd⟩=>by
    obtain ⟨sl,e⟩:=m.slot c o ho (notF c o ho fun vs q=>by rw [hd] at q; cases q)
    exact ⟨_,e,hd⟩
  refine ⟨I.ok,I.os,I.bare,⟨fun b o e n hf hx=>?_,fun b o e n hf hx=>?_,I.base.free,fun b o e hx=>?_,I.base.tups,I.base.frzs,I.base.tbls⟩,?_,fun x c hc=>?_,I.free,I.freeC,fun p hp=>?_,fun b u e=>?_,I.len⟩
  · have e1:=I.base.keep b o e n hf hx
    refine m.keep b o e1 (fun hc=>?_) fun hs=>?_
    · rw [(hch b hc).1] at e; cases e
    · rcases List.mem_cons.mp (I.stkSub b hs) with z | z
      · rw [z] at e
        exact absurd (Heap.lt_size e) (Nat.not_lt.mpr I.ok.above)
      · exact hf z
  · obtain ⟨sl,e1⟩:=I.base.slot b o e n hf hx
    obtain ⟨sl2,e2⟩:=m.slot b _ e1 fun hc=>by rw [(hch b hc).1] at e; cases e
    exact ⟨sl2,e2⟩
  · obtain ⟨o',e1⟩:=I.base.there b o e hx
    exact m.there b o' e1
  · obtain ⟨mm,⟨o,es,ep,ho,hd,r⟩,hl⟩:=I.loc
    obtain ⟨sl,e⟩:=m.slot _ o ho (notF _ o ho fun vs q=>by rw [hd] at q; cases q)
    refine ⟨mm,⟨_,es,ep,e,hd,r⟩,fun i x v h1 h2 h3=>?_⟩
    obtain ⟨u,ru,lk⟩:=hl i x v h1 h2 h3
    refine ⟨u,ru,?_⟩
    rcases lk with ⟨a,b⟩ | ⟨a,c,hc,hcell⟩
    · exact .inl ⟨a,b⟩
    · exact .inr ⟨a,c,hc,cellK c _ hcell⟩
  · obtain ⟨v,hv⟩:=I.cell x c hc
    exact ⟨v,cellK c v hv⟩
  · obtain ⟨a,b,c,d,e⟩:=I.pin p hp
    refine ⟨m.keep _ _ a (fun hc=>(hch _ hc).2.2.1 p hp rfl) fun hs=>?_,b,c,d,e⟩
    rcases List.mem_cons.mp (I.stkSub _ hs) with z | z
    · exact c z
    · exact d z
  · refine (I.hok b u e).stay (fun c v hc q=>m.keep c v q (fun z=>?_) fun z=>?_) (fun _ q=>q) fun _ _ q=>q
    · have n:=(hch c z).2.1
      rcases hc with rfl | hc
      · rw [e] at n; cases n
      · rw [hc] at n; cases n
    · have n:=I.stkFree c z
      rcases hc with rfl | hc
      · rw [e] at n; cases n
      · rw [hc] at n; cases n
def CXe (P:Program) (w:World):CXT:=fun outer H s E ev s'=>∃ e cls dd ch H',ev = .ref e∧s'.os=s.os∧AllBare s'.gens∧Un (frs outer) [] H H' s.heap s'.heap∧HOk P w H' s'.heap ∧
  Fly s'.heap e cls dd ch∧(∀ b ∈ ch,s.heap.get? b=none∧H' b=none)∧E cls dd H'
def XP (X:Cx) (pins:List (Addr × Obj)) (σ:St) (E:XK) (ev:Value) (s':Shared):Prop:=∃ e cls dd ch H',ev = .ref e∧Inv X pins σ H' s'∧Fly s'.heap e cls dd ch ∧
  (∀ b ∈ ch,X.s₀.heap.get? b=none∧H' b=none∧∀ p ∈ X.pn ++ pins,p.1 ≠ b)∧E cls dd H'
theorem Inv.new_of (I:Inv X pins σ H s) (hex:X.ex=[]) {b:Addr} (hb:s.heap.get? b=none):X.s₀.heap.get? b=none:=by
  cases q:X.s₀.heap.get? b with
  | none=>rfl
  | some o =>
    obtain ⟨o',e⟩:=I.base.there b o q (by rw [hex]; simp)
    rw [e] at hb; cases hb
theorem XP.of_cx {E:XK} {ev:Value} {s':Shared} (I:Inv X pins σ H s) (hex:X.ex=[]) (x:CXe X.prog X.w X.stack H s E ev s'):XP X pins σ E ev s':=by
  obtain ⟨e,cls,dd,ch,H',rfl,os,bare,un,hok,fly,new,q⟩:=x
  refine ⟨e,cls,dd,ch,H',rfl,I.call' (ch:=[]) os un hok bare (fun b z=>absurd z (by simp)),fly,fun b hb=>⟨I.new_of hex (new b hb).1,(new b hb).2,fun p hp z=>?_⟩,q⟩
  have:=(I.pin p hp).1
  rw [z,(new b hb).1] at this
  cases this
def PassX (X:Cx) (E:XK):Prop:=∀ (pins:List (Addr × Obj)) (σ:St) (ev:Value) (s':Shared),XP X pins σ E ev s'→X.xe ev s'
theorem PassX.passes {E:XK} (h:PassX X E) (hex:X.ex=[]):Passes (CXe X.prog X.w) X E:=fun pins σ H s ev s' I x=>h pins σ ev s' (XP.of_cx I hex x)
theorem passX_def {P:Program} {w:World} {K:PySem.W.Frag} {mg:Str→Option Value} {base:Heap} {N:List Str} {qual:Str} {scope:Scope} {f:Addr} {cd:Value} {A:Around} {outer:List Env} {s:Shared} {H:Hp} {E:XK} :
    PassX (cxOf (CXe P w) P w K mg base N qual scope f cd A outer s H E) E:=by
  intro pins σ ev s' x
  obtain ⟨e,cls,dd,ch,H',rfl,I,fly,hch,q⟩:=x
  refine leave_step (base:=base) (outer:=outer) I.ok.frames I.stack rfl fly fun h' ch' fly' m new=>?_
  have I':=I.excStep m fun b hb=>⟨(hch b hb).1,(hch b hb).2.1,(hch b hb).2.2,fly.rec b hb⟩
  refine ⟨e,cls,dd,ch',H',rfl,I'.os,I'.bare,I'.base,I'.hok,fly',fun b hb=>?_,q⟩
  rcases new b hb with z | z
  · exact ⟨(hch b z).1,(hch b z).2.1⟩
  · exact ⟨Heap.get?_none_of_le (Nat.le_trans I.sz z),I.hok.fresh z⟩
theorem own_def {P:Program} {w:World} {K:PySem.W.Frag} {mg:Str→Option Value} {base:Heap} {N:List Str} {qual:Str} {scope:Scope} {f:Addr} {cd:Value} {A:Around} {outer:List Env} {s:Shared} {H:Hp} {E:XK} :
    PassesOwn (model P w) (cxOf (CXe P w) P w K mg base N qual scope f cd A outer s H E).A (cxOf (CXe P w) P w K mg base N qual scope f cd A outer s H E).env (cxOf (CXe P w) P w K mg base N qual scope f cd A outer s H E).xe :=
  PassesOwn.leaving (Q₁:=fun e s''=>CXe P w outer H s E e s'')
end
end L2
namespace L2
open PySem PySem.Spec PyProof.Rows
def vErr:List Value:=[.type "ValueError", .type "Exception", .type "BaseException", .type "object"]
def excMro:List Value→Bool
  | []=>false
  | .ref _ :: r=>excMro r
  | l=>l == vErr
theorem refuse_exc (self:Value):∀ {l:List Value},excMro l=true→refuseLoop self "__setattr__" l=pure ()
  | .ref c :: r,e=>by rw [refuseLoop_ref]; exact refuse_exc self e
  | .type a :: r,e=>by
    have e':(Value.type a :: r)=vErr:=beq_iff_eq.mp e
    rw [e']; exact PySem.F.store_ValueError.passes self
  | .none :: r,e=>by have:=beq_iff_eq.mp (show (_ == vErr)=true from e); cases this
  | .bool _ :: r,e=>by have:=beq_iff_eq.mp (show (_ == vErr)=true from e); cases this
  | .int _ _ :: r,e=>by have:=beq_iff_eq.mp (show (_ == vErr)=true from e); cases this
  | .float _ _ :: r,e=>by have:=beq_iff_eq.mp (show (_ == vErr)=true from e); cases this
  | .str _ _ :: r,e=>by have:=beq_iff_eq.mp (show (_ == vErr)=true from e); cases this
  | .bytes _ _ :: r,e=>by have:=beq_iff_eq.mp (show (_ == vErr)=true from e); cases this
  | .builtin _ :: r,e=>by have:=beq_iff_eq.mp (show (_ == vErr)=true from e); cases this
theorem excMro_has:∀ {l:List Value},excMro l=true→l.contains (.type "object")=true∧l.contains (.type "BaseException")=true∧l.isEmpty=false
  | .ref c :: r,e=>by
    obtain ⟨a,b,_⟩:=excMro_has (l:=r) e
    exact ⟨by rw [List.contains_cons,a,Bool.or_true],by rw [List.contains_cons,b,Bool.or_true],rfl⟩
  | .type a :: r,e=>by
    have e':(Value.type a :: r)=vErr:=beq_iff_eq.mp e
    rw [e']; exact ⟨by decide,by decide,rfl⟩
  | .none :: r,e=>by have:=beq_iff_eq.mp (show (_ == vErr)=true from e); cases this
  | .bool _ :: r,e=>by have:=beq_iff_eq.mp (show (_ == vErr)=true from e); cases this
  | .int _ _ :: r,e=>by have:=beq_iff_eq.mp (show (_ == vErr)=true from e); cases this
  | .float _ _ :: r,e=>by have:=beq_iff_eq.mp (show (_ == vErr)=true from e); cases this
  | .str _ _ :: r,e=>by have:=beq_iff_eq.mp (show (_ == vErr)=true from e); cases this
  | .bytes _ _ :: r,e=>by have:=beq_iff_eq.mp (show (_ == vErr)=true from e); cases this
  | .builtin _ :: r,e=>by have:=beq_iff_eq.mp (show (_ == vErr)=true from e); cases this
def exOver (K:PySem.W.Frag) (C:Addr):Bool:=(PySem.W.clsIn K C).any fun cd=>excMro cd.mro
structure XCls (K:PySem.W.Frag) (C:Addr):Prop where
  mro:exOver K C=true
  hd:PySem.W.hasDictIn K C=true
  sa:PySem.W.findIn K (.ref C) "__setattr__" = some (some (.builtin "object.__setattr__"))
  ga:PySem.W.findIn K (.ref C) "__getattribute__" = some (some (.builtin "BaseException.__getattribute__"))
  gn:PySem.W.findIn K (.ref C) "__getattr__" = some none
section
variable {prog:Program} {w:World} {A:Around} {E:Value→Shared→Prop} {s:Shared} {K:PySem.W.Frag} {x C:Addr} {ox:Obj} {name:Str} {v:Value}
open PySem.W in
theorem osa_exc {R:Result→Shared→Prop} {od:Option Obj} {tk:Tok} (X:K.In s.heap) (I:PySem.W.InstAt s.heap x ox C od) (hp:exOver K C=true) (ht:findIn K (.ref C) name=some none)
    (h:∀ b,wpAny (model prog w) A.in1 (Builtin.ObjectAttr.storeInOwnDict (.ref x) (.ref C) (.str name tk) name v b)
      (fun fin s'=>match fin with | .done f=>R (.ok f) s' | .again c'=>c'.quiet=true∧codeAny (model prog w) A c' R s') (fun e s'=>R (.error e) s') s) :
    codeAny (model prog w) A (.call (.builtin "object.__setattr__") ⟨[.ref x, .str name tk,v],[]⟩) R s:=by
  have SF:=PySem.F.store_object
  obtain ⟨cd,hc,ho⟩:=any_some hp
  obtain ⟨h1,h2,ne⟩:=excMro_has ho
  have sub:Looks (model prog w) s.heap (isInstance (.ref x) (.type "object")) true:=I.type.andThen (looks_mroIn X (by unfold mroIn; rw [hc,Option.bind_some,if_neg (by rw [ne]; decide),h1]))
  refine codeAny_call_builtin SF.slot.plain SF.entry (@check_slot (model prog w) _ _ s "object.__setattr__" "object" "__setattr__" (.ref x) [.str name tk,v] [] _ SF.kind SF.split sub (SF.args (.ref x) (.str name tk) v) ?_)
  have hm:Looks (model prog w) s.heap (mroOf (.ref C)) cd.mro:=(looks_clsIn X hc).andThen .now
  have L3:Looks (model prog w) s.heap (Builtin.ObjectAttr.storeTaker? none) none := .now
  rw [osa_eq,refuse_eq]
  refine wpAny_bind (wpAny_bind (I.type.here (wpAny_bind (hm.here ?_))))
  rw [refuse_exc _ ho]
  refine wpAny_pure (wpAny_bind (I.type.here (wpAny_bind ((looks_findIn X ht).here (wpAny_bind (L3.here ?_))))))
  exact h _
theorem set_exc0 {vs:Array Value} {Q:Unit→Shared→Prop} (X:K.In s.heap) (hx:s.heap.get? x=some ⟨.ref C,none, .fields vs,#[]⟩) (c:XCls K C) (ht:PySem.W.findIn K (.ref C) name=some none)
    (h:∀ h' t',h'.get? x=some ⟨.ref C,some s.heap.objs.size, .fields vs,#[]⟩→h'.Ns1 s.heap.objs.size (fun y=>if y=name then some v else none) →
      (∀ b o,b ≠ x→s.heap.get? b=some o→h'.get? b=some o)→Q () { s with heap:=h',toks:=t' }) :
    wpAny (model prog w) A (setAttr (.ref x) name v) Q E s:=by
  have I:PySem.W.InstAt s.heap x ⟨.ref C,none, .fields vs,#[]⟩ C none:=⟨hx,rfl,rfl,True.intro⟩
  refine PySem.W.set_plain X I c.sa (osa_exc (s:={ s with toks:=s.toks + 1 }) X I c.mro ht fun b=>?_)
  obtain ⟨cd,hc,hd'⟩:=PySem.W.any_some c.hd
  obtain ⟨hp,g,d,t,os⟩:=s
  dsimp only at X hx h I ⊢
  refine wpAny_bind (wpAny_pure (wpAny_bind (wpAny_bind (wpAny_loadPart hx (wpAny_bind (PySem.W.Looks.here (s:=⟨hp,g,d,t + 1,os⟩) (PySem.W.looks_clsIn X hc) ?_))))))
  rw [hd']
  have hx₁:(hp.push { cls := .type "dict",data := .dict #[] }).get? x=some ⟨.ref C,none, .fields vs,#[]⟩:=Heap.get?_push_of_some _ hx
  have hxs:x ≠ hp.objs.size:=Nat.ne_of_lt (Heap.lt_size hx)
  rw [if_neg (by decide)]
  dsimp only
  rw [if_neg (by simp [typeHasDict])]
  refine wpAny_bind (wpAny_alloc' ?_)
  refine wpAny_bind (wpAny_update' hx₁ ?_)
  refine wpAny_pure ?_
  have hgd:((hp.push { cls := .type "dict",data := .dict #[] }).update x fun o=>{ cls:=o.cls,dict:=some hp.objs.size,data:=o.data,slots:=o.slots }).get? hp.objs.size
      = some { cls := .type "dict",data := .dict #[] } :=
    (Heap.get?_update_ne _ _ _ _ hxs.symm).trans (Heap.get?_push_at rfl rfl)
  have hnd:((hp.push { cls := .type "dict",data := .dict #[] }).update x fun o=>{ cls:=o.cls,dict:=some hp.objs.size,data:=o.data,slots:=o.slots }).Ns hp.objs.size (fun _=>none) :=
    ⟨_,#[],_,hgd,rfl,fun e he=>absurd he (by simp),fun _=>rfl⟩
  show wpAny _ _ (Builtin.ObjectAttr.storeInDict hp.objs.size (.str name t) name v) _ _ _
  unfold Builtin.ObjectAttr.storeInDict Builtin.ObjectAttr.newKeyGuard
  refine wpAny_bind (wpAny_pure (wpAny_bind (wpAny_nsSet1 (Heap.Ns1.of_empty hnd) fun h' hn' hs=>?_)))
  obtain ⟨oD,esD,epD,hoD,hdD,hcD⟩:=hn'.count (Within.cons name v Within.nil)
  refine wpAny_bind (wpAny_lookBehind hoD (by rw [hdD]; exact pastItsLine_dict (Nat.le_trans hcD (by rw [List.length_cons,List.length_nil,sizeLine_eq]; omega))) ?_)
  refine wpAny_pure (h h' _ ?_ hn' fun b o hbx hb=>?_)
  · exact (hs.2 x hxs).trans (Heap.get?_update_self _ hx₁ rfl)
  · exact (hs.2 b (Nat.ne_of_lt (Heap.lt_size hb))).trans ((Heap.get?_update_ne _ _ _ _ hbx).trans (Heap.get?_push_of_some _ hb))
open PySem.W in
end
end L2
namespace PySem
section
variable {prog:Program} {w:World} {A:Around} {E:Value→Shared→Prop} {h:Heap} {g:Array GenState} {d:Drawn} {t:Nat} {os:OsState}
variable {nm q:Str} {C N:Addr} {bs bm bmB:List Value} {hdct:Bool} {sn:List Str} {sub:List Value} {ab:Bool} {col:Option Bool} {dd:Option Addr} {k0 k1 k2 k3 k5:Option Value} {B newId initId:String}
theorem y_type_call_initT (F:ExcBaseFacts B newId initId bmB) (T:OwnTail h bmB bm) {mN:Str→Option Value} {rest:List Value} {fI:Addr} {oI:Obj} {Q:Fin→Shared→Prop}
    (hC:h.get? C=some (excClassObj nm q C N bs bm hdct sn sub ab col dd k0 k1 k2 k3 k5 newId)) (hn:h.Ns N mN) (hi:mN "__init__" = some (.ref fI))
    (hfI:h.get? fI=some oI) (hfc:oI.cls = .type "function")
    (hq:wpAny (model prog w) A (call (.ref fI) (.ref (h.objs.size + 1) :: rest)) (fun r s'=>r = .none∧Q (.done (.ret (.ref (h.objs.size + 1)))) s') E
      ⟨(h.push { cls := .type "tuple",data := .seq rest.toArray }).push { cls := .ref C,data := .fields #[.ref h.objs.size, .none, .none, .none, .bool false, .none] },g,d,t,os⟩) (hrest:rest.length ≤ sizeLine:=by size_fits) :
    wpAny (model prog w) A (Builtin.«type.__call__» ⟨.ref C :: rest,[]⟩) Q E ⟨h,g,d,t,os⟩:=by
  repeat (first | with_reducible refine wpAny_loadPart_at hC ?_ | with_reducible refine wpAny_madeBy_exc hC ?_ | wp_step)
  refine codeAny_call_builtin_code (Code.quiet_builtin _ F.quiet) (wpAny_check_new_subT F T hC ?_)
  refine codeAny_exc_new_subT F T hC ?_ hrest
  show wpAny _ _ _ _ _ _
  have hC₁:=Heap.get?_push_of_some { cls := .ref C,data := .fields #[.ref h.objs.size, .none, .none, .none, .bool false, .none] }
    (Heap.get?_push_of_some { cls := .type "tuple",data := .seq rest.toArray } hC)
  have hfI₁:=Heap.get?_push_of_some { cls := .ref C,data := .fields #[.ref h.objs.size, .none, .none, .none, .bool false, .none] }
    (Heap.get?_push_of_some { cls := .type "tuple",data := .seq rest.toArray } hfI)
  have hn₁:((h.push { cls := .type "tuple",data := .seq rest.toArray }).push { cls := .ref C,data := .fields #[.ref h.objs.size, .none, .none, .none, .bool false, .none] }).Ns N mN :=
    let ⟨o,es,ep,e,r⟩:=hn; ⟨o,es,ep,Heap.get?_push_of_some _ (Heap.get?_push_of_some _ e),r⟩
  have hget:((h.push { cls := .type "tuple",data := .seq rest.toArray }).push
      { cls := .ref C,data := .fields #[.ref h.objs.size, .none, .none, .none, .bool false, .none] }).get? (h.objs.size + 1)=some
      { cls := .ref C,data := .fields #[.ref h.objs.size, .none, .none, .none, .bool false, .none] }:=by heap_get
  have hcC:(Value.ref C :: bm).contains (.ref C)=true:=by simp
  have T₁:=T.keeps (h':=(h.push { cls := .type "tuple",data := .seq rest.toArray }).push { cls := .ref C,data := .fields #[.ref h.objs.size, .none, .none, .none, .bool false, .none] })
    fun b o e=>Heap.get?_push_of_some _ (Heap.get?_push_of_some _ e)
  unfold isInstance
  repeat (first | with_reducible refine wpAny_loadPart_at hget ?_ | (with_reducible refine wpAny_isSubtype_exc hC₁ ?_; rw [hcC]) | wp_step)
  show wpAny _ _ (typeLookup (.ref C) _) _ _ _
  refine wpAny_typeLookup_tail hC₁ hn₁ T₁ F.mroIs F.init.lookup ?_
  rw [hi]
  refine wpAny_holding (wpAny_bind ?_)
  unfold bindSpecial
  refine wpAny_bind (wpAny_typeOf (T := "function") ⟨_,hfI₁,hfc⟩ ?_)
  rw [if_pos (by decide)]
  refine wpAny_pure (wpAny_bind (wpAny_mono hq (fun r s' hr=>?_) fun _ _ x=>x))
  obtain ⟨rfl,hQ⟩:=hr
  wp_walk
  exact hQ
theorem y_call_initT (F:ExcBaseFacts B newId initId bmB) (T:OwnTail h bmB bm) {mN:Str→Option Value} {rest:List Value} {fI:Addr} {oI:Obj} {Q:Value→Shared→Prop}
    (hC:h.get? C=some (excClassObj nm q C N bs bm hdct sn sub ab col dd k0 k1 k2 k3 k5 newId)) (hn:h.Ns N mN) (hi:mN "__init__" = some (.ref fI))
    (hfI:h.get? fI=some oI) (hfc:oI.cls = .type "function")
    (hq:wpAny (model prog w) (A.under (.builtin "type.__call__" ⟨.ref C :: rest,[]⟩)) (call (.ref fI) (.ref (h.objs.size + 1) :: rest)) (fun r s'=>r = .none∧Q (.ref (h.objs.size + 1)) s') E
      ⟨(h.push { cls := .type "tuple",data := .seq rest.toArray }).push { cls := .ref C,data := .fields #[.ref h.objs.size, .none, .none, .none, .bool false, .none] },g,d,t,os⟩) (hrest:rest.length ≤ sizeLine:=by size_fits) :
    wpAny (model prog w) A (call (.ref C) rest) Q E ⟨h,g,d,t,os⟩:=by
  have f1:=tc_lookup
  have f2:=tc_bind (.ref C)
  have hT:(⟨h,g,d,t,os⟩:Shared).TypeIs (.ref C) "type":=⟨_,hC,rfl⟩
  refine wpAny_call (codeAny_of_tree ?_)
  show wpAny _ _ (callAny (.ref C) _) _ _ _
  repeat (any_goals (first | assumption | with_reducible refine wpAny_loadPart_at hC ?_ | wp_step))
  refine ⟨rfl,?_⟩
  refine codeAny_call_builtin_at (Code.quiet_builtin _ (by decide +kernel)) entry_typeCall (wpAny_check_type_call_sub hC (y_type_call_initT (hrest:=hrest) F T hC hn hi hfI hfc ?_))
  exact hq
end
section
variable {M:Model} {A:Around} {E:Value→Shared→Prop} {env:Env}
variable {nm q:Str} {C N:Addr} {bs bm:List Value} {hdct:Bool} {sn:List Str} {sub:List Value} {ab:Bool} {col:Option Bool} {dd:Option Addr} {k0 k1 k2 k3 k5:Option Value} {newId:String}
theorem y_raise_made {s:Shared} {x:Sem Value} {Q:Flow→Shared→Prop} (hh:A.handled=none)
    (h:wpAny M A x (fun v s₁=>∃ e t de nm q N bs bm hdct sn sub ab col dd k0 k1 k2 k3 k5 newId,v = .ref e∧bm.contains (.type "BaseException")=true∧s₁.heap.get? C=some (excClassObj nm q C N bs bm hdct sn sub ab col dd k0 k1 k2 k3 k5 newId) ∧
      s₁.heap.get? e=some { cls := .ref C,dict:=de,data := .fields #[.ref t, .none, .none, .none, .bool false, .none] }∧E (.ref e) s₁) E s) :
    wpAny M A (raiseStmt env (some x) none) Q E s:=by
  unfold raiseStmt
  refine wpAny_bind (wpAny_mono h (fun v s₁ h₁=>?_) fun _ _ x=>x)
  obtain ⟨e,t,de,nm,q,N,bs,bm,hdct,sn,sub,ab,col,dd,k0,k1,k2,k3,k5,newId,rfl,hbase,hC,he,hE⟩:=h₁
  have hcB:(Value.ref C :: bm).contains (.type "BaseException")=true:=by rw [List.contains_cons,hbase,Bool.or_true]
  obtain ⟨hp,g,d,tk,os⟩:=s₁
  repeat (first | with_reducible refine wpAny_loadPart_at he ?_ | with_reducible refine wpAny_loadPart_at hC ?_ | (with_reducible refine wpAny_isSubtype_exc hC ?_; rw [hcB]) | wp_step)
  exact wpAny_raiseNew_none hh hE
end
end PySem
namespace L2
open PySem PySem.Spec PyProof.Rows
def excInI (K:PySem.W.Frag) (C:Addr) (init:Option Value):Bool:=match K.lookup C with
  | some ⟨.type "type",_, .cls cd,sl⟩=>(match cd.mro,sl.toList with
    | .ref C' :: bm,[_,_,_,_,some (.builtin n),_]=>C' == C && n == "ValueError.__new__" && !cd.hasDel && PySem.W.tailIn K vErr bm && PySem.W.nsOkIn K cd.ns && PySem.W.nsIn K cd.ns "__init__" == some init
    | _,_=>false)
  | _=>false
theorem nsMap_some_of_in {K:PySem.W.Frag} {h:Heap} {N:Addr} {x:Str} {v:Value} (X:K.In h) (e:PySem.W.nsOkIn K N=true) (q:PySem.W.nsIn K N x=some (some v)):h.nsMap N x=some v:=by
  have G:h.Ns N (h.nsMap N) := .of_isNs (PySem.W.isNs_of_in X e)
  generalize h.nsMap N=m at G ⊢
  obtain ⟨o,es,ep,ho,hd,_,hf⟩:=G
  unfold PySem.W.nsIn at q
  split at q
  · rename_i c d es' n' sl z
    have:=X _ _ z
    rw [ho] at this
    cases this
    cases hd
    split at q
    · rename_i en he
      cases q
      rw [← hf]
      unfold nsFind findBy
      rw [← Array.find?_toList,he]
      rfl
    · split at q <;> cases q
  · cases q
theorem excI_of {K:PySem.W.Frag} {h:Heap} {C:Addr} {init:Option Value} (X:K.In h) (q:excInI K C init=true):∃ bm N nm qn bs hdct sn sub ab col dd k0 k1 k2 k3 k5 mN,
    h.get? C=some (excClassObj nm qn C N bs bm hdct sn sub ab col dd k0 k1 k2 k3 k5 "ValueError.__new__")∧h.Ns N mN∧mN "__init__" = init∧OwnTail h vErr bm:=by
  unfold excInI at q
  split at q
  · rename_i dd cd sl ho
    split at q
    · rename_i C' bm k0 k1 k2 k3 n k5 hm hs
      simp only [Bool.and_eq_true,beq_iff_eq,Bool.not_eq_true'] at q
      obtain ⟨⟨⟨⟨⟨rfl,rfl⟩,hdel⟩,ht⟩,hok⟩,hni⟩:=q
      obtain ⟨nm,bs,mro,ns,qn,hd,sn,sub,ab,col,del⟩:=cd
      dsimp only at hm hdel hok hni
      subst hm hdel
      have hsl:sl = #[k0,k1,k2,k3,some (.builtin "ValueError.__new__"),k5]:=by
        obtain ⟨l⟩:=sl
        simp only at hs
        rw [hs]
      subst hsl
      refine ⟨bm,ns,nm,qn,bs,hd,sn,sub,ab,col,dd,k0,k1,k2,k3,k5,_,X _ _ ho, .of_isNs (PySem.W.isNs_of_in X hok),?_,PySem.W.tail_of_in X ht⟩
      cases init with
      | none=>exact PySem.W.nsMap_none_of_in X hok hni
      | some v=>exact nsMap_some_of_in X hok hni
    · cases q
  · cases q
theorem vErr_base {h:Heap} {bm:List Value} (T:OwnTail h vErr bm):bm.contains (.type "BaseException")=true:=T.hasType (by decide)
def excObj (C t:Addr) (dd:Option Addr):Obj:={ cls := .ref C,dict:=dd,data := .fields #[.ref t, .none, .none, .none, .bool false, .none] }
abbrev TX:=St→Hp→(Option Addr→Hp→Prop)→Prop
def PX (X:Cx) (e:Expr) (C:Addr) (t:TX):Prop :=
  ∀ (pins:List (Addr × Obj)) (s:Shared) (σ:St) (H:Hp) (R:Option Addr→Hp→Prop),Inv X pins σ H s→t σ H R→wpAny (model X.prog X.w) X.A (eval e X.env)
    (fun u s'=>∃ ea dd tt H',u = .ref ea∧Inv X pins σ H' s'∧s'.heap.get? ea=some (excObj C tt dd)∧X.s₀.heap.get? ea=none∧H' ea=none∧(∀ p ∈ X.pn ++ pins,p.1 ≠ ea)∧R dd H') X.xe s
theorem HOk.at {P:Program} {w:World} {H:Hp} {h:Heap} {a:Addr} {o:HO} (x:HOk P w H h) (e:H a=some o):∃ ob,h.get? a=some ob:=by
  have q:=x a o e
  have all:∀ o,ObjOk P w H h a o→∃ ob,h.get? a=some ob:=by
    intro o
    induction o with
    | lst xs=>intro ⟨_,its,n,_,e⟩; exact ⟨_,e⟩
    | tup xs=>intro ⟨_,its,_,ob,e,_⟩; exact ⟨_,e⟩
    | dK kvs=>intro ⟨_,_,vs,_,q⟩; obtain ⟨o,es,ep,e,_⟩:=q; exact ⟨_,e⟩
    | dT kvs=>intro ⟨_,_,xs,_,o,es,ep,e,_⟩; exact ⟨_,e⟩
    | set S n=>intro q; obtain ⟨o,_,_,_,e,_⟩:=q; exact ⟨_,e⟩
    | ins C dx fs=>intro ⟨_,_,_,e,_⟩; exact ⟨_,e⟩
    | own x=>intro ⟨o,e⟩; exact ⟨_,e⟩
    | xd fs=>intro ⟨mA,⟨o,es,ep,e,_⟩,_⟩; exact ⟨_,e⟩
    | rng lo hi=>intro ⟨_,_,_,e⟩; exact ⟨_,e⟩
    | frz o u ih=>intro ⟨e,_⟩; exact ⟨_,e⟩
    | tbl ps=>intro e; exact ⟨_,e⟩
    | met f x=>intro e; exact ⟨_,e⟩
    | ext φ=>intro ⟨_,e,_⟩; exact e
  exact all o q
theorem HOk.none_of {P:Program} {w:World} {H:Hp} {h:Heap} {a:Addr} (x:HOk P w H h) (e:h.get? a=none):H a=none:=by
  cases q:H a with
  | none=>rfl
  | some o =>
    obtain ⟨ob,z⟩:=x.at q
    rw [e] at z; cases z
def del (H:Hp) (a:Addr):Hp:=fun b=>if b=a then none else H b
theorem del_same {H:Hp} {a:Addr}:del H a a=none:=if_pos rfl
theorem del_ne {H:Hp} {a b:Addr} (h:b ≠ a):del H a b=H b:=if_neg h
theorem Inv.drop {X:Cx} {pins:List (Addr × Obj)} {σ:St} {H:Hp} {s:Shared} {a:Addr} {φ:Heap→Prop} (I:Inv X pins σ H s) (e:H a=some (.ext φ)):Inv X pins σ (del H a) s:=by
  have nx:∀ b u,H b=some u→(∀ φ,u ≠ .ext φ)→b ≠ a:=fun b u q n z=>by rw [z,e] at q; cases q; exact n φ rfl
  have nn:∀ b,H b=none→del H a b=none:=fun b q=>by unfold del; split <;> first | rfl | exact q
  refine ⟨I.ok,I.os,I.bare,⟨I.base.keep,I.base.slot,fun b o h1 h2 h3=>nn b (I.base.free b o h1 h2 h3),I.base.there,fun b xs q=>?_,fun b o u q=>?_,fun b ps q=>?_⟩,I.loc,I.cell,nn _ I.free,fun x c h=>nn _ (I.freeC x c h),fun p hp=>?_,fun b u q=>?_,I.len⟩
  · have z:=I.base.tups b xs q
    rw [del_ne (nx b _ z fun φ h=>by cases h)]; exact z
  · have z:=I.base.frzs b o u q
    rw [del_ne (nx b _ z fun φ h=>by cases h)]; exact z
  · obtain ⟨more,z⟩:=I.base.tbls b ps q
    exact ⟨more,by rw [del_ne (nx b _ z fun φ h=>by cases h)]; exact z⟩
  · obtain ⟨h1,h2,h3⟩:=I.pin p hp
    exact ⟨h1,nn _ h2,h3⟩
  · have hb:b ≠ a:=fun z=>by rw [z,del_same] at q; cases q
    rw [del_ne hb] at q
    refine (I.hok b u q).stay (fun c v _ z=>z) (fun c z=>?_) fun c xs z=>?_
    · rw [del_ne (nx c _ z fun φ h=>by cases h)]; exact z
    · rw [del_ne (nx c _ z fun φ h=>by cases h)]; exact z
section
variable {X:Cx} {C f:Addr} {x:Str} {p pos apos:Pos} {e:Expr} {es:List Expr} {t:TA}
def tXmake (t:TA):TX:=fun σ H R=>t σ H fun vs H1=>vs.length ≤ sizeLine∧R none H1
theorem px_plain (hq:excInI X.K C none=true) (kp:PySem.W.keepIn X.K (.ref C)=true) (hex:X.ex=[]) (hg:Gl X x) (hm:X.mg x=some (.ref C)) (ha:PA X (e :: es) t)
    (hdb:(x == ("__debug__":Str))=false:=by decide) (he:starEach (e :: es) X.env=(false,eval e X.env) :: starEach es X.env:=by rfl) (hpl:(backTo pos (starEach es X.env)).any (·.1)=false:=by rfl) :
    PX X (.Call (.Name x p) (e :: es) [] pos) C (tXmake t):=by
  intro pins s σ H R I h
  refine wpAny_Call_Name_kw (ld_glob I hg hm ?_ hdb)
  refine PySem.W.callWith_K (h₀:=X.base) I.ok.mod.kin kp (thn (ha pos pins s σ H _ I h) fun us s1 ⟨vs,H1,I1,r,hl,q⟩=>⟨I1.kIn,?_⟩) he hpl
  obtain ⟨bm,N,nm,qn,bs,hdct,sn,sub,ab,col,dd,k0,k1,k2,k3,k5,mN,hC,hn,hni,T⟩:=excI_of I1.kIn hq
  obtain ⟨hp,g,d,tk,os⟩:=s1
  refine wpAny_call_exc_subT (hrest:=by show us.length ≤ _; rw [← r.length]; exact hl) PySem.F.excBase_ValueError T hC hn hni fun h' ea hmade=>?_
  obtain ⟨tt,ht,_,_⟩:=hmade.there
  refine ⟨ea,none,tt,H1,rfl,I1.kept (t':=tk) hmade.keeps,ht,I1.new_of hex hmade.new,I1.hok.none_of hmade.new,fun p hp z=>?_,q⟩
  have:=(I1.pin p hp).1
  rw [z] at this
  have h2:=hmade.new
  rw [this] at h2
  cases h2
def ExcAt (e C t:Addr) (dd:Option Addr):HO := .ext fun h=>h.get? e=some (excObj C t dd)
theorem excAt_ok {P:Program} {w:World} {H:Hp} {h:Heap} {e C t:Addr} {dd:Option Addr} (q:h.get? e=some (excObj C t dd)):ObjOk P w H h e (ExcAt e C t dd) :=
  ⟨q,⟨_,q⟩,fun h1 h2 a b=>b _ a⟩
def tXinit (C:Addr) (sp:Sp) (t:TA):TX:=fun σ H R=>t σ H fun vs H1=>vs.length ≤ sizeLine∧∀ e tt,H1 e=none→sp (.ref e :: vs) (upd H1 e (ExcAt e C tt none)) (fun v H2=>v = .non∧∃ dd,H2 e=some (ExcAt e C tt dd)∧R dd (del H2 e)) E0
theorem px_init {k:Nat} {fd:FuncData} {ps:List Str} {sp:Sp} (hq:excInI X.K C (some (.ref f))=true) (hf:PySem.W.isFn X.K (.ref f)=true) (kp:PySem.W.keepIn X.K (.ref C)=true) (F:FnOk X.prog X.w X.K X.mg X.base CX0 k f fd ps sp) (hr:Room (k + 1) X.A) (hb:Binds X.K fd ps [])
    (hg:Gl X x) (hm:X.mg x=some (.ref C)) (ha:PA X (e :: es) t)
    (hdb:(x == ("__debug__":Str))=false:=by decide) (he:starEach (e :: es) X.env=(false,eval e X.env) :: starEach es X.env:=by rfl) (hpl:(backTo pos (starEach es X.env)).any (·.1)=false:=by rfl) :
    PX X (.Call (.Name x p) (e :: es) [] pos) C (tXinit C sp t):=by
  intro pins s σ H R I h
  refine wpAny_Call_Name_kw (ld_glob I hg hm ?_ hdb)
  refine PySem.W.callWith_K (h₀:=X.base) I.ok.mod.kin kp (thn (ha pos pins s σ H _ I h) fun us s1 ⟨vs,H1,I1,r,hl,q⟩=>⟨I1.kIn,?_⟩) he hpl
  obtain ⟨bm,N,nm,qn,bs,hdct,sn,sub,ab,col,dd,k0,k1,k2,k3,k5,mN,hC,hn,hni,T⟩:=excI_of I1.kIn hq
  obtain ⟨oI,hoI,hcI⟩:∃ oI,s1.heap.get? f=some oI∧oI.cls = .type "function":=by
    have z:=beq_iff_eq.mp hf
    obtain ⟨o,ho,z⟩:=Option.map_eq_some_iff.mp (show (X.K.lookup f).map (·.cls)=some (.type "function") from z)
    exact ⟨o,I1.kIn _ _ ho,z⟩
  obtain ⟨hp,g,d,tk,os⟩:=s1
  dsimp only at hC hn T hoI
  refine y_call_initT (hrest:=by show us.length ≤ _; rw [← r.length]; exact hl) PySem.F.excBase_ValueError T hC hn hni hoI hcI ?_
  have nE:hp.objs.size ≤ hp.objs.size + 1:=Nat.le_succ _
  have hq2:=q (hp.objs.size + 1) hp.objs.size (I1.hok.fresh nE)
  have hget:((hp.push { cls := .type "tuple",data := .seq us.toArray }).push (excObj C hp.objs.size none)).get? (hp.objs.size + 1)=some (excObj C hp.objs.size none):=by
    have:=Heap.get?_push_size (hp.push { cls := .type "tuple",data := .seq us.toArray }) (o:=excObj C hp.objs.size none) rfl
    rwa [Heap.size_push] at this
  have I2:Inv X pins σ (upd H1 (hp.objs.size + 1) (ExcAt (hp.objs.size + 1) C hp.objs.size none)) ⟨(hp.push { cls := .type "tuple",data := .seq us.toArray }).push (excObj C hp.objs.size none),g,d,tk,os⟩ :=
    I1.laid (t':=tk) (fun b u z=>Heap.get?_push_of_some _ (Heap.get?_push_of_some _ z)) nE (excAt_ok hget)
  have r2:Vals (V.ref (hp.objs.size + 1) :: vs) (Value.ref (hp.objs.size + 1) :: us) := .cons rfl r
  have hl2:(Value.ref (hp.objs.size + 1) :: us ++ []).length=ps.length:=by
    have e:=r2.length
    rw [F.len _ _ _ _ hq2] at e
    rw [List.append_nil]; exact e.symm
  have hb2:=hb ⟨(hp.push { cls := .type "tuple",data := .seq us.toArray }).push (excObj C hp.objs.size none),g,d,tk,os⟩ (Value.ref (hp.objs.size + 1) :: us) I2.kIn hl2
  rw [List.append_nil] at hb2
  refine wpAny_call (codeAny_mono (F.run _ X.stack _ _ ⟨Value.ref (hp.objs.size + 1) :: us,[]⟩ (Value.ref (hp.objs.size + 1) :: us) _ _ E0 (hr.make C us []) (I2.env0.make C us []) hb2 r2 hq2) fun rr s' hq'=>?_)
  cases rr with
  | error e=>exact hq'.elim
  | ok fl =>
    cases fl with
    | ret u =>
      obtain ⟨v,H',I3,rv,ev,de,hde,q3⟩:=I2.after hq'
      subst ev
      refine ⟨rv,hp.objs.size + 1,de,hp.objs.size,del H' (hp.objs.size + 1),rfl,I3.drop hde,(I3.hok _ _ hde).1,Heap.get?_none_of_le (Nat.le_trans I1.sz nE),del_same,fun p hp' z=>?_,q3⟩
      have:=Heap.lt_size (I1.pin p hp').1
      rw [z] at this
      exact absurd this (Nat.not_lt.mpr nE)
    | next=>exact False.elim hq'
    | brk=>exact False.elim hq'
    | cont=>exact False.elim hq'
def tRaise (C:Addr) (E:XK) (t:TX):TS:=fun _ σ H=>t σ H fun dd H1=>E (.ref C) dd H1
theorem ps_raise {E:XK} {tx:TX} {init:Option Value} (hc:X.calm=true) (hq:excInI X.K C init=true) (hx:PassX X E) (h:PX X e C tx):PS X (.Raise (some e) none pos) (tRaise C E tx):=by
  intro pins s σ H D I hw
  rw [arm_exec_Raise]
  have key:wpAny (model X.prog X.w) X.A (eval e X.env) (fun v s₁=>∃ ea t de nm q N bs bm hdct sn sub ab col dd k0 k1 k2 k3 k5 newId,v = .ref ea∧bm.contains (.type "BaseException")=true∧s₁.heap.get? C=some (excClassObj nm q C N bs bm hdct sn sub ab col dd k0 k1 k2 k3 k5 newId) ∧
      s₁.heap.get? ea=some { cls := .ref C,dict:=de,data := .fields #[.ref t, .none, .none, .none, .bool false, .none] }∧X.xe (.ref ea) s₁) X.xe s:=by
    refine thn (h pins s σ H _ I hw) fun u s1 ⟨ea,dd,tt,H',eu,I1,ho,hn,hh,hp,q⟩=>?_
    obtain ⟨bm,N,nm,qn,bs,hdct,sn,sub,ab,col,ddc,k0,k1,k2,k3,k5,mN,hC,hns,hni,T⟩:=excI_of I1.kIn hq
    refine ⟨ea,tt,dd,nm,qn,N,bs,bm,hdct,sn,sub,ab,col,ddc,k0,k1,k2,k3,k5,_,eu,vErr_base T,hC,ho,hx pins σ _ _ ⟨ea, .ref C,dd,[ea],H',rfl,I1,⟨_,_,ho,rfl,rfl,rfl, .inl ⟨rfl,rfl⟩⟩,fun b hb=>?_,q⟩⟩
    simp only [List.mem_singleton] at hb
    subst hb
    exact ⟨hn,hh,hp⟩
  first
    | refine wpAny_bind (wpAny_standAt (y_raise_made (C:=C) (I.ok.hd hc) (wpAny_bind (wpAny_mono key (fun v s₃ h₃=>wpAny_bind (wpAny_standAt (wpAny_pure h₃))) fun _ _ x=>x))))
    | (simp only [evalOpt,Option.map]; refine wpAny_bind (wpAny_standAt (y_raise_made (C:=C) (I.ok.hd hc) (wpAny_bind (wpAny_mono key (fun v s₃ h₃=>wpAny_bind (wpAny_standAt (wpAny_pure h₃))) fun _ _ x=>x)))))
end
end L2
namespace L2
open PySem PySem.Spec PyProof.Rows
section
variable {prog:Program} {w:World} {A:Around} {E:Value→Shared→Prop} {s:Shared} {K:PySem.W.Frag} {x C:Addr} {ox:Obj} {od:Option Obj} {name:Str} {v:Value}
open PySem.W in
structure XIsi (K:PySem.W.Frag) (C:Addr):Prop where
  at_:PySem.W.findIn K (.ref C) "__class__" = some (some (.builtin "object.__class__"))
  get:PySem.W.specialIn K (.builtin "object.__class__") "__get__" = some (some (.builtin "getset_descriptor.__get__"))
  tak:PySem.W.takesIn K (.builtin "object.__class__")=some true
open PySem.W in
end
abbrev Cx.hand (X:Cx) (ea:Addr) (oe:Obj):Cx:={ X with A:=X.A.mark (some (.ref ea)),calm:=false,pn:=(ea,oe) :: X.pn,xe:=fun _ _=>False }
section
variable {X:Cx} {pins:List (Addr × Obj)} {σ:St} {H:Hp} {s:Shared} {ea:Addr} {oe:Obj}
def ValC:V→Value→Prop
  | .ref a,u=>u = .ref a
  | .ty n,u=>u = .type n
  | _,_=>False
def DictAt (H:Hp):Option Addr→Prop
  | none=>True
  | some d=>∃ fs,H d=some (.xd fs)
def rIsX (X:Cx):List V→Hp→VK→Prop:=fun xs H Q=>∃ ea oe c cv C vs b,xs=[.ref ea,c]∧ValC c cv∧(ea,oe) ∈ X.pn∧oe.cls = .ref C∧oe.data = .fields vs∧DictAt H oe.dict∧XCls X.K C∧XIsi X.K C∧PySem.W.kitOne X.K (.ref C) cv=some b∧Q (.bl b) H
def tXFld (X:Cx) (ta:TE) (f:Str):TE:=fun σ H Q=>ta σ H fun x H1=>∃ ea oe C vs d fs v,x = .ref ea∧(ea,oe) ∈ X.pn∧oe.cls = .ref C∧oe.data = .fields vs∧oe.dict=some d∧H1 d=some (.xd fs)∧XCls X.K C∧PySem.W.findIn X.K (.ref C) f=some none∧fs.lookup f=some v∧Q v H1
end
end L2
namespace L2
open PySem PySem.Spec PyProof.Rows
def sFldX (K:PySem.W.Frag) (ta tv:TE) (f:Str):TS:=fun D σ H=>tv σ H fun y H1=>ta σ H1 fun x H2=>∃ a C tt,x = .ref a∧H2 a=some (ExcAt a C tt none)∧XCls K C∧PySem.W.findIn K (.ref C) f=some none ∧
  ∀ d,H2 d=none→D.nx σ (upd (upd H2 d (.xd [(f,y)])) a (ExcAt a C tt (some d)))
section
variable {X:Cx} {o e value:Expr} {f:Str} {pos pos':Pos} {ta tv:TE}
theorem ps_fldX (ha:PE X o ta) (hv:PE X value tv) (hs:swapsWith value (some (.Attribute o f pos')) pos.line X.env=pure false):PS X (.Assign [.Attribute o f pos'] value pos) (sFldX X.K ta tv f):=by
  intro pins s σ H D I h
  refine plainObj_wpAny_Assign_Attribute (thn (hv pins s σ H _ I h) fun u s1 ⟨y,H1,I1,ry,q⟩=>thn (ha pins s1 σ H1 _ I1 q) fun ov s2 ⟨x,H2,I2,rx,a,C,tt,ex,ea,c,n,q2⟩=>?_) hs
  subst ex
  obtain rfl:ov=Value.ref a:=rx
  have ho:s2.heap.get? a=some (excObj C tt none):=(I2.hok a _ ea).1
  have hlt:a < s2.heap.objs.size:=Heap.lt_size ho
  refine set_exc0 I2.kIn ho c n fun h' t' hx' hn' hk=>⟨σ,_,?_,q2 s2.heap.objs.size (I2.hok.fresh (Nat.le_refl _))⟩
  obtain ⟨od,es,ep,hod,r⟩:=id hn'
  have hfr:od.isFreed=false:=(Heap.get?_some_iff.mp hod).2
  have hpush:(s2.heap.push od).get? s2.heap.objs.size=some od:=Heap.get?_push_size s2.heap hfr
  have I3:=I2.laid (a:=s2.heap.objs.size) (o := .xd [(f,y)]) (h':=s2.heap.push od) (t':=s2.toks) (fun b u z=>Heap.get?_push_of_some _ z) (Nat.le_refl _)
    ⟨_,hn'.at (fun o z=>by rw [hod] at z; cases z; exact hpush),fun g=>by
      by_cases hg:g=f
      · have hb:(g == f)=true:=beq_iff_eq.mpr hg
        simp only [List.lookup,hb,if_pos hg]
        exact ry
      · have hb:(g == f)=false:=beq_eq_false_iff_ne.mpr hg
        simp only [List.lookup,hb,if_neg hg]
        trivial⟩
  have hne:a ≠ s2.heap.objs.size:=Nat.ne_of_lt hlt
  refine I3.write (x:=a) (e:=a) (h':=h') (t':=t') (by rw [upd_ne hne,ea]; exact True.intro) (.inl rfl) (fun b u hb z=>?_) ⟨_,hx'⟩ (excAt_ok hx')
  by_cases hbs:b=s2.heap.objs.size
  · subst hbs
    have z':(s2.heap.push od).get? s2.heap.objs.size=some u:=z
    rw [hpush] at z'
    cases z'
    exact hod
  · have z':s2.heap.get? b=some u:=by
      have z0:(s2.heap.push od).get? b=some u:=z
      exact (Heap.get?_push_cases z0).elim (fun w=>absurd w.1 hbs) fun w=>w
    exact hk b u hb z'
end
section
variable {P:Program} {w:World} {K:PySem.W.Frag} {mg:Str→Option Value} {base:Heap}
theorem Fun.okX {x qual:Str} {st:Stmt} {f:Addr} {fd:FuncData} {N ps:List Str} {k:Nat} {sp:Sp} (F:Fun K x qual st f fd) (S:FnScope N ps (defScope st)) (len:∀ vs H Q E,sp vs H Q E→vs.length=ps.length)
    (hbody:∀ (cdv:Value) (A:Around) (outer:List Env) (s:Shared) (H:Hp) (vs:List V) (Q:VK) (E:XK),Room k (A.deeper (envOfC qual (defScope st) s.heap.objs.size f cdv))→sp vs H Q E →
      ∃ t,PSs (cxOf (CXe P w) P w K mg base N qual (defScope st) f cdv A outer s H E) (defBody st) t∧t { nx:=fun _ H'=>Q .non H',rt:=Q } (start N vs) H):FnOk P w K mg base (CXe P w) (k + 1) f fd ps sp:=by
  obtain ⟨oc,od,kV,doc,pm,an,cdv,ct,osl,rfl,lk,hcd⟩:=F.ex
  exact fn_of lk hcd S len fun A outer s H vs Q E hr hsp=>hbody cdv A outer s H vs Q E hr hsp
end
theorem passE0 {P:Program} {w:World} {X:Cx}:Passes (CXe P w) X E0:=fun _ _ _ _ _ _ _ ⟨_,_,_,_,_,_,_,_,_,_,_,_,h⟩=>h.elim
def PEx (X:Cx) (e:Expr) (t:St→Hp→VK→XK→Prop):Prop :=
  ∀ (pins:List (Addr × Obj)) (s:Shared) (σ:St) (H:Hp) (Q:VK) (E:XK),Inv X pins σ H s→t σ H Q E→wpAny (model X.prog X.w) X.A (eval e X.env) (EP X pins σ Q) (XP X pins σ E) s
section
variable {X:Cx} {k:Nat} {f C:Addr} {fd:FuncData} {ps:List Str} {sp:Sp} {dvs:List V} {ds:List Value} {x m:Str} {p pos apos:Pos} {e o:Expr} {es:List Expr} {ta:TE} {t:TA}
end
def PBx (X:Cx) (body:List Stmt) (t:Ends→St→Hp→(St→XK)→Prop):Prop :=
  ∀ (pins:List (Addr × Obj)) (s:Shared) (σ:St) (H:Hp) (D:Ends) (E:St→XK),Inv X pins σ H s→t D σ H E→wpAny (model X.prog X.w) X.A (execs body X.env) (SP X pins D) (fun ev s'=>∃ σ',XP X pins σ' (E σ') ev s') s
section
variable {X:Cx} {e:Expr} {t:St→Hp→VK→XK→Prop} {pos tpos:Pos} {n:Str} {i:Nat}
end
section
variable {M:Model} {A:Around} {E:Value→Shared→Prop} {s:Shared}
end
def tTryAs (K:PySem.W.Frag) (c:Value) (i:Nat) (tb:Ends→St→Hp→(St→XK)→Prop) (th:Addr→Obj→TS):TS:=fun D σ H =>
  tb D σ H fun σ' cls dd H'=>PySem.W.exmOne K cls c=some true∧∀ ea oe vs,oe.cls=cls→oe.dict=dd→oe.data = .fields vs→H' ea=none →
    th ea oe { nx:=fun σ2 H2=>D.nx (σ2.set i none) H2,rt:=D.rt,bk:=fun σ2 H2=>D.bk (σ2.set i none) H2,ct:=fun σ2 H2=>D.ct (σ2.set i none) H2 } (σ'.set i (some (.ref ea))) H'
end L2
namespace PySem
open Sem (wp)
open AutoSeq1 (wpAny_loadPart')
theorem y_meets_enumerate_newT (l:Addr) (items:Array Value) (n:Nat) (dct:Option Addr) (sl:Array (Option Value)) :
    Meets (Builtin.«enumerate.__new__» ⟨[.type "enumerate", .ref l],[]⟩) (fun _ R s=>s.heap.get? l=some { cls := .type "tuple",dict:=dct,data := .seq items n,slots:=sl } ∧
      R (.ok (.ret (.ref (s.heap.push { cls := .type "tuple_iterator",data := .fields #[.ref l, .int 0 0] }).objs.size)))
        { s with heap:=(s.heap.push { cls := .type "tuple_iterator",data := .fields #[.ref l, .int 0 0] }).push { cls := .type "enumerate",data := .fields #[.none, .bool false, .ref s.heap.objs.size,rawInt 0, .none, .none] } }) :=
  .of_wp fun prog w A R s h=>by
    obtain ⟨hp,g,d,tk,os⟩:=s; obtain ⟨hl,h⟩:=h
    have hsub:=sub_enumerate
    have hL:Heap.IsTuple (Shared.heap ⟨hp,g,d,tk,os⟩) l items:=⟨_,hl,rfl,n,rfl⟩
    wp_walk using wpAny_loadPart' hl
    refine wpAny_stack_any fun st=>wpAny_pure ?_
    split
    · rename_i c _ _ _ _ _
      cases (c == Value.type "enumerate")
      · wp_walk using wpAny_loadPart' hl,wpAny_pyIter_tuple hL
        exact ⟨_,rfl,h⟩
      · wp_walk using wpAny_loadPart' hl,wpAny_pyIter_tuple hL
        exact ⟨_,rfl,h⟩
    · wp_walk using wpAny_loadPart' hl,wpAny_pyIter_tuple hL
      exact ⟨_,rfl,h⟩
section
variable {prog:Program} {w:World} {A:Around} {E:Value→Shared→Prop} {s:Shared}
theorem y_call_enumerate_tuple {l:Addr} {items:Array Value} {Q:Value→Shared→Prop} (hL:s.heap.IsTuple l items)
    (h:∀ h',IsEnum h' (s.heap.objs.size + 1) s.heap.objs.size 0 .none→h'.IsTupleIter s.heap.objs.size l 0→h'.objs.size=s.heap.objs.size + 2 →
      (∀ b o,s.heap.get? b=some o→h'.get? b=some o)→Q (.ref (s.heap.objs.size + 1)) { s with heap:=h' }) :
    wpAny (model prog w) A (call (.type "enumerate") [.ref l]) Q E s:=by
  obtain ⟨⟨c,dct,dt,sl⟩,hl,hc,n,hd⟩:=hL
  replace hc:c = .type "tuple":=hc
  replace hd:dt = .seq items n:=hd
  subst hc hd
  refine callType_new F.called_enumerate (by decide) (F.typeCall_enumerate_1 _) (F.newCall_enumerate_1 _) (fun obj=>F.args_object_init_2 obj _) F.entry_enumerate_new
    (y_meets_enumerate_newT l items n dct sl) ⟨hl,?_⟩
  have hz:(s.heap.push { cls := .type "tuple_iterator",data := .fields #[.ref l, .int 0 0] }).objs.size=s.heap.objs.size + 1:=Heap.size_push ..
  show _∧_
  rw [hz]
  have he:IsEnum ((s.heap.push { cls := .type "tuple_iterator",data := .fields #[.ref l, .int 0 0] }).push
      { cls := .type "enumerate",data := .fields #[.none, .bool false, .ref s.heap.objs.size,rawInt 0, .none, .none] }) (s.heap.objs.size + 1) s.heap.objs.size 0 .none:=by
    have:=Heap.get?_push_size (s.heap.push { cls := .type "tuple_iterator",data := .fields #[.ref l, .int 0 0] })
      (o:={ cls := .type "enumerate",data := .fields #[.none, .bool false, .ref s.heap.objs.size,rawInt 0, .none, .none] }) rfl
    rw [hz] at this; exact this
  refine ⟨⟨_,he,rfl⟩,h _ he ⟨_,Heap.get?_push_of_some _ (Heap.get?_push_size _ rfl),rfl,rfl⟩ (by rw [Heap.size_push,hz]) fun b o x=>Heap.get?_push_of_some _ (Heap.get?_push_of_some _ x)⟩
theorem y_nextOf_tuple_item {it l:Addr} {i:Nat} {items} {x:Value} {Q:Value→Shared→Prop} (hit:s.heap.IsTupleIter it l i)
    (hl:s.heap.IsTuple l items) (hx:items[i]? = some x)
    (hQ:∀ h',h'.IsTupleIter it l (i + 1)→Heap.SameBut it s.heap h'→Q x { s with heap:=h' }) :
    wpAny (model prog w) A (Builtin.SmallTypes.nextOf (.ref it)) Q E s:=by
  obtain ⟨o,ho,hc,hd⟩:=id hit
  obtain ⟨ol,hol,_,nl,hdl⟩:=hl
  unfold Builtin.SmallTypes.nextOf
  refine wpAny_bind (wpAny_callSpecial?_slot (name:=Str.ofString "__next__") hit.typeIs F.slot_tuple_iterator_next
    (wpAny_call_entry F.slot_tuple_iterator_next hit.typeIs F.entry_tuple_iterator_next ?_ (F.args_tuple_iterator_next_1 _)))
  show wpAny _ _ (field (.ref it) 0 >>= _) _ _ s
  refine wpAny_bind (wpAny_field ho hd (x := .ref l) rfl ?_)
  show wpAny _ _ (if (Value.ref l == Value.none)=true then _ else _) _ _ s
  rw [if_neg (show ¬ ((Value.ref l == Value.none)=true) from Bool.false_ne_true)]
  show wpAny _ _ (field (.ref it) 1 >>= _) _ _ s
  refine wpAny_bind (wpAny_field ho hd (x := .int i 0) rfl ?_)
  show wpAny _ _ (seqItems? (.ref l) >>= _) _ _ s
  refine wpAny_bind (wpAny_seqItems hol hdl ?_)
  simp only [Int.toNat_natCast,hx]
  refine wpAny_bind (wpAny_setField ho hd (by simp) (wpAny_pure ⟨x,rfl,wpAny_pure (hQ _ ?_ (Heap.SameBut.update ..))⟩))
  exact ⟨_,Heap.get?_update_self _ ho (Obj.isFreed_of_fields (Obj.data_mapFields hd _)),(Obj.cls_mapFields ..).trans hc,by
    rw [Obj.data_mapFields hd]; simp [rawInt]⟩
theorem y_nextOf_tuple_end {it l:Addr} {i:Nat} {items} {Q:Value→Shared→Prop} (hh:A.handled=none)
    (hit:s.heap.IsTupleIter it l i) (hl:s.heap.IsTuple l items) (hx:items[i]? = none)
    (hE:∀ h' e,Heap.ExtBut it s.heap h'→(∃ o,h'.get? e=some o∧o.cls = .type "StopIteration")→E (.ref e) { s with heap:=h' }) :
    wpAny (model prog w) A (Builtin.SmallTypes.nextOf (.ref it)) Q E s:=by
  obtain ⟨o,ho,hc,hd⟩:=id hit
  obtain ⟨ol,hol,_,nl,hdl⟩:=hl
  unfold Builtin.SmallTypes.nextOf
  refine wpAny_bind (wpAny_callSpecial?_slot (name:=Str.ofString "__next__") hit.typeIs F.slot_tuple_iterator_next
    (wpAny_call_entry F.slot_tuple_iterator_next hit.typeIs F.entry_tuple_iterator_next ?_ (F.args_tuple_iterator_next_1 _)))
  show wpAny _ _ (field (.ref it) 0 >>= _) _ _ s
  refine wpAny_bind (wpAny_field ho hd (x := .ref l) rfl ?_)
  show wpAny _ _ (if (Value.ref l == Value.none)=true then _ else _) _ _ s
  rw [if_neg (show ¬ ((Value.ref l == Value.none)=true) from Bool.false_ne_true)]
  show wpAny _ _ (field (.ref it) 1 >>= _) _ _ s
  refine wpAny_bind (wpAny_field ho hd (x := .int i 0) rfl ?_)
  show wpAny _ _ (seqItems? (.ref l) >>= _) _ _ s
  refine wpAny_bind (wpAny_seqItems hol hdl ?_)
  simp only [Int.toNat_natCast,hx]
  refine wpAny_bind (wpAny_rule (wpAny_bind (wpAny_setField ho hd (by simp) ?_)))
  show wpAny _ _ (newExc (.type "StopIteration") [] >>= _) _ _ _
  refine wpAny_bind ?_
  simp only [newExc,newTuple]
  refine wpAny_bind (wpAny_newObj_type ?_ (by size_fits))
  refine wpAny_bind (m:=firstArgMember _ _) (wpAny_of_eq (a:=Value.none) (by first | rfl | (simp only [firstArgMember]; rfl)) ?_)
  refine wpAny_newObj_type ?_ (by size_fits)
  simp only [raiseNew]
  refine wpAny_bind (wpAny_handled ?_)
  first | rw [show A.in1.handled=none from hh] | rw [hh]
  refine wpAny_bind (wpAny_pure (wpAny_throw ?_))
  exact hE _ _ (((Heap.SameBut.update ..).extBut.push _).push _) ⟨_,Heap.get?_push_size _ rfl,rfl⟩
end
theorem y_Draws_tuple {prog:Program} {w:World} {A:Around} (hh:A.handled=none) (it l:Addr) (hne:l ≠ it) (items:Array Value) :
    Draws prog w A it [it,l] items.size (fun i v=>items[i]? = some v) (fun i h=>h.IsTupleIter it l i∧h.IsTuple l items) where
  live:=fun _ _ st=>let ⟨o,ho,_⟩:=st.1; ⟨o,ho⟩
  frame:=fun _ _ _ st hk=>⟨st.1.at fun o e=>hk it (by simp) o e,let ⟨o,ho,r⟩:=st.2; ⟨o,hk l (by simp) o ho,r⟩⟩
  item:=fun i s Q E hi st hQ=>by
    refine y_nextOf_tuple_item st.1 st.2 (x:=items[i]) (by simp [hi]) fun h' hit' hs'=>?_
    exact hQ _ h' s.toks (by simp [hi]) ⟨hit',let ⟨o,ho,r⟩:=st.2; ⟨o,hs'.extBut l o hne ho,r⟩⟩ hs'
  done:=fun s Q E st hE=>y_nextOf_tuple_end hh st.1 st.2 (by simp) hE
end PySem
namespace L2
open PySem PySem.Spec PyProof.Rows
section
variable {X:Cx} {pins:List (Addr × Obj)} {σ:St} {H:Hp} {s:Shared}
theorem Inv.drawn2 {h':Heap} {t':Nat} {a b p:Addr} {xs:List V} {us:List Value} (I:Inv X pins σ H s) (fa:FpOk X pins H a) (fb:FpOk X pins H b) (hp:s.heap.objs.size ≤ p)
    (k:∀ c o,c ≠ a→c ≠ b→s.heap.get? c=some o→h'.get? c=some o) (ka:∃ o,h'.get? a=some o) (kb:∃ o,h'.get? b=some o) (hl:xs.length ≤ sizeLine) (r:Vals xs us) (ht:IsTupN h' p us.toArray) :
    Inv X pins σ (upd H p (.tup xs)) { s with heap:=h',toks:=t' }:=by
  have hf:H p=none:=I.hok.fresh hp
  have nt:∀ c u,H c=some u→c ≠ p:=fun c u q z=>by rw [z,hf] at q; cases q
  have lt:∀ c o,s.heap.get? c=some o→c ≠ p:=fun c o q=>Nat.ne_of_lt (Nat.lt_of_lt_of_le (Heap.lt_size q) hp)
  have ne:∀ c,c ∉ [a,b]→c ≠ a∧c ≠ b:=fun c hc=>by simpa using hc
  refine I.call (g':=s.gens) (d':=s.drawn) (ch:=[a,b]) ⟨fun c o e n h1 h2=>k c o (ne c h2).1 (ne c h2).2 e,fun c o e n h1 h2=>⟨o.slots,k c o (ne c h2).1 (ne c h2).2 e⟩,fun c o e n h2=>by rw [upd_ne (lt c o e)]; exact n,
    fun c o e h2=>⟨o,k c o (ne c h2).1 (ne c h2).2 e⟩,fun c ys q=>by rw [upd_ne (nt c _ q)]; exact q,fun c o u q=>by rw [upd_ne (nt c _ q)]; exact q,fun c ps q=>⟨#[],by rw [upd_ne (nt c _ q),q]; simp⟩⟩ (fun c u q=>?_) I.bare fun c hc=>?_
  · by_cases hc:c=p
    · subst hc
      rw [upd_same] at q
      cases q
      exact ⟨hl,us,r,ht⟩
    · rw [upd_ne hc] at q
      refine (I.hok c u q).stay (fun d v hd z=>?_) (fun d z=>by rw [upd_ne (nt d _ z)]; exact z) fun d ys z=>by rw [upd_ne (nt d _ z)]; exact z
      have nd:∀ e,H e=none→d ≠ e:=fun e he w=>by
        rcases hd with rfl | hd
        · rw [w,he] at q; cases q
        · rw [w,he] at hd; cases hd
      exact k d v (nd a fa.1) (nd b fb.1) z
  · have hc':c=a∨c=b:=by simpa using hc
    rcases hc' with rfl | rfl
    · obtain ⟨_,f1,_,f3,f4,f5⟩:=fa; exact ⟨f3,f1,f4,f5⟩
    · obtain ⟨_,f1,_,f3,f4,f5⟩:=fb; exact ⟨f3,f1,f4,f5⟩
theorem Inv.turned2 {h':Heap} {t':Nat} {a b:Addr} (I:Inv X pins σ H s) (fa:FpOk X pins H a) (fb:FpOk X pins H b)
    (k:∀ c o,c ≠ a→c ≠ b→s.heap.get? c=some o→h'.get? c=some o):Inv X pins σ H { s with heap:=h',toks:=t' }:=by
  have ne:∀ c,c ∉ [a,b]→c ≠ a∧c ≠ b:=fun c hc=>by simpa using hc
  refine I.call (g':=s.gens) (d':=s.drawn) (ch:=[a,b]) ⟨fun c o e n h1 h2=>k c o (ne c h2).1 (ne c h2).2 e,fun c o e n h1 h2=>⟨o.slots,k c o (ne c h2).1 (ne c h2).2 e⟩,fun c o e n h2=>n,
    fun c o e h2=>⟨o,k c o (ne c h2).1 (ne c h2).2 e⟩,fun c ys q=>q,fun c o u q=>q,fun c ps q=>⟨#[],by rw [q]; simp⟩⟩ (fun c u q=>?_) I.bare fun c hc=>?_
  · refine (I.hok c u q).stay (fun d v hd z=>?_) (fun d z=>z) fun d ys z=>z
    have nd:∀ e,H e=none→d ≠ e:=fun e he w=>by
      rcases hd with rfl | hd
      · rw [w,he] at q; cases q
      · rw [w,he] at hd; cases hd
    exact k d v (nd a fa.1) (nd b fb.1) z
  · have hc':c=a∨c=b:=by simpa using hc
    rcases hc' with rfl | rfl
    · obtain ⟨_,f1,_,f3,f4,f5⟩:=fa; exact ⟨f3,f1,f4,f5⟩
    · obtain ⟨_,f1,_,f3,f4,f5⟩:=fb; exact ⟨f3,f1,f4,f5⟩
theorem enum_item {e it:Addr} {fp:List Addr} {n i:Nat} {P:Nat→Value→Prop} {Sx:Nat→Heap→Prop} {old:Value} {xs:List V} {E:Value→Shared→Prop} {elts:List Expr} {kk:Nat} {pos:Pos}
    (D:Draws X.prog X.w X.A.in1 it fp n P Sx) (I:Inv X pins σ H s) (he:IsEnum s.heap e it i old) (hst:Sx i s.heap) (hlt:i < n) (hne:e ≠ it) (hef:e ∉ fp) (fe:FpOk X pins H e) (fi:FpOk X pins H it)
    (hP:∀ v,P i v→∃ x,xs[i]? = some x∧RelV x v) :
    wpAny (model X.prog X.w) X.A (pyNext (.ref e)) (fun r s1=>∃ u,r=some u∧wpAny (model X.prog X.w) X.A (letOwnedTupleGo (.Tuple elts kk pos) (.ref e) u) (fun _ s2=>∃ p x,xs[i]? = some x∧H p=none∧u = .ref p ∧
      Inv X pins σ (upd H p (.tup [.int i,x])) s2∧(∃ old,IsEnum s2.heap e it ((i + 1:Nat):Int) old)∧Sx (i + 1) s2.heap∧p ≠ e∧p ≠ it) E s1) E s:=by
  refine wpAny_pyNext_enum_itemD D he hst hlt hne hef fun x h' tk hx ho hs' hT hsz hk=>⟨_,rfl,?_⟩
  refine wpAny_letOwnedTupleGo_enum ho fun h2 he2 hs2=>?_
  obtain ⟨y,hy,ry⟩:=hP x hx
  have hee:e < s.heap.objs.size:=Heap.lt_size he
  have hie:it < s.heap.objs.size:=by obtain ⟨_,z⟩:=D.live _ _ hst; exact Heap.lt_size z
  have hst2:Sx (i + 1) h2:=D.frame _ _ _ hs' fun b hb o z=>(hs2.2 b fun q=>hef (q ▸ hb)).trans z
  refine ⟨s.heap.objs.size,y,hy,I.hok.fresh (Nat.le_refl _),rfl,?_,⟨x,by simpa using he2⟩,hst2,Nat.ne_of_gt hee,Nat.ne_of_gt hie⟩
  refine Inv.drawn2 (s:=s) (h':=h2) (t':=tk + 1) I fe fi (Nat.le_refl _) (fun c o h1 h2' z=>(hs2.2 c h1).trans (hk c o h1 h2' z)) ⟨_,he2⟩ (let ⟨o,z⟩:=D.live _ _ hst2; ⟨o,z⟩) (by show 2 ≤ sizeLine; decide) (us:=[.int i tk,x]) (.cons ⟨tk,rfl⟩ (.cons ry .nil)) ?_
  exact ⟨_,(hs2.2 _ (Nat.ne_of_gt hee)).trans hT,⟨rfl,_,rfl⟩,rfl⟩
end
def Ite (sq:Hp→List V→Prop):It :=
  ⟨fun i H=>∃ xs x,sq H xs∧xs[i]? = some x,fun i H v H'=>∃ p,H p=none∧v = .ref p∧∀ xs,sq H xs→∃ x,xs[i]? = some x∧H' = upd H p (.tup [.int i,x]),fun i H=>∃ xs,sq H xs∧xs.length=i⟩
theorem turn_enumL {P:Program} {w:World} {K:PySem.W.Frag} {elts:List Expr} {kk:Nat} {pos:Pos} (a e it:Addr) (hne:e ≠ it):Turn P w K (.Tuple elts kk pos) (Ite fun H=>SqL K H a) [e,it] e (fun i h=>(∃ old,IsEnum h e it (i:Int) old)∧h.IsListIter it a i) where
  mem:=by simp
  obj:=fun i h st b hb=>by
    obtain ⟨⟨old,he⟩,o,ho,c,d⟩:=st
    have hb':b=e∨b=it:=by simpa using hb
    rcases hb' with rfl | rfl
    · exact ⟨_,he,fun v z=>by have z':Data.fields _=Data.cell v:=z; cases z'⟩
    · exact ⟨o,ho,fun v z=>by rw [d] at z; cases z⟩
  keep:=fun i h h' st k=>by
    obtain ⟨⟨old,he⟩,hi⟩:=st
    exact ⟨⟨old,k e (by simp) _ he⟩,hi.at fun o z=>k it (by simp) o z⟩
  item:=by
    intro X hP hw hK hc i pins s σ H E I hf st hg
    subst hP hw hK
    obtain ⟨xs,x,hq,hx⟩:=hg
    obtain ⟨its,rv,p,hz⟩:=I.list hq
    obtain ⟨⟨old,he⟩,hi⟩:=st
    have hl:i < its.toArray.size:=by
      have:=(List.getElem?_eq_some_iff.mp hx).1
      have l2:=rv.length
      simp; omega
    have hae:e ≠ a:=by
      rintro rfl
      obtain ⟨o,ho,hcl,_⟩:=p.isList
      rw [he] at ho; cases ho
      injection hcl with z; exact absurd z (by decide)
    have hai:a ≠ it:=by
      rintro rfl
      obtain ⟨o,ho,hcl,_⟩:=p.isList
      obtain ⟨o2,ho2,hc2,_⟩:=hi
      rw [ho] at ho2; cases ho2; rw [hcl] at hc2
      injection hc2 with z; exact absurd z (by decide)
    refine thn (enum_item (xs:=xs) (Draws.list (A:=X.A.in1) (I.ok.hd hc) it a hai its.toArray) I he ⟨hi,p.isList⟩ hl hne (by simp only [List.mem_cons,List.not_mem_nil,or_false,not_or]; exact ⟨hne,hae⟩) (hf e (by simp)) (hf it (by simp)) fun v hv=>?_) fun r s1 ⟨u,hr,h1⟩=>⟨u,hr,thn h1 fun _ s2 ⟨q,y,hy,hqn,hu,I2,he2,hs2,n1,n2⟩=>?_⟩
    · obtain ⟨u,hu,ru⟩:=rv.get hx
      have e1:its[i]? = some v:=by simpa using hv
      rw [hu] at e1; cases e1
      exact ⟨x,hx,ru⟩
    · refine ⟨.ref q,_,I2,hu,⟨q,hqn,rfl,fun zs hz'=>⟨y,by rw [I.list_inj hz' hq]; exact hy,rfl⟩⟩,⟨he2,hs2.1⟩,fun b hb=>?_⟩
      have hb':b=e∨b=it:=by simpa using hb
      rcases hb' with rfl | rfl
      · rw [upd_ne (Ne.symm n1)]; exact (hf b (by simp)).1
      · rw [upd_ne (Ne.symm n2)]; exact (hf b (by simp)).1
  done:=by
    intro X hP hw hK hc i pins s σ H E I hf st hg
    subst hP hw hK
    obtain ⟨xs,hq,hx⟩:=hg
    obtain ⟨its,rv,p,hz⟩:=I.list hq
    obtain ⟨⟨old,he⟩,hi⟩:=st
    have hl:i=its.toArray.size:=by have l2:=rv.length; simp; omega
    have hai:a ≠ it:=by
      rintro rfl
      obtain ⟨o,ho,hcl,_⟩:=p.isList
      obtain ⟨o2,ho2,hc2,_⟩:=hi
      rw [ho] at ho2; cases ho2; rw [hcl] at hc2
      injection hc2 with z; exact absurd z (by decide)
    refine wpAny_pyNext_enum_endD (Draws.list (A:=X.A.in1) (I.ok.hd hc) it a hai its.toArray) he (by rw [← hl]; exact ⟨hi,p.isList⟩) fun h' hx'=>⟨rfl,?_⟩
    exact I.turned2 (t':=s.toks) (hf e (by simp)) (hf it (by simp)) fun c o h1 h2 z=>hx' c o h2 z
  self:=fun _ _ _ _ _ st h=>by
    obtain ⟨⟨old,he⟩,_⟩:=st
    exact wpAny_pyIter_enum he h
theorem turn_enumT {P:Program} {w:World} {K:PySem.W.Frag} {elts:List Expr} {kk:Nat} {pos:Pos} (a e it:Addr) (hne:e ≠ it):Turn P w K (.Tuple elts kk pos) (Ite fun H=>SqT K H a) [e,it] e (fun i h=>(∃ old,IsEnum h e it (i:Int) old)∧h.IsTupleIter it a i) where
  mem:=by simp
  obj:=fun i h st b hb=>by
    obtain ⟨⟨old,he⟩,o,ho,c,d⟩:=st
    have hb':b=e∨b=it:=by simpa using hb
    rcases hb' with rfl | rfl
    · exact ⟨_,he,fun v z=>by have z':Data.fields _=Data.cell v:=z; cases z'⟩
    · exact ⟨o,ho,fun v z=>by rw [d] at z; cases z⟩
  keep:=fun i h h' st k=>by
    obtain ⟨⟨old,he⟩,hi⟩:=st
    exact ⟨⟨old,k e (by simp) _ he⟩,hi.at fun o z=>k it (by simp) o z⟩
  item:=by
    intro X hP hw hK hc i pins s σ H E I hf st hg
    subst hP hw hK
    obtain ⟨xs,x,hq,hx⟩:=hg
    obtain ⟨its,rv,p,hz⟩:=I.tuple hq
    have pt:s.heap.IsTuple a its.toArray:=p
    obtain ⟨⟨old,he⟩,hi⟩:=st
    have hl:i < its.toArray.size:=by
      have:=(List.getElem?_eq_some_iff.mp hx).1
      have l2:=rv.length
      simp; omega
    have hae:e ≠ a:=by
      rintro rfl
      obtain ⟨o,ho,hcl,_⟩:=pt
      rw [he] at ho; cases ho
      injection hcl with z; exact absurd z (by decide)
    have hai:a ≠ it:=by
      rintro rfl
      obtain ⟨o,ho,hcl,_⟩:=pt
      obtain ⟨o2,ho2,hc2,_⟩:=hi
      rw [ho] at ho2; cases ho2; rw [hcl] at hc2
      injection hc2 with z; exact absurd z (by decide)
    refine thn (enum_item (xs:=xs) (y_Draws_tuple (A:=X.A.in1) (I.ok.hd hc) it a hai its.toArray) I he ⟨hi,pt⟩ hl hne (by simp only [List.mem_cons,List.not_mem_nil,or_false,not_or]; exact ⟨hne,hae⟩) (hf e (by simp)) (hf it (by simp)) fun v hv=>?_) fun r s1 ⟨u,hr,h1⟩=>⟨u,hr,thn h1 fun _ s2 ⟨q,y,hy,hqn,hu,I2,he2,hs2,n1,n2⟩=>?_⟩
    · obtain ⟨u,hu,ru⟩:=rv.get hx
      have e1:its[i]? = some v:=by simpa using hv
      rw [hu] at e1; cases e1
      exact ⟨x,hx,ru⟩
    · refine ⟨.ref q,_,I2,hu,⟨q,hqn,rfl,fun zs hz'=>⟨y,by rw [I.tuple_inj hz' hq]; exact hy,rfl⟩⟩,⟨he2,hs2.1⟩,fun b hb=>?_⟩
      have hb':b=e∨b=it:=by simpa using hb
      rcases hb' with rfl | rfl
      · rw [upd_ne (Ne.symm n1)]; exact (hf b (by simp)).1
      · rw [upd_ne (Ne.symm n2)]; exact (hf b (by simp)).1
  done:=by
    intro X hP hw hK hc i pins s σ H E I hf st hg
    subst hP hw hK
    obtain ⟨xs,hq,hx⟩:=hg
    obtain ⟨its,rv,p,hz⟩:=I.tuple hq
    have pt:s.heap.IsTuple a its.toArray:=p
    obtain ⟨⟨old,he⟩,hi⟩:=st
    have hl:i=its.toArray.size:=by have l2:=rv.length; simp; omega
    have hai:a ≠ it:=by
      rintro rfl
      obtain ⟨o,ho,hcl,_⟩:=pt
      obtain ⟨o2,ho2,hc2,_⟩:=hi
      rw [ho] at ho2; cases ho2; rw [hcl] at hc2
      injection hc2 with z; exact absurd z (by decide)
    refine wpAny_pyNext_enum_endD (y_Draws_tuple (A:=X.A.in1) (I.ok.hd hc) it a hai its.toArray) he (by rw [← hl]; exact ⟨hi,pt⟩) fun h' hx'=>⟨rfl,?_⟩
    exact I.turned2 (t':=s.toks) (hf e (by simp)) (hf it (by simp)) fun c o h1 h2 z=>hx' c o h2 z
  self:=fun _ _ _ _ _ st h=>by
    obtain ⟨⟨old,he⟩,_⟩:=st
    exact wpAny_pyIter_enum he h
section
variable {X:Cx} {elts:List Expr} {kk:Nat} {tpos p pos:Pos} {a:Expr} {ta:TE}
def iEnL (K:PySem.W.Frag) (t:TA):TI:=fun σ H R=>t σ H fun vs H1=>∃ a,vs=[.ref a]∧(∃ xs,SqL K H1 a xs)∧R (Ite fun H=>SqL K H a) H1
def iEnT (K:PySem.W.Frag) (t:TA):TI:=fun σ H R=>t σ H fun vs H1=>∃ a,vs=[.ref a]∧(∃ xs,SqT K H1 a xs)∧R (Ite fun H=>SqT K H a) H1
theorem pi_enumL {t:TA} (hg:Gl X "enumerate") (hm:X.mg "enumerate" = none) (ha:PA X [a] t) (hs:starEach [a] X.env=[(false,eval a X.env)]:=by rfl):PI X (.Tuple elts kk tpos) (.Call (.Name "enumerate" p) [a] [] pos) (iEnL X.K t):=by
  intro pins s σ H R I h
  refine Call_ (ld_blt I hg hm boot_enumerate (PyProof.Rows.callWith_type1 (thn (ha pos pins s σ H _ I h) fun us s1 ⟨vs,H1,I1,r1,q1⟩=>?_) hs rfl))
  obtain ⟨l,e,⟨xs,hq⟩,q⟩:=q1
  subst e
  cases r1 with
  | cons r rr =>
    cases rr
    cases r
    obtain ⟨its,rv,pp,hz⟩:=I1.list hq
    refine call_enumerate_list pp.isList fun h' he hit hsz hk=>?_
    have I2:Inv X pins σ H1 { s1 with heap:=h' }:=I1.kept (t':=s1.toks) hk
    refine wpAny_pyIter_enum (s:={ s1 with heap:=h' }) he ?_
    refine ⟨_,_,_,_,H1,rfl,I2,turn_enumL l _ s1.heap.objs.size (Nat.succ_ne_self _),⟨⟨_,he⟩,hit⟩,fun b hb=>?_,q⟩
    have hb':b=s1.heap.objs.size + 1∨b=s1.heap.objs.size:=by simpa using hb
    have hle:s1.heap.objs.size ≤ b:=by
      rcases hb' with e | e
      · rw [e]; exact Nat.le_succ _
      · rw [e]; exact Nat.le_refl _
    exact I1.fpOk hle (I1.hok.fresh hle)
theorem pi_enumT {t:TA} (hg:Gl X "enumerate") (hm:X.mg "enumerate" = none) (ha:PA X [a] t) (hs:starEach [a] X.env=[(false,eval a X.env)]:=by rfl):PI X (.Tuple elts kk tpos) (.Call (.Name "enumerate" p) [a] [] pos) (iEnT X.K t):=by
  intro pins s σ H R I h
  refine Call_ (ld_blt I hg hm boot_enumerate (PyProof.Rows.callWith_type1 (thn (ha pos pins s σ H _ I h) fun us s1 ⟨vs,H1,I1,r1,q1⟩=>?_) hs rfl))
  obtain ⟨l,e,⟨xs,hq⟩,q⟩:=q1
  subst e
  cases r1 with
  | cons r rr =>
    cases rr
    cases r
    obtain ⟨its,rv,pp,hz⟩:=I1.tuple hq
    refine y_call_enumerate_tuple (show s1.heap.IsTuple l its.toArray from pp) fun h' he hit hsz hk=>?_
    have I2:Inv X pins σ H1 { s1 with heap:=h' }:=I1.kept (t':=s1.toks) hk
    refine wpAny_pyIter_enum (s:={ s1 with heap:=h' }) he ?_
    refine ⟨_,_,_,_,H1,rfl,I2,turn_enumT l _ s1.heap.objs.size (Nat.succ_ne_self _),⟨⟨_,he⟩,hit⟩,fun b hb=>?_,q⟩
    have hb':b=s1.heap.objs.size + 1∨b=s1.heap.objs.size:=by simpa using hb
    have hle:s1.heap.objs.size ≤ b:=by
      rcases hb' with e | e
      · rw [e]; exact Nat.le_succ _
      · rw [e]; exact Nat.le_refl _
    exact I1.fpOk hle (I1.hok.fresh hle)
end
theorem for_enum {sq:Hp→List V→Prop} {xs:List V} {g:TG} {tb:TS} {D:Ends} {σ:St} {H:Hp} (Pv:Nat→St→Hp→Prop) (h0:Pv 0 σ H) (hl:∀ i σ H,i ≤ xs.length→Pv i σ H→sq H xs)
    (hs:∀ i x p σ H,xs[i]? = some x→Pv i σ H→H p=none→g (.ref p) σ (upd H p (.tup [.int i,x])) fun σ2 H2=>tb { D with nx:=Pv (i + 1),ct:=Pv (i + 1),bk:=D.nx } σ2 H2) (hd:∀ σ H,Pv xs.length σ H→D.nx σ H) :
    ∃ W:Nat→Nat→St→Hp→Prop,(∃ m,W 0 m σ H)∧∀ i m σ H,W i m σ H →
      ((Ite sq).stop i H∧D.nx σ H)∨((Ite sq).go i H∧∃ N:St→Hp→Prop,(∀ σ' H',N σ' H'→∃ m',m' < m∧W (i + 1) m' σ' H')∧∀ x H',(Ite sq).yld i H x H'→g x σ H' fun σ2 H2=>tb { D with nx:=N,ct:=N,bk:=D.nx } σ2 H2):=by
  refine ⟨fun i m σ H=>m=xs.length - i∧i ≤ xs.length∧Pv i σ H,⟨xs.length,by simp,Nat.zero_le _,h0⟩,?_⟩
  rintro i m σ H ⟨rfl,hi,p⟩
  have q:=hl i σ H hi p
  by_cases hlt:i < xs.length
  · refine .inr ⟨⟨xs,xs[i],q,by simp [hlt]⟩,Pv (i + 1),fun σ' H' p'=>⟨xs.length - (i + 1),by omega,rfl,hlt,p'⟩,fun x H' y=>?_⟩
    obtain ⟨pp,hn,rfl,hx⟩:=y
    obtain ⟨x',hx',e⟩:=hx xs q
    subst e
    exact hs i x' pp σ H hx' p hn
  · have e:i=xs.length:=by omega
    subst e
    exact .inl ⟨⟨xs,q,rfl⟩,hd σ H p⟩
end L2
namespace L2
open PySem PySem.Spec PyProof.Rows
def Shp (d:PyData) (m:Nat):Prop:=d.canLay0=true∧d.depth ≤ m
theorem Shp.shaped {d:PyData} {m:Nat} (h:Shp d m) (hm:m ≤ 64):SeqAt.shaped d=true:=by
  unfold SeqAt.shaped
  rw [h.1,decide_eq_true (Nat.le_trans h.2 hm)]; rfl
theorem shp_int (i:Int):Shp (.int i) 0:=⟨by simp [PyData.canLay0],by simp [PyData.depth]⟩
theorem shpAll {m:Nat}:∀ {ds:List PyData},(∀ d ∈ ds,Shp d m)→PyData.canLayAll0 ds=true∧PyData.depthAll ds ≤ m
  | [],_=>⟨by simp [PyData.canLayAll0],by simp [PyData.depthAll]⟩
  | d :: r,h=>by
    obtain ⟨a,b⟩:=shpAll (ds:=r) fun z hz=>h z (List.mem_cons_of_mem _ hz)
    obtain ⟨c,e⟩:=h d List.mem_cons_self
    exact ⟨by simp [PyData.canLayAll0,c,a],by simp only [PyData.depthAll]; omega⟩
theorem shp_list {m:Nat} {ds:List PyData} (h:∀ d ∈ ds,Shp d m):Shp (.list ds) (m + 1):=by
  obtain ⟨a,b⟩:=shpAll h
  exact ⟨by simp [PyData.canLay0,a],by simp only [PyData.depth]; omega⟩
theorem shp_tuple {m:Nat} {ds:List PyData} (h:∀ d ∈ ds,Shp d m):Shp (.tuple ds) (m + 1):=by
  obtain ⟨a,b⟩:=shpAll h
  exact ⟨by simp [PyData.canLay0,a],by simp only [PyData.depth]; omega⟩
theorem neS {K:PySem.W.Frag} {x y:V} {H:Hp} {Q:VK} {d:PyData} (h1:Den K H x d) (h2:Den K H y d) (s:Shp d 64) (q:Q (.bl false) H):rNeD K x y H Q :=
  ⟨d,d,h1,h2,s.shaped (Nat.le_refl _),s.shaped (Nat.le_refl _),by rw [SeqAt.eqv_refl d s.1]; exact q⟩
theorem eqS {K:PySem.W.Frag} {x y:V} {H:Hp} {Q:VK} {d:PyData} (h1:Den K H x d) (h2:Den K H y d) (s:Shp d 64) (q:Q (.bl true) H):rEqD K x y H Q :=
  ⟨d,d,h1,h2,s.shaped (Nat.le_refl _),s.shaped (Nat.le_refl _),by rw [SeqAt.eqv_refl d s.1]; exact q⟩
theorem Shp.le {d:PyData} {m n:Nat} (h:Shp d m) (l:m ≤ n):Shp d n:=⟨h.1,Nat.le_trans h.2 l⟩
end L2
namespace L2
open PySem
theorem comp_rng {n:Nat} {lo:Int} {g:TG} {tt:TT} {te:TE} {σ0:St} {H:Hp} {Q:VK} (p:Nat→Bool) (f:Nat→V) (hn:n < sizeLine)
    (hs:∀ (i:Nat) (acc:List V) (N:List V→Hp→Prop),i < n→N (if p i then acc ++ [f i] else acc) H→g (.int (lo + i)) σ0 H fun σ2 H2=>tt σ2 H2 fun b H3=>if b=true then te σ2 H3 fun y H4=>N (acc ++ [y]) H4 else N acc H3)
    (hq:∀ D,H D=none→Q (.ref D) (upd H D (.lst (((List.range n).filter p).map f)))) :
    CompR (Itr lo n) g tt te σ0 Q H:=by
  refine ⟨fun i m acc H'=>m=n - i∧i ≤ n∧H' = H∧acc=((List.range i).filter p).map f,⟨n,by simp,Nat.zero_le _,rfl,rfl⟩,?_⟩
  rintro i m acc H' ⟨rfl,hi,rfl,rfl⟩
  have hl:(((List.range i).filter p).map f).length < sizeLine:=by
    rw [List.length_map]
    have:=List.length_filter_le p (List.range i)
    rw [List.length_range] at this
    omega
  refine ⟨hl,?_⟩
  by_cases hlt:i < n
  · refine .inr ⟨hlt,fun acc' H2=>H2=H'∧acc' = ((List.range (i + 1)).filter p).map f,fun acc' H2 ⟨h1,h2⟩=>⟨n - (i + 1),by omega,rfl,hlt,h1,h2⟩,fun x H2 y=>?_⟩
    obtain ⟨e,y⟩:=y
    subst e y
    refine hs i _ (fun acc' H3=>H3=H2∧acc' = ((List.range (i + 1)).filter p).map f) hlt ⟨rfl,?_⟩
    rw [List.range_succ,List.filter_append]
    cases hp:p i with
    | true=>simp [hp]
    | false=>simp [hp]
  · have e:i=n:=by omega
    subst e
    exact .inl ⟨Nat.le_refl _,hq⟩
theorem comp_lst {K:PySem.W.Frag} {a:Addr} {xs:List V} {g:TG} {tt:TT} {te:TE} {σ0:St} {H:Hp} {Q:VK} (p:V→Bool) (f:V→V) (hn:xs.length < sizeLine) (ha:SqL K H a xs)
    (hs:∀ (x:V) (acc:List V) (N:List V→Hp→Prop),x ∈ xs→N (if p x then acc ++ [f x] else acc) H→g x σ0 H fun σ2 H2=>tt σ2 H2 fun b H3=>if b=true then te σ2 H3 fun y H4=>N (acc ++ [y]) H4 else N acc H3)
    (hq:∀ D,H D=none→Q (.ref D) (upd H D (.lst ((xs.filter p).map f)))) :
    CompR (Itl K a) g tt te σ0 Q H:=by
  refine ⟨fun i m acc H'=>m=xs.length - i∧i ≤ xs.length∧H' = H∧acc=((xs.take i).filter p).map f,⟨xs.length,by simp,Nat.zero_le _,rfl,rfl⟩,?_⟩
  rintro i m acc H' ⟨rfl,hi,rfl,rfl⟩
  have hl:(((xs.take i).filter p).map f).length < sizeLine:=by
    rw [List.length_map]
    have h1:=List.length_filter_le p (xs.take i)
    have h2:=List.length_take_le i xs
    omega
  refine ⟨hl,?_⟩
  by_cases hlt:i < xs.length
  · refine .inr ⟨⟨xs,xs[i],ha,by simp [hlt]⟩,fun acc' H2=>H2=H'∧acc' = ((xs.take (i + 1)).filter p).map f,fun acc' H2 ⟨h1,h2⟩=>⟨xs.length - (i + 1),by omega,rfl,hlt,h1,h2⟩,fun x H2 y=>?_⟩
    obtain ⟨e,y⟩:=y
    subst e
    have hx:=y xs ha
    refine hs x _ (fun acc' H3=>H3=H2∧acc' = ((xs.take (i + 1)).filter p).map f) (List.mem_of_getElem? hx) ⟨rfl,?_⟩
    rw [List.take_succ,hx,List.filter_append]
    cases hp:p x with
    | true=>simp [hp]
    | false=>simp [hp]
  · have e:i=xs.length:=by omega
    subst e
    rw [List.take_length]
    exact .inl ⟨⟨xs,ha,Nat.le_refl _⟩,hq⟩
theorem inV_int (k:Int):∀ ns:List Int,inV (.int k) (ns.map V.int)=decide (k ∈ ns)
  | []=>by simp [inV]
  | n :: r=>by
    have ih:=inV_int k r
    unfold inV at ih ⊢
    rw [List.map_cons,List.any_cons,ih]
    show ((n == k) || decide (k ∈ r))=decide (k ∈ n :: r)
    by_cases h:k=n
    · subst h; simp
    · have h':¬ n=k:=fun z=>h z.symm
      simp [h,h']
theorem flat_ints:∀ ns:List Int,(ns.map V.int).all flatV=true
  | []=>rfl
  | n :: r=>by rw [List.map_cons,List.all_cons,flat_ints r]; rfl
end L2
namespace L2
open PySem PySem.Spec PyProof.Rows
section
open PySem.W
variable {prog:Program} {w:World} {A:Around} {E:Value→Shared→Prop} {s:Shared} {K:PySem.W.Frag} {x C:Addr} {name:Str} {v:Value}
theorem set_exc1 {d:Addr} {vs:Array Value} {mA:Str→Option Value} {ns:List Str} {Q:Unit→Shared→Prop} (X:K.In s.heap) (hx:s.heap.get? x=some ⟨.ref C,some d, .fields vs,#[]⟩) (hn:s.heap.Ns1 d mA) (hw:PySem.Within mA ns) (hl:ns.length < sizeLine) (c:XCls K C) (ht:PySem.W.findIn K (.ref C) name=some none)
    (h:∀ h' t',h'.Ns1 d (fun y=>if y=name then some v else mA y)→(∀ b,b ≠ d→h'.get? b=s.heap.get? b)→Q () { s with heap:=h',toks:=t' }) :
    wpAny (model prog w) A (setAttr (.ref x) name v) Q E s:=by
  obtain ⟨od,es,ep,hod,hr⟩:=id hn
  have I:PySem.W.InstAt s.heap x ⟨.ref C,some d, .fields vs,#[]⟩ C (some od):=⟨hx,rfl,rfl,hod⟩
  refine PySem.W.set_plain X I c.sa (osa_exc (s:={ s with toks:=s.toks + 1 }) X I c.mro ht fun b=>?_)
  obtain ⟨cd,hc,hd'⟩:=PySem.W.any_some c.hd
  obtain ⟨hp,g,dr,t,os⟩:=s
  dsimp only at X hx h I hn hod ⊢
  refine wpAny_bind (wpAny_pure (wpAny_bind (wpAny_bind (wpAny_loadPart hx (wpAny_bind (PySem.W.Looks.here (s:=⟨hp,g,dr,t + 1,os⟩) (PySem.W.looks_clsIn X hc) ?_))))))
  rw [hd']
  rw [if_neg (by decide)]
  dsimp only
  refine wpAny_pure ?_
  show wpAny _ _ (Builtin.ObjectAttr.storeInDict d (.str name t) name v) _ _ _
  unfold Builtin.ObjectAttr.storeInDict Builtin.ObjectAttr.newKeyGuard
  refine wpAny_bind (wpAny_pure (wpAny_bind (wpAny_nsSet1 hn fun h' hn' hs=>?_)))
  obtain ⟨oD,esD,epD,hoD,hdD,hcD⟩:=hn'.count (Within.cons name v hw)
  refine wpAny_bind (wpAny_lookBehind hoD (by rw [hdD]; exact pastItsLine_dict (Nat.le_trans hcD (by rw [List.length_cons]; omega))) ?_)
  exact wpAny_pure (h h' _ hn' fun b hb=>hs.2 b hb)
end
def XdP (d:Addr) (fs:List (Str × V)):Heap→Prop:=fun h=>∃ mA,h.Ns1 d mA∧∀ f,RelO (fs.lookup f) (mA f)
theorem xdP_ok {P:Program} {w:World} {H:Hp} {h:Heap} {d:Addr} {fs:List (Str × V)} (x:XdP d fs h):ObjOk P w H h d (.ext (XdP d fs)):=by
  refine ⟨x,?_,fun h1 h2 ⟨mA,⟨od,es,ep,e,c⟩,r⟩ k=>⟨mA,⟨od,es,ep,k _ e,c⟩,r⟩⟩
  obtain ⟨mA,⟨od,es,ep,e,c⟩,r⟩:=x
  exact ⟨od,e⟩
def sFldXa (K:PySem.W.Frag) (ta tv:TE) (f:Str):TS:=fun D σ H=>tv σ H fun y H1=>ta σ H1 fun x H2=>∃ a C tt,x = .ref a∧H2 a=some (ExcAt a C tt none)∧XCls K C∧PySem.W.findIn K (.ref C) f=some none ∧
  ∀ d,H2 d=none→D.nx σ (upd (upd H2 d (.ext (XdP d [(f,y)]))) a (ExcAt a C tt (some d)))
def sFldXb (K:PySem.W.Frag) (ta tv:TE) (f:Str):TS:=fun D σ H=>tv σ H fun y H1=>ta σ H1 fun x H2=>∃ a C tt d fs,x = .ref a∧H2 a=some (ExcAt a C tt (some d))∧H2 d=some (.ext (XdP d fs))∧fs.length < 1000∧XCls K C∧PySem.W.findIn K (.ref C) f=some none ∧
  D.nx σ (upd H2 d (.xd (putF f y fs)))
section
variable {X:Cx} {o e value:Expr} {f:Str} {pos pos':Pos} {ta tv:TE}
theorem ps_fldXa (ha:PE X o ta) (hv:PE X value tv) (hs:swapsWith value (some (.Attribute o f pos')) pos.line X.env=pure false):PS X (.Assign [.Attribute o f pos'] value pos) (sFldXa X.K ta tv f):=by
  intro pins s σ H D I h
  refine plainObj_wpAny_Assign_Attribute (thn (hv pins s σ H _ I h) fun u s1 ⟨y,H1,I1,ry,q⟩=>thn (ha pins s1 σ H1 _ I1 q) fun ov s2 ⟨x,H2,I2,rx,a,C,tt,ex,ea,c,n,q2⟩=>?_) hs
  subst ex
  obtain rfl:ov=Value.ref a:=rx
  have ho:s2.heap.get? a=some (excObj C tt none):=(I2.hok a _ ea).1
  have hlt:a < s2.heap.objs.size:=Heap.lt_size ho
  refine set_exc0 I2.kIn ho c n fun h' t' hx' hn' hk=>⟨σ,_,?_,q2 s2.heap.objs.size (I2.hok.fresh (Nat.le_refl _))⟩
  obtain ⟨od,es,ep,hod,r⟩:=id hn'
  have hfr:od.isFreed=false:=(Heap.get?_some_iff.mp hod).2
  have hpush:(s2.heap.push od).get? s2.heap.objs.size=some od:=Heap.get?_push_size s2.heap hfr
  have I3:=I2.laid (a:=s2.heap.objs.size) (o := .ext (XdP s2.heap.objs.size [(f,y)])) (h':=s2.heap.push od) (t':=s2.toks) (fun b u z=>Heap.get?_push_of_some _ z) (Nat.le_refl _)
    (xdP_ok ⟨_,hn'.at (fun o z=>by rw [hod] at z; cases z; exact hpush),fun g=>by
      by_cases hg:g=f
      · have hb:(g == f)=true:=beq_iff_eq.mpr hg
        simp only [List.lookup,hb,if_pos hg]
        exact ry
      · have hb:(g == f)=false:=beq_eq_false_iff_ne.mpr hg
        simp only [List.lookup,hb,if_neg hg]
        trivial⟩)
  have hne:a ≠ s2.heap.objs.size:=Nat.ne_of_lt hlt
  refine I3.write (x:=a) (e:=a) (h':=h') (t':=t') (by rw [upd_ne hne,ea]; exact True.intro) (.inl rfl) (fun b u hb z=>?_) ⟨_,hx'⟩ (excAt_ok hx')
  by_cases hbs:b=s2.heap.objs.size
  · subst hbs
    have z':(s2.heap.push od).get? s2.heap.objs.size=some u:=z
    rw [hpush] at z'
    cases z'
    exact hod
  · have z':s2.heap.get? b=some u:=by
      have z0:(s2.heap.push od).get? b=some u:=z
      exact (Heap.get?_push_cases z0).elim (fun w=>absurd w.1 hbs) fun w=>w
    exact hk b u hb z'
theorem ps_fldXb (ha:PE X o ta) (hv:PE X value tv) (hs:swapsWith value (some (.Attribute o f pos')) pos.line X.env=pure false):PS X (.Assign [.Attribute o f pos'] value pos) (sFldXb X.K ta tv f):=by
  intro pins s σ H D I h
  refine plainObj_wpAny_Assign_Attribute (thn (hv pins s σ H _ I h) fun u s1 ⟨y,H1,I1,ry,q⟩=>thn (ha pins s1 σ H1 _ I1 q) fun ov s2 ⟨x,H2,I2,rx,a,C,tt,d,fs,ex,ea,ed,hfl,c,n,q2⟩=>?_) hs
  subst ex
  obtain rfl:ov=Value.ref a:=rx
  have ho:s2.heap.get? a=some (excObj C tt (some d)):=(I2.hok a _ ea).1
  obtain ⟨⟨mA,hn,hr⟩,_⟩:=I2.hok d _ ed
  have hw:PySem.Within mA (fs.map (·.1)):=fun g hg=>by
    have r:=hr g
    cases hl:fs.lookup g with
    | none=>rw [hl] at r; cases hm:mA g with
      | none=>exact absurd hm hg
      | some z=>rw [hm] at r; exact r.elim
    | some z =>
      have:∀ {l:List (Str × V)},l.lookup g=some z→g ∈ l.map (·.1):=by
        intro l
        induction l with
        | nil=>intro h; cases h
        | cons p l ih =>
          intro h
          rw [List.map_cons,List.mem_cons]
          by_cases e:g=p.1
          · exact .inl e
          · have hb:(g == p.1)=false:=beq_eq_false_iff_ne.mpr e
            obtain ⟨p1,p2⟩:=p
            simp only [List.lookup,hb] at h
            exact .inr (ih h)
      exact this hl
  refine set_exc1 I2.kIn ho hn hw (by rw [List.length_map,sizeLine_eq]; omega) c n fun h' t' hn' hk=>⟨σ,_,?_,q2⟩
  refine I2.write (x:=d) (e:=d) (h':=h') (t':=t') (by rw [ed]; exact True.intro) (.inl rfl) (fun b u hb z=>?_) ?_ ⟨_,hn',fun g=>?_⟩
  · exact (hk b hb).trans z
  · obtain ⟨od,_,_,hod,_⟩:=hn'
    exact ⟨od,hod⟩
  · rw [lookup_putF]
    by_cases e:g=f
    · rw [if_pos e]; simp only [if_pos e]; exact ry
    · rw [if_neg e]; simp only [if_neg e]; exact hr g
end
end L2
namespace L2
open PySem
def isOpt:Option Int→Value→Bool
  | none,v=>v == .none
  | some k,v=>Value.isInt k v
def optHash:Option Int→Int
  | none=>4238894112
  | some k=>hashInt k
theorem isOpt_shape {k:Option Int} {v:Value} (h:isOpt k v=true):(k=none∧v = .none)∨∃ i t,k=some i∧v = .int i t:=by
  cases k with
  | none=>exact .inl ⟨rfl,eq_of_beq h⟩
  | some i=>obtain ⟨t,e⟩:=Value.isInt_shape h; exact .inr ⟨i,t,rfl,e⟩
section
variable {prog:Program} {w:World} {A:Around} {E:Value→Shared→Prop} {s:Shared}
theorem hash_none {Q:Int→Shared→Prop} (h:Q 4238894112 { s with toks:=s.toks + 1 }):wpAny (model prog w) A (pyHash .none) Q E s:=by
  have hT:s.TypeIs .none "NoneType":=rfl
  unfold pyHash
  have hv:[Value.none].any Value.onHeap=false:=rfl
  refine wpAny_bind ?_
  rw [cRoomFor,if_neg (by rw [hv]; exact Bool.false_ne_true)]; refine wpAny_pure ?_
  refine wpAny_bind (wpAny_specialOf hT F.slot_NoneType_hash.lookup ?_)
  show wpAny _ _ (if (some (Value.builtin "NoneType.__hash__") == some Value.none)=true then _ else _) Q E s
  rw [if_neg (by rw [beq_builtin_none]; exact Bool.false_ne_true)]
  refine wpAny_bind (wpAny_specialOf hT F.slot_NoneType_hash.lookup ?_)
  show wpAny _ _ (callSpecialIfBoundUnlessNone? .none "__hash__" _ >>= _) Q E s
  refine wpAny_bind (wpAny_callSpecialIfBoundUnlessNone?_slot hT F.slot_NoneType_hash (wpAny_call_entry F.slot_NoneType_hash hT F.entry_NoneType_hash
    (show wpAny _ _ (do ret (← mkInt 4238894112)) _ _ s from wpAny_ret_mkInt ?_) (F.args_NoneType_hash_1 _)))
  exact wpAny_pure h
theorem eq_opt {a b:Option Int} {u v:Value} {Q:Bool→Shared→Prop} (hu:isOpt a u=true) (hv:isOpt b v=true) (h:Q (decide (a=b)) s):wpAny (model prog w) A (PySem.eqBool u v) Q E s:=by
  rcases isOpt_shape hu with ⟨rfl,rfl⟩ | ⟨i,t,rfl,rfl⟩ <;> rcases isOpt_shape hv with ⟨rfl,rfl⟩ | ⟨j,t',rfl,rfl⟩
  · unfold eqBool
    refine wpAny_holding ?_
    refine wpAny_ite_split (fun _=>wpAny_bind (wpAny_rule (wpAny_pure (by simpa using h)))) (fun n=>absurd rfl n)
  · exact PySem.SeqAt.EqAt.none_int j t' prog w E Q (by simpa using h)
  · exact PySem.SeqAt.EqAt.int_none i t prog w E Q (by simpa using h)
  · refine wpAny_eqBool_int ?_
    have e:(i == j)=decide (some i=some j):=by
      by_cases q:i=j
      · simp [q]
      · simp [q]
    rw [e]; exact h
end
def optKind (prog:Program) (w:World):KeyKind prog w (Option Int) where
  is:=isOpt
  hash:=optHash
  inj:=fun v a b ha hb=>by
    rcases isOpt_shape ha with ⟨rfl,rfl⟩ | ⟨i,t,rfl,rfl⟩ <;> rcases isOpt_shape hb with ⟨rfl,e⟩ | ⟨j,t',rfl,e⟩
    · rfl
    · cases e
    · cases e
    · cases e; rfl
  byValue:=fun k v h=>by
    rcases isOpt_shape h with ⟨_,rfl⟩ | ⟨i,t,_,rfl⟩ <;> rfl
  pyHash:=fun {A E s k v Q} hv h=>by
    rcases isOpt_shape hv with ⟨rfl,rfl⟩ | ⟨i,t,rfl,rfl⟩
    · exact hash_none h
    · exact wpAny_pyHash_int h
  eqBool:=fun hu hv h=>eq_opt hu hv h
  «strs»:=fun k x t v h=>by
    rcases isOpt_shape h with ⟨_,e⟩ | ⟨i,t,_,e⟩ <;> cases e
end L2
namespace L2
open PySem PySem.Spec PyProof.Rows
abbrev Oks:=List (Option Int)
def okV:Option Int→V
  | none => .non
  | some i => .int i
abbrev Ent:=Oks × Addr × V
abbrev EntR (p:Ent) (q:Oks × Addr × Value):Prop:=p.1=q.1∧p.2.1=q.2.1∧RelV p.2.2 q.2.2
def DicP (P:Program) (w:World) (a:Addr) (kvs:List Ent):Heap→Prop:=fun h=>kvs.length ≤ sizeLine∧(a == sysModules)=false∧∃ xs,Paired EntR kvs xs ∧
  ∃ o es ep,h.get? a=some o∧o.ExactDict∧o.data = .dict es ep∧es.toList=xs.map (entryOfKey (tupleKind (optKind P w)))∧(xs.map (·.1)).Nodup
def DicO (P:Program) (w:World) (a:Addr) (kvs:List Ent):HO := .ext (DicP P w a kvs)
def DicAt (P:Program) (w:World) (H:Hp) (a:Addr) (kvs:List Ent):Prop:=H a=some (DicO P w a kvs)∧∀ x ∈ kvs,H x.2.1=some (.tup (x.1.map okV))
theorem DicAt.same {P:Program} {w:World} {H H':Hp} {a:Addr} {kvs:List Ent} (h:DicAt P w H a kvs) (s:Same H H'):DicAt P w H' a kvs:=⟨s _ _ h.1,fun x hx=>s _ _ (h.2 x hx)⟩
def valO (kvs:List Ent) (k:Oks):Option V:=(kvs.find? fun x=>decide (x.1=k)).map (·.2.2)
def putE (k:Oks) (v:V) (x:Ent):Ent:=if x.1=k then (x.1,x.2.1,v) else x
def putO (kvs:List Ent) (k:Oks) (b:Addr) (v:V):List Ent:=if (valO kvs k).isSome then kvs.map (putE k v) else kvs ++ [(k,b,v)]
theorem valO_nil {k:Oks}:valO [] k=none:=rfl
theorem valO_cons {x:Ent} {kvs:List Ent} {k:Oks}:valO (x :: kvs) k=if x.1=k then some x.2.2 else valO kvs k:=by
  unfold valO
  rw [List.find?_cons]
  by_cases h:x.1=k
  · rw [decide_eq_true h,if_pos h]; rfl
  · rw [decide_eq_false h,if_neg h]
theorem valO_map {kvs:List Ent} {k k':Oks} {v:V}:valO (kvs.map (putE k v)) k' = if k' = k then (valO kvs k).map (fun _=>v) else valO kvs k':=by
  induction kvs with
  | nil=>rw [List.map_nil,valO_nil,valO_nil]; split <;> rfl
  | cons x kvs ih =>
    rw [List.map_cons,valO_cons,ih,valO_cons,valO_cons]
    unfold putE
    by_cases h:x.1=k <;> by_cases h':k' = k
    · have:x.1=k':=h.trans h'.symm
      simp [h,h']
    · have:¬ x.1=k':=fun z=>h' (z.symm.trans h)
      rw [if_pos h,if_neg h',if_neg this,if_neg this,if_neg h']
    · subst h'
      simp [h]
    · simp [h,h']
theorem valO_append {kvs:List Ent} {k k':Oks} {b:Addr} {v:V} (h:valO kvs k=none):valO (kvs ++ [(k,b,v)]) k' = if k' = k then some v else valO kvs k':=by
  induction kvs with
  | nil =>
    rw [List.nil_append,valO_cons,valO_nil]
    by_cases e:k' = k
    · rw [if_pos e,if_pos e.symm]
    · rw [if_neg e,if_neg (Ne.symm e)]
  | cons x kvs ih =>
    rw [valO_cons] at h
    by_cases hx:x.1=k
    · rw [if_pos hx] at h; cases h
    · rw [if_neg hx] at h
      rw [List.cons_append,valO_cons,ih h,valO_cons]
      by_cases e:k' = k
      · subst e; rw [if_neg hx,if_pos rfl,if_pos rfl]
      · rw [if_neg e,if_neg e]
theorem valO_put {kvs:List Ent} {k k':Oks} {b:Addr} {v:V}:valO (putO kvs k b v) k' = if k' = k then some v else valO kvs k':=by
  unfold putO
  cases h:valO kvs k with
  | none=>rw [if_neg (by simp)]; exact valO_append h
  | some u =>
    rw [if_pos (by simp),valO_map,h]; rfl
theorem putO_length {kvs:List Ent} {k:Oks} {b:Addr} {v:V}:(putO kvs k b v).length ≤ kvs.length + 1:=by
  unfold putO
  split
  · rw [List.length_map]; omega
  · rw [List.length_append]; exact Nat.le_refl _
theorem putO_keys {kvs:List Ent} {k:Oks} {b:Addr} {v:V} {F:Oks→Addr→Prop} (h:∀ x ∈ kvs,F x.1 x.2.1) (hk:F k b):∀ x ∈ putO kvs k b v,F x.1 x.2.1:=by
  intro x hx
  unfold putO at hx
  split at hx
  · obtain ⟨y,hy,rfl⟩:=List.mem_map.mp hx
    unfold putE
    split
    · exact h y hy
    · exact h y hy
  · rcases List.mem_append.mp hx with q | q
    · exact h x q
    · rw [List.mem_singleton.mp q]; exact hk
theorem ent_val {kvs:List Ent} {xs:List (Oks × Addr × Value)} (r:Paired EntR kvs xs) (k:Oks):RelO (valO kvs k) ((atKey xs k).map (·.2)):=by
  induction r with
  | nil=>exact True.intro
  | @cons p q _ _ h1 _ ih =>
    rw [valO_cons]
    unfold atKey at ih ⊢
    rw [List.find?_cons]
    by_cases e:p.1=k
    · rw [if_pos e,decide_eq_true (h1.1.symm.trans e)]; exact h1.2.2
    · rw [if_neg e,decide_eq_false (fun z=>e (h1.1.trans z))]; exact ih
theorem relO_isSome {o:Option V} {u:Option Value} (r:RelO o u):o.isSome=u.isSome:=by
  cases o <;> cases u <;> first | rfl | exact r.elim
theorem relO_getD {o:Option V} {u:Option Value} {d:V} {r:Value} (h:RelO o u) (hd:RelV d r):RelV (o.getD d) (u.getD r):=by
  cases o <;> cases u <;> first | exact hd | exact h | exact h.elim
theorem ent_map {kvs:List Ent} {xs:List (Oks × Addr × Value)} {k:Oks} {v:V} {u:Value} (r:Paired EntR kvs xs) (hv:RelV v u):Paired EntR (kvs.map (putE k v)) (xs.map (putAt k u)):=by
  induction r with
  | nil=>exact .nil
  | @cons p q _ _ h1 _ ih =>
    refine .cons ?_ ih
    unfold putE putAt
    by_cases e:p.1=k
    · rw [if_pos e,if_pos (h1.1.symm.trans e)]; exact ⟨h1.1,h1.2.1,hv⟩
    · rw [if_neg e,if_neg (fun z=>e (h1.1.trans z))]; exact h1
theorem ent_snoc {kvs:List Ent} {xs:List (Oks × Addr × Value)} {p:Ent} {q:Oks × Addr × Value} (r:Paired EntR kvs xs) (h:EntR p q):Paired EntR (kvs ++ [p]) (xs ++ [q]):=by
  induction r with
  | nil=>exact .cons h .nil
  | cons h1 _ ih=>exact .cons h1 ih
theorem ent_put {kvs:List Ent} {xs:List (Oks × Addr × Value)} {k:Oks} {b:Addr} {v:V} {u:Value} (r:Paired EntR kvs xs) (hv:RelV v u):Paired EntR (putO kvs k b v) (storedH xs k b u):=by
  have h:=relO_isSome (ent_val r k)
  rw [Option.isSome_map] at h
  unfold putO storedH
  rw [h]
  split
  · exact ent_map r hv
  · exact ent_snoc r ⟨rfl,rfl,hv⟩
section
variable {P:Program} {w:World} {H:Hp} {h:Heap} {a b:Addr} {kvs:List Ent} {k:Oks}
theorem opt_items:∀ {k:Oks} {us:List Value},Vals (k.map okV) us→ItemsAre (optKind P w) k us
  | [],_, .nil => .nil
  | none :: _,_, .cons r t => .cons (by have e:_=Value.none:=r; subst e; rfl) (opt_items t)
  | some i :: _,_, .cons r t => .cons (by obtain ⟨tk,e⟩:=(show ∃ t,_=Value.int i t from r); subst e; exact beq_self_eq_true i) (opt_items t)
theorem opt_key (ok:HOk P w H h) (e:H b=some (.tup (k.map okV))):(tupleKind (optKind P w)).is h k b:=by
  obtain ⟨_,its,r,o,ho,⟨hc,n,hd⟩,_⟩:=ok _ _ e
  exact ⟨o,its.toArray,n,ho,hc,hd,opt_items r⟩
theorem dicO_of (ok:HOk P w H h) (e:DicAt P w H a kvs):kvs.length ≤ sizeLine∧(a == sysModules)=false∧∃ xs,Paired EntR kvs xs∧h.DictOfH (tupleKind (optKind P w)) a xs:=by
  obtain ⟨e,ek⟩:=e
  obtain ⟨⟨z,hs,xs,r,o,es,ep,h1,h2,h3,h4,h5⟩,_⟩:=ok _ _ e
  refine ⟨z,hs,xs,r,o,es,ep,h1,h2,h3,h4,?_,h5⟩
  have all:∀ {kvs:List Ent} {xs:List (Oks × Addr × Value)},Paired EntR kvs xs→(∀ x ∈ kvs,H x.2.1=some (.tup (x.1.map okV)))→∀ x ∈ xs,(tupleKind (optKind P w)).is h x.1 x.2.1:=by
    intro kvs xs r
    induction r with
    | nil=>intro _ x hx; cases hx
    | @cons p q _ _ h1 _ ih =>
      intro hk x hx
      rcases List.mem_cons.mp hx with rfl | hx
      · have:=hk p List.mem_cons_self
        rw [h1.1,h1.2.1] at this
        exact opt_key ok this
      · exact ih (fun y hy=>hk y (List.mem_cons_of_mem _ hy)) x hx
  exact all r ek
theorem dicO_stab (h1 h2:Heap) (p:DicP P w a kvs h1) (st:∀ o,h1.get? a=some o→h2.get? a=some o):DicP P w a kvs h2:=by
  obtain ⟨z,hs,xs,r,o,es,ep,q,c⟩:=p
  exact ⟨z,hs,xs,r,o,es,ep,st _ q,c⟩
theorem dicO_new (hb:sysModules < h.objs.size):ObjOk P w H (h.push { cls := .type "dict",data := .dict #[] }) h.objs.size (DicO P w h.objs.size []) :=
  ⟨⟨Nat.zero_le _,beq_eq_false_iff_ne.mpr (Ne.symm (Nat.ne_of_lt hb)),[], .nil,_,#[],0,Heap.get?_push_size _ rfl,⟨rfl,rfl,rfl⟩,rfl,rfl,List.nodup_nil⟩,⟨_,Heap.get?_push_size _ rfl⟩,fun _ _=>dicO_stab _ _⟩
end
def OGet (P:Program) (w:World) (H:Hp) (a:Addr) (y:V) (r:Option V):Prop:=∃ kvs k b,DicAt P w H a kvs∧y = .ref b∧H b=some (.tup (k.map okV))∧r=valO kvs k
section
variable {X:Cx} {pins:List (Addr × Obj)} {σ:St} {H:Hp} {s:Shared} {a b:Addr} {y v d:V} {u r:Value} {o:Option V} {A:Around} {E:Value→Shared→Prop}
theorem big_of (I:Inv X pins σ H s):sysModules < s.heap.objs.size :=
  Nat.lt_trans (by decide) (show mainGlobals < s.heap.objs.size from (I.mod.glob.keeps I.bk).lt)
theorem o_in {Q:Value→Shared→Prop} (hu:A.units + 1 < cLine) (I:Inv X pins σ H s) (g:OGet X.prog X.w H a y o) (ry:RelV y u) (h:∀ s',Inv X pins σ H s'→Q (.bool o.isSome) s') :
    wpAny (model X.prog X.w) A (compareOp .In u (.ref a)) Q E s:=by
  obtain ⟨kvs,k,b,e,rfl,eb,rfl⟩:=g
  cases (show u=Value.ref b from ry)
  obtain ⟨_,hd,xs,rel,dd⟩:=dicO_of I.hok e
  refine wpAny_in_heap (tupleKind_room_in1 hu) (opt_key I.hok eb) hd dd ?_
  have q:=relO_isSome (ent_val rel k)
  rw [Option.isSome_map] at q
  rw [← q]
  exact h _ (I.tok _)
theorem o_get2 {Q:Value→Shared→Prop} (hu:A.units + 1 < cLine) (I:Inv X pins σ H s) (g:OGet X.prog X.w H a y o) (ry:RelV y u) (rd:RelV d r) (h:∀ w' s',Inv X pins σ H s'→RelV (o.getD d) w'→Q w' s') :
    wpAny (model X.prog X.w) A (call (.builtin "dict.get") [.ref a,u,r]) Q E s:=by
  obtain ⟨kvs,k,b,e,rfl,eb,rfl⟩:=g
  cases (show u=Value.ref b from ry)
  obtain ⟨_,hd,xs,rel,dd⟩:=dicO_of I.hok e
  exact call_meetsIn PySem.F.slot_dict_get dd.typeIs PySem.F.entry_dict_get (PySem.F.args_dict_get_3 _ _ _) (meetsH_dict_get_default (tupleKind (optKind X.prog X.w)) a b hd r)
    ⟨tupleKind_room_in1 hu,k,xs,opt_key I.hok eb,dd,h _ _ (I.tok _) (relO_getD (ent_val rel k) rd)⟩
theorem o_set {kvs:List Ent} {k:Oks} {Q:Unit→Shared→Prop} (hu:A.units + 1 < cLine) (I:Inv X pins σ H s) (e:DicAt X.prog X.w H a kvs) (eb:H b=some (.tup (k.map okV))) (hl:kvs.length < sizeLine) (rv:RelV v r)
    (h:∀ s',Inv X pins σ (upd H a (DicO X.prog X.w a (putO kvs k b v))) s'→Q () s'):wpAny (model X.prog X.w) A (setItem (.ref a) (.ref b) r) Q E s:=by
  obtain ⟨z,hd,xs,rel,dd⟩:=dicO_of I.hok e
  have hz:xs.length ≤ sizeLine:=by rw [← Paired.length rel]; exact z
  have hl':(putO kvs k b v).length ≤ sizeLine:=Nat.le_trans putO_length hl
  refine wpAny_setItem_heap (hsz:=hz) (tupleKind_room_in1 hu) (opt_key I.hok eb) dd fun h' dd' hs=>h _ ?_
  obtain ⟨q,es,ep,hq,h2,h3,h4,_,h5⟩:=dd'
  exact I.write (x:=a) (e:=a) (by rw [e.1]; exact True.intro) (.inl rfl) (fun c q hc z=>(hs.2 c hc).trans z) ⟨q,hq⟩
    ⟨⟨hl',hd,_,ent_put rel rv,q,es,ep,hq,h2,h3,h4,h5⟩,⟨q,hq⟩,fun _ _=>dicO_stab _ _⟩
theorem dicO_type {kvs:List Ent} (I:Inv X pins σ H s) (e:DicAt X.prog X.w H a kvs):s.TypeIs (.ref a) "dict"∧∀ b,Value.ref a = .ref b→∃ ob,s.heap.get? b=some ob∧ob.dict=none:=by
  obtain ⟨_,_,xs,_,dd⟩:=dicO_of I.hok e
  refine ⟨dd.typeIs,fun b q=>?_⟩
  cases q
  obtain ⟨ob,_,_,h1,h2,_⟩:=dd
  exact ⟨ob,h1,h2.2.1⟩
end
def tONew (P:Program) (w:World):TE:=fun _ H Q=>∀ p,H p=none→Q (.ref p) (upd H p (DicO P w p []))
def tOIn (P:Program) (w:World) (ty td:TE):TE:=fun σ H Q=>ty σ H fun y H1=>td σ H1 fun x H2=>∃ a o,x = .ref a∧OGet P w H2 a y o∧Q (.bl o.isSome) H2
def tONotIn (P:Program) (w:World) (ty td:TE):TE:=fun σ H Q=>ty σ H fun y H1=>td σ H1 fun x H2=>∃ a o,x = .ref a∧OGet P w H2 a y o∧Q (.bl (!o.isSome)) H2
def sOPut (P:Program) (w:World) (td ty tv:TE):TS:=fun D σ H=>tv σ H fun v H1=>td σ H1 fun x H2=>ty σ H2 fun y H3=>∃ a kvs k b,x = .ref a∧DicAt P w H3 a kvs∧y = .ref b∧H3 b=some (.tup (k.map okV))∧kvs.length < sizeLine∧D.nx σ (upd H3 a (DicO P w a (putO kvs k b v)))
def tOGet2 (P:Program) (w:World) (td:TE) (t:TA):TE:=fun σ H Q=>td σ H fun x H1=>∃ a kvs,x = .ref a∧DicAt P w H1 a kvs∧t σ H1 fun xs H2=>∃ y z o,xs=[y,z]∧OGet P w H2 a y o∧Q (o.getD z) H2
section
variable {X:Cx} {o i e f value:Expr} {pos pos' apos cpos:Pos} {td ty tv tx:TE}
theorem pe_onew:PE X (.Dict [] [] pos) (tONew X.prog X.w):=fun pins s σ H Q I h =>
  wpAny_Dict_empty ⟨.ref s.heap.objs.size,_,I.laid (a:=s.heap.objs.size) (o:=DicO X.prog X.w s.heap.objs.size []) (t':=s.toks) (fun _ _ q=>Heap.get?_push_of_some _ q) (Nat.le_refl _) (dicO_new (big_of I)),rfl,h _ (I.hok.fresh (Nat.le_refl _))⟩
theorem pc_oin (hu:X.A.units + 1 < cLine) (hi:PE X i ty) (ho:PE X o td):PC X .In i o (tOIn X.prog X.w ty td):=by
  intro pins s σ H Q I h
  refine thn (hi pins s σ H _ I h) fun iv s1 ⟨y,H1,I1,ry,q1⟩=>thn (ho pins s1 σ H1 _ I1 q1) fun u s2 ⟨x,H2,I2,rx,a,ov,ex,g,q2⟩=>?_
  subst ex
  obtain rfl:u=Value.ref a:=rx
  exact o_in hu I2 g ry fun s3 I3=>⟨.bl ov.isSome,H2,I3,rfl,q2⟩
theorem ps_oput (hu:X.A.units + 1 < cLine) (ho:PE X o td) (hi:PE X i ty) (hv:PE X value tv) (hs:swapsWith value (some (.Subscript o i pos')) pos.line X.env=pure false) :
    PS X (.Assign [.Subscript o i pos'] value pos) (sOPut X.prog X.w td ty tv):=by
  intro pins s σ H D I h
  refine wpAny_Assign_Subscript (thn (hv pins s σ H _ I h) fun r s1 ⟨v,H1,I1,rv,q1⟩=>thn (ho pins s1 σ H1 _ I1 q1) fun u s2 ⟨x,H2,I2,rx,q2⟩=>thn (hi pins s2 σ H2 _ I2 q2) fun iv s3 ⟨y,H3,I3,ry,a,kvs,k,b,ex,e,ey,eb,hl,q3⟩=>?_) hs
  subst ex ey
  obtain rfl:u=Value.ref a:=rx
  obtain rfl:iv=Value.ref b:=ry
  exact o_set hu I3 e eb hl rv fun s4 I4=>⟨σ,_,I4,q3⟩
theorem pe_oget2 {es:List Expr} {t:TA} (hu:X.A.units + 1 < cLine) (ho:PE X o td) (ha:PA X (e :: es) t)
    (h1:attributeBase o "get" X.env (eval o X.env)=eval o X.env:=by rfl)
    (h2:((backTo cpos (starEach (e :: es) X.env)).all (fun x=>!x.1) && (backToKw cpos (keywordEach [] X.env)).all (fun x=>x.1.isSome) && decide ((e :: es).length + ([]:List Keyword).length + (if ([]:List Keyword).isEmpty then 0 else 1) < 30))=true:=by rfl)
    (h3:(apos.endLine == cpos.line)=true:=by rfl) (h4:starEach (e :: es) X.env=(false,eval e X.env) :: starEach es X.env:=by rfl) (h5:(backTo cpos (starEach es X.env)).any (·.1)=false:=by rfl) :
    PE X (.Call (.Attribute o "get" apos) (e :: es) [] cpos) (tOGet2 X.prog X.w td t):=by
  intro pins s σ H Q I h
  refine wpAny_Call_method_late h1 h2 h3 rfl (thn (ho pins s σ H _ I h) fun v s1 ⟨x,H1,I1,r1,a,kvs,ex,e1,q1⟩=>?_)
  subst ex
  obtain rfl:v=Value.ref a:=r1
  obtain ⟨t1,t2⟩:=dicO_type I1 e1
  refine ⟨"dict", "dict.get",PySem.F.plainAttrs_dict,PySem.F.slot_dict_get,PySem.F.type_dict_get,t1,t2,?_⟩
  have hA:=ha cpos pins s1 σ H1 _ I1 q1
  rw [h4] at hA ⊢
  refine Calls.callWith_builtin (by show (false || (backTo cpos (starEach es X.env)).any (·.1))=false; rw [h5] <;> rfl) (Calls.evalArgs_plain ?_)
  refine thn hA fun us s2 ⟨vs,H2,I2,r2,y,z,ov,evs,g,q2⟩=>?_
  subst evs
  cases r2 with
  | cons ry r2=>cases r2 with
    | cons rz r2=>cases r2 with
      | nil=>exact o_get2 hu I2 g ry rz fun w' s4 I4 rw'=>⟨_,H2,I4,rw',q2⟩
end
end L2
namespace L2
open PySem PySem.Spec PyProof.Rows
structure CMeth (K:PySem.W.Frag) (C:Addr) (m:Str) (f:Addr):Prop where
  reads:PySem.W.readsIn K C (.type "type")=true
  found:PySem.W.findCls K (.ref C) (.type "type") m=some (.val (.ref f))
  spec:PySem.W.specialIn K (.ref C) "__getattribute__" = some (some (.builtin "type.__getattribute__"))
  kp:PySem.W.keepIn K (.ref f)=true
def tCMeth (C:Addr) (sp:Sp) (dvs:List V) (E:XK) (ta:TE) (t:TA):TE:=fun σ H Q=>ta σ H fun x H1=>x = .ref C∧t σ H1 fun vs H2=>sp (vs ++ dvs) H2 Q E
section
variable {X:Cx} {CX:CXT} {k:Nat} {f C:Addr} {fd:FuncData} {ps:List Str} {sp:Sp} {dvs:List V} {ds:List Value} {E:XK} {x m:Str} {p pos apos:Pos} {e o:Expr} {es:List Expr} {ta:TE} {t:TA}
theorem pe_cmeth {pl:Sem Bool} (he:PE X o ta) (hm:CMeth X.K C m f) (F:FnOk X.prog X.w X.K X.mg X.base CX k f fd ps sp) (hr:Room k X.A) (hb:Binds X.K fd ps ds) (hd:Vals dvs ds) (hx:Passes CX X E) (ha:PA X (e :: es) t)
    (h1:starEach (e :: es) X.env=(false,eval e X.env) :: starEach es X.env:=by rfl) (h2:(backTo pos (starEach es X.env)).any (·.1)=false:=by rfl)
    (ht:eval (.Call (.Attribute o m apos) (e :: es) [] pos) X.env=(do
      let ov ← eval o X.env
      standAt apos.atName
      let (f,first) ← holding [ov] (getMethod ov m pl)
      callWith pos f first (backTo pos (starEach (e :: es) X.env)) (backToKw pos (keywordEach [] X.env))):=by rfl) :
    PE X (.Call (.Attribute o m apos) (e :: es) [] pos) (tCMeth C sp dvs E ta t):=by
  intro pins s σ H Q I h
  refine PySem.W.methodCall_KW (pl:=pl) (thn (he pins s σ H _ I h) fun u s1 ⟨x,H1,I1,rx,ex,q⟩=>?_) ht
  subst ex
  obtain rfl:u=Value.ref C:=rx
  refine PySem.W.method_cls I1.kIn hm.spec (PySem.W.cls_value I1.kIn hm.reads hm.found rfl ?_)
  refine PySem.W.callWith_K (first:=[]) (h₀:=X.base) I.ok.mod.kin hm.kp (thn (ha pos pins _ σ H1 _ (I1.tok _) q) fun us s2 ⟨vs,H2,I2,r,q2⟩=>⟨I2.kIn,?_⟩) h1 h2
  exact run_fn F hr hb hd hx I2 r q2
end
section
variable {X:Cx}
def rIsXs (X:Cx):List V→Hp→VK→Prop:=fun xs H Q=>∃ ea oe tp cs cvs C vs b,xs=[.ref ea, .ref tp]∧H tp=some (.tup cs)∧Paired ValC cs cvs∧(ea,oe) ∈ X.pn∧oe.cls = .ref C∧oe.data = .fields vs∧DictAt H oe.dict∧XCls X.K C∧XIsi X.K C∧PySem.W.kitAny X.K (.ref C) cvs=some b∧Q (.bl b) H
end
end L2
namespace L2
open PySem PySem.Spec PyProof.Rows
def Itv (K:PySem.W.Frag) (a:Addr) (n:Nat):It :=
  ⟨fun i H=>∃ xs x,SqL K H a xs∧xs.length=n∧i < n∧xs[n - 1 - i]? = some x,fun i H x H'=>H' = H∧∀ xs,SqL K H a xs→xs[n - 1 - i]? = some x,fun i _=>i=n⟩
section
variable {X:Cx} {tg:Expr}
def iRev (K:PySem.W.Frag) (ta:TA):TI:=fun σ H R=>ta σ H fun vs H1=>∃ a xs,vs=[.ref a]∧SqL K H1 a xs∧R (Itv K a xs.length) H1
def rLIx:V→List V→Hp→VK→Prop:=fun x vs H Q=>∃ (l:Addr) (ns:List Int) (k:Int),x = .ref l∧vs=[.int k]∧H l=some (.lst (ns.map V.int))∧k ∈ ns∧ns.length ≤ 100000∧Q (.int (ns.idxOf k:Nat)) H
theorem mt_lindex:MtR X "list.index" rLIx:=by
  intro pins s σ H x vs v us Q I rx rv h
  obtain ⟨l,ns,k,rfl,rfl,hH,hk,hlen,q⟩:=h
  cases rx
  obtain ⟨u,rfl,ru⟩:=rv.one
  obtain ⟨t,rfl⟩:=ru
  obtain ⟨z,its,n,r,hl,e⟩:=I.lstM hH
  have hi:IntsAre its.toArray.toList ns:=intsAre_of r
  have hlen':its.length=ns.length:=by rw [← r.length,List.length_map]
  have hj:ns.idxOf k < ns.length:=List.idxOf_lt_length_of_mem hk
  have at_:∀ m (hm:m < its.toArray.size),∃ t,its.toArray[m]=Value.int (ns[m]'(by simpa [hlen'] using hm)) t:=fun m hm=>by
    have hm':m < its.length:=by simpa using hm
    have hv:(ns.map V.int)[m]? = some (V.int (ns[m]'(by omega))):=by simp [show m < ns.length by omega]
    obtain ⟨w',hw,rw'⟩:=r.get hv
    obtain ⟨t',rfl⟩:=rw'
    refine ⟨t',?_⟩
    have:its[m]? = some its[m]:=List.getElem?_eq_getElem hm'
    rw [this] at hw
    simpa using Option.some.inj hw
  let e':Value→Bool:=fun y=>Value.isInt k y
  refine call_meets PySem.F.slot_list_index ⟨_,e,rfl⟩ PySem.F.entry_list_index (PySem.F.args_list_index_2 _ _)
    (SeqAt.list_indexAt l its.toArray n none #[] (.int k t) e' (ns.idxOf k) (by simpa [hlen'] using hj) (by omega) ?_ ?_) ⟨e,fun y hy=>?_,?_⟩
  · obtain ⟨t',et⟩:=at_ (ns.idxOf k) (by simpa [hlen'] using hj)
    show Value.isInt k (its.toArray[ns.idxOf k]'(by simpa [hlen'] using hj))=true
    rw [et,List.getElem_idxOf]
    simp [Value.isInt]
  · intro m hm hmj
    obtain ⟨t',et⟩:=at_ m hm
    show Value.isInt k its.toArray[m]=false
    rw [et]
    have hne:ns[m]'(by simpa [hlen'] using hm) ≠ k:=fun z=>by
      have:=List.not_of_lt_findIdx (p:=fun x=>x == k) (xs:=ns) (i:=m) hmj
      rw [z] at this
      simp at this
    simp only [Value.isInt,beq_eq_false_iff_ne,ne_eq]
    first | exact hne | exact fun z=>hne z.symm
  · have hm:y ∈ its:=by simpa using hy
    obtain ⟨m,hm',em⟩:=List.getElem_of_mem hm
    obtain ⟨t',et⟩:=at_ m (by simpa using hm')
    have ey:y=Value.int (ns[m]'(by omega)) t':=by rw [← em]; simpa using et
    subst ey
    intro prog w E Q' hQ'
    refine wpAny_eqBool_int ?_
    have:(ns[m]'(by omega) == k)=Value.isInt k (Value.int (ns[m]'(by omega)) t'):=by simp [Value.isInt,Bool.beq_comm]
    rw [this]
    exact hQ'
  · exact ⟨.int (ns.idxOf k:Nat),H,I.tok _,⟨_,rfl⟩,q⟩
def rIsV (K:PySem.W.Frag):List V→Hp→VK→Prop:=fun xs H Q=>∃ (v:V) (t:Value) (c:String) (b:Bool),xs=[v, .ty c]∧TyOf K H v t∧PySem.W.kitOne K t (.type c)=some b∧Q (.bl b) H
theorem call_isV:CallR X (.builtin "isinstance") (rIsV X.K):=by
  intro pins s σ H xs us Q I r h
  obtain ⟨v,t,c,b,rfl,ty,hk,q⟩:=h
  cases r with
  | cons r1 r2=>cases r2 with
    | cons r2 r3 =>
      cases r3
      cases r2
      exact isinst_ok I r1 ty hk fun tk=>⟨.bl b,H,I.tok _,rfl,q⟩
end
end L2
namespace L2
open PySem PySem.Spec PyProof.Rows
section
variable {κ:Type} [DecidableEq κ]
def valV (kvs:List (κ × V)) (k:κ):Option V:=(kvs.find? fun kv=>decide (kv.1=k)).map (·.2)
def putK (kvs:List (κ × V)) (k:κ) (v:V):List (κ × V) :=
  if (kvs.any fun kv=>decide (kv.1=k))=true then kvs.map (fun kv=>if kv.1=k then (kv.1,v) else kv) else kvs ++ [(k,v)]
def dropK (kvs:List (κ × V)) (k:κ):List (κ × V):=kvs.filter fun kv=>decide (kv.1 ≠ k)
end
abbrev KT (H:Hp):List (List Key × V)→List (List Key × Addr × Value)→Prop:=Paired fun p q=>p.1=q.1∧H q.2.1=some (.tup (p.1.map kV))∧RelV p.2 q.2.2
section
variable {P:Program} {w:World} {H:Hp} {h:Heap} {a:Addr}
end
def DGet (H:Hp) (a:Addr) (y:V) (r:Option V):Prop :=
  (∃ kvs k,Rd H a (.dK kvs)∧y=kV k∧r=valV kvs k)∨∃ kvs k b,Rd H a (.dT kvs)∧y = .ref b∧H b=some (.tup (k.map kV))∧r=valV kvs k
def DPut (H:Hp) (a:Addr) (y v:V) (H':Hp):Prop :=
  (∃ kvs k,H a=some (.dK kvs)∧y=kV k∧kvs.length < sizeLine∧H' = upd H a (.dK (putK kvs k v))) ∨
  ∃ kvs k b,H a=some (.dT kvs)∧y = .ref b∧H b=some (.tup (k.map kV))∧kvs.length < sizeLine∧H' = upd H a (.dT (putK kvs k v))
section
variable {X:Cx} {pins:List (Addr × Obj)} {σ:St} {H:Hp} {s:Shared} {a:Addr} {y v:V} {u r:Value} {o:Option V} {A:Around} {E:Value→Shared→Prop}
end
section
variable {X:Cx} {pins:List (Addr × Obj)} {σ:St} {H:Hp} {s:Shared} {a:Addr} {kvs:List (Key × V)} {k:Key} {u:Value} {A:Around} {E:Value→Shared→Prop}
end
def NoSl (i:Expr):Prop:=∀ ov iv,subscripted i false ov iv=operate [ov,iv] (getItem ov iv)
def tDGet (td ty:TE):TE:=fun σ H Q=>td σ H fun x H1=>ty σ H1 fun y H2=>∃ a v,x = .ref a∧DGet H2 a y (some v)∧Q v H2
def tDIn (ty td:TE):TE:=fun σ H Q=>ty σ H fun y H1=>td σ H1 fun x H2=>∃ a o,x = .ref a∧DGet H2 a y o∧Q (.bl o.isSome) H2
def tDNotIn (ty td:TE):TE:=fun σ H Q=>ty σ H fun y H1=>td σ H1 fun x H2=>∃ a o,x = .ref a∧DGet H2 a y o∧Q (.bl (!o.isSome)) H2
def sDPut (td ty tv:TE):TS:=fun D σ H=>tv σ H fun v H1=>td σ H1 fun x H2=>ty σ H2 fun y H3=>∃ a H4,x = .ref a∧DPut H3 a y v H4∧D.nx σ H4
def sDAug (td ty tv:TE) (rd:V→V→Hp→VK→Prop):TS:=fun D σ H=>td σ H fun x H1=>ty σ H1 fun y H2=>∃ a v,x = .ref a∧DGet H2 a y (some v) ∧
  tv σ H2 fun y2 H3=>rd v y2 H3 fun z H4=>∃ H5,DPut H4 a y z H5∧D.nx σ H5
def sDDel (td ty:TE):TS:=fun D σ H=>td σ H fun x H1=>ty σ H1 fun y H2=>∃ a kvs k,x = .ref a∧H2 a=some (.dK kvs)∧y=kV k∧(valV kvs k).isSome=true∧D.nx σ (upd H2 a (.dK (dropK kvs k)))
section
variable {X:Cx} {o i e value:Expr} {pos pos' tpos:Pos} {td ty tv:TE}
end
def tDNewK:TE:=fun _ H Q=>∀ p,H p=none→Q (.ref p) (upd H p (.dK []))
def tDNewT:TE:=fun _ H Q=>∀ p,H p=none→Q (.ref p) (upd H p (.dT []))
section
variable {X:Cx} {pos:Pos}
end
def tPairs:List (TE × TE)→St→Hp→(List (V × V)→Hp→Prop)→Prop
  | [],_,H,Q=>Q [] H
  | (tk,tv) :: r,σ,H,Q=>tk σ H fun x H1=>tv σ H1 fun y H2=>tPairs r σ H2 fun ps H3=>Q ((x,y) :: ps) H3
abbrev VV:List (V × V)→List (Value × Value)→Prop:=Paired fun p q=>RelV p.1 q.1∧RelV p.2 q.2
def PPs (X:Cx) (pos:Pos) (keys:List (Option Expr)) (values:List Expr) (trs:List (TE × TE)):Prop :=
  ∀ (pins:List (Addr × Obj)) (s:Shared) (σ:St) (H:Hp) (Q:List (V × V)→Hp→Prop),Inv X pins σ H s→tPairs trs σ H Q →
    wpAny (model X.prog X.w) X.A (evalPairs (pairTrees keys values X.env pos)) (fun vs s'=>∃ ps H',Inv X pins σ H' s'∧VV ps vs∧Q ps H') X.xe s
def mergeK (kvs more:List (Key × V)):List (Key × V):=more.foldl (fun acc kv=>putK acc kv.1 kv.2) kvs
def tDisp (trs:List (TE × TE)):TE:=fun σ H Q=>∀ p,H p=none→tPairs trs σ (upd H p (.dK [])) fun ps H2=>H2 p=some (.dK [])∧∃ kvs:List (Key × V),ps=kvs.map (fun kv=>(kV kv.1,kv.2))∧kvs.length ≤ 15∧Q (.ref p) (upd H2 p (.dK (mergeK [] kvs)))
structure M1 (X:Cx) (o:Expr) (m:Str) (apos:Pos) (e:Expr) (cpos:Pos):Prop where
  base:attributeBase o m X.env (eval o X.env)=eval o X.env
  few:((backTo cpos (starEach [e] X.env)).all (fun x=>!x.1) && (backToKw cpos (keywordEach [] X.env)).all (fun x=>x.1.isSome)
    && decide (([e]:List Expr).length + ([]:List Keyword).length + (if ([]:List Keyword).isEmpty then 0 else 1) < 30))=true
  line:(apos.endLine == cpos.line)=true
  trees:backTo cpos (starEach [e] X.env)=[(false,eval e X.env)]
structure M2 (X:Cx) (o:Expr) (m:Str) (apos:Pos) (e f:Expr) (cpos:Pos):Prop where
  base:attributeBase o m X.env (eval o X.env)=eval o X.env
  few:((backTo cpos (starEach [e,f] X.env)).all (fun x=>!x.1) && (backToKw cpos (keywordEach [] X.env)).all (fun x=>x.1.isSome)
    && decide (([e,f]:List Expr).length + ([]:List Keyword).length + (if ([]:List Keyword).isEmpty then 0 else 1) < 30))=true
  line:(apos.endLine == cpos.line)=true
  trees:backTo cpos (starEach [e,f] X.env)=[(false,eval e X.env),(false,eval f X.env)]
def IsD (H:Hp) (a:Addr):Prop:=(∃ kvs,Rd H a (.dK kvs))∨∃ kvs,Rd H a (.dT kvs)
section
variable {X:Cx} {pins:List (Addr × Obj)} {σ:St} {H:Hp} {s:Shared} {a:Addr} {y d:V} {u r:Value} {o:Option V} {A:Around} {E:Value→Shared→Prop}
end
def tDGet1 (td ty:TE):TE:=fun σ H Q=>td σ H fun x H1=>∃ a,x = .ref a∧IsD H1 a∧ty σ H1 fun y H2=>∃ o,DGet H2 a y o∧Q (o.getD .non) H2
def tDGet2 (td ty tx:TE):TE:=fun σ H Q=>td σ H fun x H1=>∃ a,x = .ref a∧IsD H1 a∧ty σ H1 fun y H2=>tx σ H2 fun z H3=>∃ o,DGet H3 a y o∧Q (o.getD z) H3
def tDPop1 (td ty:TE):TE:=fun σ H Q=>td σ H fun x H1=>∃ a,x = .ref a∧IsD H1 a∧ty σ H1 fun y H2=>∃ kvs k v,H2 a=some (.dK kvs)∧y=kV k∧valV kvs k=some v∧Q v (upd H2 a (.dK (dropK kvs k)))
def tDPop2 (td ty tx:TE):TE:=fun σ H Q=>td σ H fun x H1=>∃ a,x = .ref a∧IsD H1 a∧ty σ H1 fun y H2=>tx σ H2 fun z H3=>∃ kvs k,H3 a=some (.dK kvs)∧y=kV k ∧
  (∀ v,valV kvs k=some v→Q v (upd H3 a (.dK (dropK kvs k))))∧(valV kvs k=none→Q z H3)
section
variable {X:Cx} {o e f:Expr} {apos cpos:Pos} {td ty tx:TE}
end
section
variable {X:Cx} {pins:List (Addr × Obj)} {σ:St} {H:Hp} {s:Shared} {a:Addr} {kvs:List (Key × V)} {A:Around} {E:Value→Shared→Prop}
end
section
variable {X:Cx} {pins:List (Addr × Obj)} {σ:St} {H:Hp} {s:Shared} {a:Addr} {y:V} {u:Value} {A:Around} {E:Value→Shared→Prop}
end
end L2
namespace L2
open PySem PySem.Spec PyProof.Rows
section
variable {X:Cx}
end
section
variable {κ:Type} [DecidableEq κ]
end
end L2
namespace L2
open PySem PySem.Spec PyProof.Rows
def DcO (P:Program) (w:World) (o:Obj) (kvs:List (Key × V)) (ep:Nat):Prop:=∃ vs es,KV kvs vs∧o.ExactDict∧o.data = .dict es ep∧KeysOf (mixKind P w) es∧Pairs (mixKind P w) es.toList vs∧(vs.map (·.1)).Nodup
def Itk (a:Addr) (o:Obj) (kvs:List (Key × V)):It :=
  ⟨fun i H=>H a=some (.frz o (.dK kvs))∧i < kvs.length,fun i H x H'=>H' = H∧∃ k,(kvs.map (·.1))[i]? = some k∧x=kV k,fun i H=>H a=some (.frz o (.dK kvs))∧i=kvs.length⟩
theorem vals_at:∀ {xs:List V} {us:List Value},xs.length=us.length→(∀ (i:Nat) (x:V) (u:Value),xs[i]? = some x→us[i]? = some u→RelV x u)→Vals xs us
  | [],[],_,_ => .nil
  | x :: xs,u :: us,hl,h => .cons (h 0 x u rfl rfl) (vals_at (by simpa using hl) fun i x u hx hu=>h (i + 1) x u hx hu)
section
variable {X:Cx} {tg:Expr}
def iKeys (tl:TE):TI:=fun σ H R=>tl σ H fun x H1=>∃ a kvs,x = .ref a∧H1 a=some (.dK kvs)∧∀ o,R (Itk a o kvs) (upd H1 a (.frz o (.dK kvs)))
end
end L2
namespace L2
open PySem PySem.Spec PyProof.Rows
def RngO (p:Addr) (j:Int):HO := .ext fun h=>∃ t u v,IsRange h p 0 j 1 t u v
section
variable {X:Cx}
theorem call_rng:CallR X (.type "range") (fun xs H Q=>∃ j:Int,xs=[.int j]∧∀ p,H p=none→Q (.ref p) (upd H p (RngO p j))):=by
  intro pins s σ H xs us Q I r h
  obtain ⟨j,rfl,q⟩:=h
  obtain ⟨u,rfl,ru⟩:=r.one
  obtain ⟨t,rfl⟩:=ru
  refine call_range_1 ⟨.ref s.heap.objs.size,_,I.laid (a:=s.heap.objs.size) (o:=RngO s.heap.objs.size j) (t':=s.toks + 1 + 1) (fun _ _ q=>Heap.get?_push_of_some _ q) (Nat.le_refl _) ?_,rfl,q _ (I.hok.fresh (Nat.le_refl _))⟩
  exact ⟨⟨_,_,_,IsRange.new ..⟩,⟨_,Heap.get?_push_size _ rfl⟩,fun h1 h2 ⟨t,u,v,e⟩ st=>⟨t,u,v,st _ e⟩⟩
theorem call_list_rng (hc:X.calm=true):CallR X (.type "list") (fun xs H Q=>∃ (p:Addr) (n:Nat),xs=[.ref p]∧H p=some (RngO p (n:Int))∧n ≤ 10000∧∀ l,H l=none→Q (.ref l) (upd H l (.lst ((List.range n).map fun k:Nat=>V.int (k:Int))))):=by
  intro pins s σ H xs us Q I r h
  obtain ⟨p,n,rfl,hp,hn,q⟩:=h
  obtain ⟨u,rfl,ru⟩:=r.one
  cases ru
  obtain ⟨⟨t,u,v,hr⟩,_⟩:=I.hok _ _ hp
  refine call_list_range (n:=n) (I.ok.hd hc) hr (small_one (by omega) (by omega) (by omega) (by omega)) (by rw [rangeSize_one]; split <;> omega) (by omega) fun h' tk acc c keep hl it=>?_
  have hv:Vals ((List.range n).map fun k:Nat=>V.int (k:Int)) acc.toList:=by
    refine vals_at (by rw [List.length_map,List.length_range]; exact it.1.symm) fun i x u hx hu=>?_
    obtain ⟨tk,rfl⟩:=it.2 i u (by simpa using hu)
    have hi:i < n:=by
      have:=(List.getElem?_eq_some_iff.mp hx).1
      simpa using this
    rw [List.getElem?_map,List.getElem?_range hi] at hx
    have hx:V.int (i:Int)=x:=Option.some.inj hx
    subst hx
    exact ⟨tk,by rw [Int.mul_one,Int.zero_add]⟩
  refine ⟨.ref _,_,I.laid (a:=s.heap.objs.size) (o := .lst ((List.range n).map fun k:Nat=>V.int (k:Int))) (t':=tk) (fun b q hq=>keep b q hq) (Nat.le_refl _) ⟨by rw [List.length_map,List.length_range,PySem.sizeLine_eq]; omega,acc.toList,c,hv,by simpa using hl⟩,rfl,q _ (I.hok.fresh (Nat.le_refl _))⟩
end
end L2
namespace L2
open PySem
section
variable {X:Cx}
def tPost (t:TS):TS:=fun D σ H=>∃ Post:St→Hp→Prop,t { D with nx:=Post } σ H∧∀ σ' H',Post σ' H'→D.nx σ' H'
theorem ps_post {st:Stmt} {t:TS} (h:PS X st t):PS X st (tPost t):=fun pins s σ H D I ⟨Post,q,k⟩ =>
  thn (h pins s σ H _ I q) fun f s1 z=>by
    cases f with
    | next=>obtain ⟨σ1,H1,I1,p⟩:=z; exact ⟨σ1,H1,I1,k _ _ p⟩
    | brk=>exact z
    | cont=>exact z
    | ret u=>exact z
def tPostE (t:TE):TE:=fun σ H Q=>∃ Post:V→Hp→Prop,t σ H Post∧∀ v H',Post v H'→Q v H'
theorem pe_post {e:Expr} {t:TE} (h:PE X e t):PE X e (tPostE t):=fun pins s σ H Q I ⟨Post,q,k⟩ =>
  thn (h pins s σ H _ I q) fun u s1 ⟨v,H1,I1,r,p⟩=>⟨v,H1,I1,r,k v H1 p⟩
def tPostT (t:TT):TT:=fun σ H Q=>∃ Post:Bool→Hp→Prop,t σ H Post∧∀ b H',Post b H'→Q b H'
theorem pt_post {e:Expr} {t:TT} (h:PT X e t):PT X e (tPostT t):=fun pins s σ H Q I ⟨Post,q,k⟩ =>
  thn (h pins s σ H _ I q) fun b s1 ⟨H1,I1,p⟩=>⟨H1,I1,k b H1 p⟩
end
end L2
namespace L2
open PySem PySem.Spec PyProof.Rows
def tTryAs2 (K:PySem.W.Frag) (c c':Value) (i:Nat) (tb:Ends→St→Hp→(St→XK)→Prop) (th th':Addr→Obj→TS):TS:=fun D σ H =>
  tb D σ H fun σ' cls dd H'=>(PySem.W.exmOne K cls c=some true∧∀ ea oe vs,oe.cls=cls→oe.dict=dd→oe.data = .fields vs→H' ea=none →
    th ea oe { nx:=fun σ2 H2=>D.nx (σ2.set i none) H2,rt:=D.rt,bk:=fun σ2 H2=>D.bk (σ2.set i none) H2,ct:=fun σ2 H2=>D.ct (σ2.set i none) H2 } (σ'.set i (some (.ref ea))) H') ∨
    (PySem.W.exmOne K cls c=some false∧PySem.W.exmOne K cls c' = some true∧∀ ea oe vs,oe.cls=cls→oe.dict=dd→oe.data = .fields vs→H' ea=none →
    th' ea oe { nx:=fun σ2 H2=>D.nx (σ2.set i none) H2,rt:=D.rt,bk:=fun σ2 H2=>D.bk (σ2.set i none) H2,ct:=fun σ2 H2=>D.ct (σ2.set i none) H2 } (σ'.set i (some (.ref ea))) H')
end L2
namespace L2
open PySem PySem.Spec PyProof.Rows
theorem ints_are:∀ {ns:List Int} {us:List Value},Vals (ns.map V.int) us→IntsAre us ns
  | [],_, .nil => .nil
  | n :: ns,_, .cons r t=>by
    obtain ⟨tk,e⟩:=(show ∃ t,_=Value.int n t from r)
    subst e
    exact .cons n tk (ints_are t)
theorem call_sum {X:Cx} (hc:X.calm=true):CallR X (.builtin "sum") (fun xs H Q=>∃ (p:Addr) (ns:List Int),xs=[.ref p]∧SqL X.K H p (ns.map V.int)∧Q (.int ns.sum) H):=by
  intro pins s σ H xs us Q I r h
  obtain ⟨p,ns,rfl,hq,q⟩:=h
  obtain ⟨u,rfl,rx⟩:=vals1 r
  cases rx
  obtain ⟨its,rv,pl,hz⟩:=I.list hq
  have hi:=ints_are rv
  obtain ⟨xs,hx⟩:=hi.allInts.items
  have hl':s.heap.IsList p (intItems xs):=hx ▸ pl.isList
  refine sum_intListG (I.ok.hd hc) hl' fun h' tk t' hk=>?_
  have e1:ns=xs.toList.map (·.1):=by
    rw [← nums_intItems,← hx]
    exact (show numsOf its.toArray.toList=ns from hi.numsOf).symm
  have e2:preSum (numAt xs) xs.size=ns.sum:=by
    rw [preSum_eq,List.take_of_length_le (by simp),e1]
  rw [e2]
  exact ⟨.int ns.sum,H,I.kept hk,⟨_,rfl⟩,q⟩
end L2
namespace L2
open PySem PySem.Spec PyProof.Rows
structure FunD (K:PySem.W.Frag) (x qual:Str) (st:Stmt) (f:Addr) (fd:FuncData):Prop where
  ex:∃ (oc:Value) (od:Option Addr) (dV kV doc pm:Value) (an:Option Addr) (cdv ct:Value) (osl:Array (Option Value)),
    fd=PySem.W.fnOf x qual (defArgs st) (defBody st) (defScope st) dV kV doc pm an cdv ct∧K.lookup f=some ⟨oc,od, .func fd,osl⟩∧PySem.W.codeIn K cdv qual=true
  kp:PySem.W.keepIn K (.ref f)=true
section
variable {P:Program} {w:World} {K:PySem.W.Frag} {mg:Str→Option Value} {base:Heap}
theorem FunD.okX {x qual:Str} {st:Stmt} {f:Addr} {fd:FuncData} {N ps:List Str} {k:Nat} {sp:Sp} (F:FunD K x qual st f fd) (S:FnScope N ps (defScope st)) (len:∀ vs H Q E,sp vs H Q E→vs.length=ps.length)
    (hbody:∀ (cdv:Value) (A:Around) (outer:List Env) (s:Shared) (H:Hp) (vs:List V) (Q:VK) (E:XK),Room k (A.deeper (envOfC qual (defScope st) s.heap.objs.size f cdv))→sp vs H Q E →
      ∃ t,PSs (cxOf (CXe P w) P w K mg base N qual (defScope st) f cdv A outer s H E) (defBody st) t∧t { nx:=fun _ H'=>Q .non H',rt:=Q } (start N vs) H):FnOk P w K mg base (CXe P w) (k + 1) f fd ps sp:=by
  obtain ⟨oc,od,dV,kV,doc,pm,an,cdv,ct,osl,rfl,lk,hcd⟩:=F.ex
  exact fn_of lk hcd S len fun A outer s H vs Q E hr hsp=>hbody cdv A outer s H vs Q E hr hsp
end
end L2
namespace L2
open PySem PySem.Spec PyProof.Rows
def rNotInD (K:PySem.W.Frag):R2:=fun x y H Q=>∃ (p:Addr) (vs:List V) (d:PyData) (ds:List PyData),y = .ref p∧Den K H x d∧SqL K H p vs∧Dens K H vs ds∧Shp d 8∧(∀ z ∈ ds,Shp z 8)∧Q (.bl (!(ds.any fun y=>PyData.eqv y d))) H
theorem op_notInD {X:Cx} (hu:X.A.units + 64 < cLine):OpR X (compareOp .NotIn) (rNotInD X.K):=by
  intro pins s σ H x y v u Q I rx ry h
  obtain ⟨p,vs,d,ds,rfl,h1,h2,h3,s1,s2,q⟩:=h
  obtain ⟨as,r1⟩:=I.den (.lst h2 h3) ry
  obtain ⟨bs,r2⟩:=I.den h1 rx
  refine SeqAt.notIn_list_reads r1 r2 (shpAll s2).1 s1.1 ?_ ⟨.bl _,H,I,rfl,q⟩
  have:=s1.2
  have:=Nat.min_le_right (PyData.depthAll ds) d.depth
  omega
def rCatE (K:PySem.W.Frag):R2:=fun x y H Q=>∃ a b xs ys,x = .ref a∧y = .ref b∧SqT K H a xs∧SqT K H b ys∧ys ≠ []∧xs.length + ys.length ≤ sizeLine ∧
  (xs=[]→Q (.ref b) H)∧(xs ≠ []→∀ p,H p=none→Q (.ref p) (upd H p (.tup (xs ++ ys))))
theorem op_catE {X:Cx}:OpR X (binaryOp .Add) (rCatE X.K):=by
  intro pins s σ H x y v u Q I rx ry h
  obtain ⟨a,b,xs,ys,rfl,rfl,ha,hb,hy,hz,q1,q2⟩:=h
  by_cases hx:xs=[]
  · cases rx
    cases ry
    obtain ⟨its,r1,p1,_⟩:=I.tuple ha
    obtain ⟨its2,r2,p2,_⟩:=I.tuple hb
    have e1:its=[]:=r1.nil_iff.mpr hx
    obtain ⟨⟨cls,dd,data,sl⟩,ho,hc,n,hd⟩:=id p1
    obtain ⟨⟨cls2,dd2,data2,sl2⟩,ho2,hc2,n2,hd2⟩:=id p2
    simp only at hc hd hc2 hd2
    subst hc hd hc2 hd2
    exact concat_meets ⟨_,ho,rfl⟩ ⟨_,ho2,rfl⟩ noFill_tuple_add seq_tuple_add PySem.F.slot_tuple_add PySem.F.entry_tuple_add (PySem.F.args_tuple_add_2 _ _)
      (tuple_addW0 a b its.toArray its2.toArray n n2 dd dd2 sl sl2 (by simp [e1])) ⟨ho,ho2,⟨.ref b,H,I,rfl,q1 hx⟩⟩
  · exact op_catT pins s σ H _ _ v u Q I rx ry ⟨a,b,xs,ys,rfl,rfl,ha,hb,hx,hz,fun z=>absurd z hy,fun _=>q2 hx⟩
end L2
namespace L2
open PySem
theorem comp_gen {J:It} {g:TG} {tt:TT} {te:TE} {σ0:St} {H:Hp} {Q:VK} (n:Nat) (hn:n < sizeLine) (W:Nat→List V→Hp→Prop) (h0:W 0 [] H) (hlen:∀ i acc H',W i acc H'→acc.length ≤ i)
    (turn:∀ i acc H',i < n→W i acc H'→J.go i H'∧∀ x H2,J.yld i H' x H2→g x σ0 H2 fun σ2 H3=>tt σ2 H3 fun b H4=>if b=true then te σ2 H4 fun y H5=>W (i + 1) (acc ++ [y]) H5 else W (i + 1) acc H4)
    (stop:∀ acc H',W n acc H'→J.stop n H'∧∀ D,H' D=none→Q (.ref D) (upd H' D (.lst acc))):CompR J g tt te σ0 Q H:=by
  refine ⟨fun i m acc H'=>m=n - i∧i ≤ n∧W i acc H',⟨n,by simp,Nat.zero_le _,h0⟩,?_⟩
  rintro i m acc H' ⟨rfl,hi,w⟩
  refine ⟨by have:=hlen i acc H' w; omega,?_⟩
  by_cases hlt:i < n
  · obtain ⟨go,q⟩:=turn i acc H' hlt w
    exact .inr ⟨go,fun acc' H2=>W (i + 1) acc' H2,fun acc' H2 w2=>⟨n - (i + 1),by omega,rfl,hlt,w2⟩,q⟩
  · have e:i=n:=by omega
    subst e
    exact .inl (stop acc H' w)
theorem Same.new {H H':Hp} {a:Addr} {o:HO} (h:Same H H') (n:H' a=none):Same H (upd H' a o):=fun b u e=>by rw [upd_ne (ne_of_none (h _ _ e) n)]; exact h _ _ e
end L2
namespace K66
open PySem L2
def top (i:Nat):Stmt:=PySem.Challenge.pw_wormyard_k66_what_waits.main.body.getD i (.Pass ⟨0,0,0,0⟩)
abbrev sHas:Stmt:=top 2
abbrev sMem:Stmt:=top 3
abbrev sSet:Stmt:=top 4
abbrev sTM:Stmt:=inClass (top 8) 0
abbrev sNR:Stmt:=inClass (top 9) 0
abbrev sNE:Stmt:=inClass (top 10) 0
abbrev sNR2:Stmt:=inClass (top 15) 0
abbrev sWhole:Stmt:=top 19
abbrev sWithin:Stmt:=top 20
abbrev sOne:Stmt:=top 21
abbrev sTwo:Stmt:=top 25
abbrev sInit:Stmt:=inClass (top 26) 0
abbrev sEnd:Stmt:=inClass (top 26) 2
abbrev sOut:Stmt:=inClass (top 26) 3
abbrev sInto:Stmt:=inClass (top 26) 4
abbrev sFits:Stmt:=top 28
abbrev sOn:Stmt:=top 29
abbrev sTab:Stmt:=inClass (top 30) 0
abbrev sTabW:Stmt:=inClass (top 30) 1
abbrev sTold:Stmt:=inClass (top 31) 0
abbrev sToldW:Stmt:=inClass (top 31) 1
abbrev sLnI:Stmt:=inClass (top 33) 0
abbrev sOpen:Stmt:=inClass (top 33) 1
abbrev sPut:Stmt:=inClass (top 33) 2
abbrev sFront:Stmt:=inClass (top 33) 3
abbrev sPull:Stmt:=inClass (top 33) 4
abbrev sBring:Stmt:=inClass (top 33) 5
abbrev sLnT:Stmt:=inClass (top 33) 6
abbrev sLnW:Stmt:=inClass (top 33) 7
abbrev sRooms:Stmt:=top 38
abbrev sWord:Stmt:=top 39
abbrev sIsMv:Stmt:=top 40
abbrev sLetI:Stmt:=inClass (top 41) 0
abbrev sLetW:Stmt:=inClass (top 41) 1
abbrev sYdI:Stmt:=inClass (top 42) 0
abbrev sPost:Stmt:=inClass (top 42) 1
abbrev sMoves:Stmt:=inClass (top 42) 2
abbrev sMvIn:Stmt:=inClass (top 42) 3
abbrev sMvOn:Stmt:=inClass (top 42) 4
abbrev sMvLie:Stmt:=inClass (top 42) 5
abbrev sMvBack:Stmt:=inClass (top 42) 6
abbrev sWanted:Stmt:=inClass (top 42) 7
abbrev sLike:Stmt:=inClass (top 42) 8
abbrev sDo:Stmt:=inClass (top 42) 9
abbrev sGoIn:Stmt:=inClass (top 42) 10
abbrev sEnter:Stmt:=inClass (top 42) 11
abbrev sLay:Stmt:=inClass (top 42) 12
abbrev sOwnL:Stmt:=inClass (top 42) 13
abbrev sOwnT:Stmt:=inClass (top 42) 14
abbrev sEnded:Stmt:=inClass (top 42) 15
abbrev sLaneT:Stmt:=inClass (top 42) 16
abbrev sLetT:Stmt:=inClass (top 42) 17
abbrev sWayT:Stmt:=inClass (top 42) 18
abbrev sLying:Stmt:=inClass (top 42) 19
abbrev sPosted:Stmt:=inClass (top 42) 20
abbrev sHist:Stmt:=inClass (top 42) 21
abbrev sStill:Stmt:=top 44
abbrev sWaits:Stmt:=top 45
abbrev sCell:Stmt:=top 47
abbrev sMix:Stmt:=top 48
abbrev sLanes:Stmt:=top 49
abbrev sLTab:Stmt:=top 50
abbrev sLPost:Stmt:=top 51
abbrev sLWant:Stmt:=top 52
abbrev sLRight:Stmt:=top 53
abbrev sLaw:Stmt:=top 54
structure Txt (mg:Str→Option Value):Prop where
  isi:mg "isinstance" = none
  int:mg "int" = none
  bool:mg "bool" = none
  len:mg "len" = none
  enum:mg "enumerate" = none
  tuple:mg "tuple" = none
  range:mg "range" = none
  list:mg "list" = none
  all:mg "all" = none
  sum:mg "sum" = none
  abs:mg "abs" = none
  str:mg "str" = none
def LnV (H:Hp) (v:V) (p:Int × Int):Prop:=∃ t,v = .ref t∧H t=some (.tup [.int p.1, .int p.2])
abbrev Lns (H:Hp):List V→List (Int × Int)→Prop:=Paired (LnV H)
theorem Lns.same {H H':Hp} (h:Same H H'):∀ {vs:List V} {ps:List (Int × Int)},Lns H vs ps→Lns H' vs ps
  | _,_, .nil => .nil
  | _,_, .cons ⟨t,e,q⟩ r => .cons ⟨t,e,h _ _ q⟩ (Lns.same h r)
theorem Lns.get {H:Hp}:∀ {vs:List V} {ps:List (Int × Int)} {i:Nat} {v:V},Lns H vs ps→vs[i]? = some v→∃ p,ps[i]? = some p∧LnV H v p
  | _,_,_,_, .nil,e=>by simp at e
  | _,_,0,_, .cons h _,e=>by simp at e; subst e; exact ⟨_,rfl,h⟩
  | _,_,i + 1,_, .cons _ r,e=>by
    obtain ⟨p,e1,h⟩:=Lns.get (i:=i) r (by simpa using e)
    exact ⟨p,by simpa using e1,h⟩
theorem Lns.get2 {H:Hp}:∀ {vs:List V} {ps:List (Int × Int)} {i:Nat} {p:Int × Int},Lns H vs ps→ps[i]? = some p→∃ v,vs[i]? = some v∧LnV H v p
  | _,_,_,_, .nil,e=>by simp at e
  | _,_,0,_, .cons h _,e=>by simp at e; subst e; exact ⟨_,rfl,h⟩
  | _,_,i + 1,_, .cons _ r,e=>by
    obtain ⟨p,e1,h⟩:=Lns.get2 (i:=i) r (by simpa using e)
    exact ⟨p,by simpa using e1,h⟩
theorem Lns.snoc {H:Hp} {v:V} {p:Int × Int} (h:LnV H v p):∀ {vs:List V} {ps:List (Int × Int)},Lns H vs ps→Lns H (vs ++ [v]) (ps ++ [p])
  | _,_, .nil => .cons h .nil
  | _,_, .cons q r => .cons q (Lns.snoc h r)
def okP (n:Int) (p:Int × Int):Bool:=decide (0 ≤ p.1∧p.1 ≤ n - 1) && (decide (0 ≤ p.2∧p.2 ≤ n - 1) && !decide (p.1=p.2))
def spWhole:Sp:=fun vs H Q _=>∃ i:Int,vs=[.int i]∧Q (.bl true) H
def spWithin:Sp:=fun vs H Q _=>∃ i a b:Int,vs=[.int i, .int a, .int b]∧Q (.bl (decide (a ≤ i∧i ≤ b))) H
def spTwo:Sp:=fun vs H Q _=>∃ n a b:Int,vs=[.int n, .int a, .int b]∧Q (.bl (okP n (a,b))) H
section
variable {P:Program} {w:World} {K:PySem.W.Frag} {mg:Str→Option Value} {base:Heap}
theorem scWhole:FnScope ["value"] ["value"] (defScope sWhole):=⟨rfl,rfl,rfl,by decide +kernel,rfl,by decide +kernel,by decide +kernel⟩
theorem ok_whole {f:Addr} {fd:FuncData} (F:Fun K "is_whole" "is_whole" sWhole f fd) (T:Txt mg):FnOk P w K mg base CX0 1 f fd ["value"] spWhole:=by
  refine F.ok scWhole (fun vs H Q E h=>?_) (fun cdv A outer s H vs Q E hr h=>?_)
  · obtain ⟨m,rfl,_⟩:=h
    rfl
  · obtain ⟨i,rfl,q⟩:=h
    refine ⟨_,pss_one (ps_ret (pe_and (pe_callB call_isi rfl T.isi PyProof.Rows.boot_isinstance (pa_cons (pv 0) (pa_cons (pe_bltn (v := .ty "int") rfl T.int PySem.Pv.boot_int rfl) pa_nil)))
      (pe_one (pe_not (pe_callB call_isi rfl T.isi PyProof.Rows.boot_isinstance (pa_cons (pv 0) (pa_cons (pe_bltn (v := .ty "bool") rfl T.bool PySem.Pv.boot_bool rfl) pa_nil))))))),?_⟩
    refine ⟨_,rfl, .inl ⟨i,rfl,true,rfl,?_⟩⟩
    refine iteT ?_
    exact ⟨_,rfl, .inr (.inl ⟨i,rfl,false,rfl,q⟩)⟩
theorem scWithin:FnScope ["value", "least", "most"] ["value", "least", "most"] (defScope sWithin):=⟨rfl,rfl,rfl,by decide +kernel,rfl,by decide +kernel,by decide +kernel⟩
theorem ok_within {f fh:Addr} {fd fdh:FuncData} (F:Fun K "is_within" "is_within" sWithin f fd) (T:Txt mg) (mh:mg "is_whole" = some (.ref fh)) (Fh:Fun K "is_whole" "is_whole" sWhole fh fdh) (bh:Binds K fdh ["value"] []) :
    FnOk P w K mg base CX0 2 f fd ["value", "least", "most"] spWithin:=by
  have G:FnOk P w K mg base CX0 1 fh fdh ["value"] spWhole:=ok_whole Fh T
  refine F.ok scWithin (fun vs H Q E h=>?_) (fun cdv A outer s H vs Q E hr h=>?_)
  · obtain ⟨i,a,b,rfl,_⟩:=h
    rfl
  · obtain ⟨i,a,b,rfl,q⟩:=h
    refine ⟨_,pss_one (ps_ret (pe_and (pe_call G hr rfl mh Fh.kp bh .nil pass0 (pa_cons (pv 0) pa_nil)) (pe_one (pe_chain op_le op_le (pv 1) (pv 0) (pv 2))))),?_⟩
    refine ⟨_,rfl,i,rfl,true,rfl,iteT ?_⟩
    refine ⟨_,rfl,_,rfl,_,_,rfl,rfl,_,rfl,?_⟩
    by_cases h1:a ≤ i
    · rw [decide_eq_true h1]
      refine iteT ⟨_,rfl,_,_,rfl,rfl,?_⟩
      show Q (V.bl (decide (i ≤ b))) H
      by_cases h2:i ≤ b
      · rw [decide_eq_true h2]; rw [decide_eq_true ⟨h1,h2⟩] at q; exact q
      · rw [decide_eq_false h2]; rw [decide_eq_false fun z=>h2 z.2] at q; exact q
    · rw [decide_eq_false h1]
      refine iteF ?_
      rw [decide_eq_false fun z=>h1 z.1] at q; exact q
theorem scTwo:FnScope ["places", "one", "other", "last"] ["places", "one", "other"] (defScope sTwo):=⟨rfl,rfl,rfl,by decide +kernel,rfl,by decide +kernel,by decide +kernel⟩
theorem ok_two {f fh:Addr} {fd fdh:FuncData} (F:Fun K "are_two_places" "are_two_places" sTwo f fd) (mh:mg "is_within" = some (.ref fh)) (kh:PySem.W.keepIn K (.ref fh)=true) (bh:Binds K fdh ["value", "least", "most"] [])
    (G:FnOk P w K mg base CX0 2 fh fdh ["value", "least", "most"] spWithin) :
    FnOk P w K mg base CX0 3 f fd ["places", "one", "other"] spTwo:=by
  refine F.ok scTwo (fun vs H Q E h=>?_) (fun cdv A outer s H vs Q E hr h=>?_)
  · obtain ⟨i,a,b,rfl,_⟩:=h
    rfl
  · obtain ⟨n,a,b,rfl,q⟩:=h
    refine ⟨_,pss_cons (ps_set (i:=3) scTwo.nd rfl (Or.inl rfl) (pe_op op_sub (pv 0) pe_int))
      (pss_one (ps_ret (pe_and (pe_call G hr rfl mh kh bh .nil pass0 (pa_cons (pv 1) (pa_cons pe_int (pa_cons (pv 3) pa_nil))))
        (pe_and (pe_call G hr rfl mh kh bh .nil pass0 (pa_cons (pv 2) (pa_cons pe_int (pa_cons (pv 3) pa_nil)))) (pe_one (pe_cmpR op_ne (pv 1) (pv 2) (nomark _))))))),?_⟩
    refine ⟨_,rfl,_,_,rfl,rfl,?_⟩
    refine ⟨_,rfl,_,rfl,a,0,n - 1,rfl,_,rfl,?_⟩
    unfold okP at q
    dsimp only at q
    by_cases h1:0 ≤ a∧a ≤ n - 1
    · rw [decide_eq_true h1] at q ⊢
      rw [Bool.true_and] at q
      refine iteT ⟨_,rfl,_,rfl,b,0,n - 1,rfl,_,rfl,?_⟩
      by_cases h2:0 ≤ b∧b ≤ n - 1
      · rw [decide_eq_true h2] at q ⊢
        rw [Bool.true_and] at q
        refine iteT ⟨_,rfl,_,rfl,rfl,?_⟩
        have e:decide (V.int a=V.int b)=decide (a=b):=by
          by_cases h:a=b
          · rw [h]; simp
          · rw [decide_eq_false h,decide_eq_false fun z=>h (by injection z)]
        show Q (V.bl (!decide (V.int a=V.int b))) H
        rw [e]; exact q
      · rw [decide_eq_false h2] at q ⊢
        exact iteF q
    · rw [decide_eq_false h1] at q ⊢
      exact iteF q
end
end K66
namespace L2
open PySem
theorem made_heap {H1:Hp} {e d:Addr} {o o' x:HO} (he:H1 e=none) (hd:upd H1 e o d=none) :
    Same H1 (del (upd (upd (upd H1 e o) d x) e o') e)∧(del (upd (upd (upd H1 e o) d x) e o') e) d=some x∧(upd (upd (upd H1 e o) d x) e o') e=some o':=by
  have hde:d ≠ e:=fun z=>by rw [z,upd_same] at hd; cases hd
  have hd1:H1 d=none:=by rw [upd_ne hde] at hd; exact hd
  refine ⟨fun b u q=>?_,?_,upd_same⟩
  · have hbe:b ≠ e:=ne_of_none q he
    have hbd:b ≠ d:=ne_of_none q hd1
    rw [del_ne hbe,upd_ne hbe,upd_ne hbd,upd_ne hbe]; exact q
  · rw [del_ne hde,upd_ne hde,upd_same]
end L2
namespace K66
open PySem L2
inductive Due | places | many (k:Nat) | lane (k:Nat) | good
def badIx (n:Int) (ps:List (Int × Int)):Option Nat:=ps.findIdx? fun p=>!okP n p
def dueOf (n:Int) (ps:List (Int × Int)):Due:=if decide (1 ≤ n∧n ≤ 12)=false then .places else if 40 < ps.length then .many ps.length else match badIx n ps with | some k => .lane k | none => .good
structure Cs where
  np:Addr
  tm:Addr
  nr:Addr
  land:Addr
def spXi (K:PySem.W.Frag) (fld:Str):Sp:=fun vs H Q _=>∃ e C tt v,vs=[.ref e,v]∧H e=some (ExcAt e C tt none)∧XCls K C∧PySem.W.findIn K (.ref C) fld=some none∧∀ d,H d=none→Q .non (upd (upd H d (.xd [(fld,v)])) e (ExcAt e C tt (some d)))
def LandAt (H:Hp) (c:Cs) (x dx t:Addr) (n:Int) (tvs:List V) (ps:List (Int × Int)):Prop:=H x=some (.ins c.land dx [("places", .int n),("lanes", .ref t)])∧H t=some (.tup tvs)∧Lns H tvs ps
def spInit (K:PySem.W.Frag) (c:Cs):Sp:=fun vs H Q E=>∃ x dx n p lvs ps,vs=[.ref x, .int n, .ref p]∧H x=some (.ins c.land dx [])∧SqL K H p lvs∧Lns H lvs ps∧lvs.length ≤ 1000 ∧
  (dueOf n ps = .places→∀ H',Same H H'→E (.ref c.np) none H') ∧
  (∀ k,dueOf n ps = .many k→∀ H' d,Same H H'→H' d=some (.xd [("many", .int k)])→E (.ref c.tm) (some d) H') ∧
  (∀ k,dueOf n ps = .lane k→∀ H' d,Same H H'→H' d=some (.xd [("lane", .int k)])→E (.ref c.nr) (some d) H') ∧
  (dueOf n ps = .good→∀ H' t tvs,(∀ b o,b ≠ x→H b=some o→H' b=some o)→LandAt H' c x dx t n tvs ps→Q .non H')
def tupScope (s:Stmt):Scope:=match s with
  | .Assign _ (.Call _ [.ListComp _ _ sc _] _ _) _=>sc
  | _=>{ kind := .function,names:=[],isGenerator:=false,isCoroutine:=false }
def retScope (s:Stmt):Scope:=match defBody s with
  | .Return (some (.ListComp _ _ sc _)) _ :: _=>sc
  | _=>{ kind := .function,names:=[],isGenerator:=false,isCoroutine:=false }
abbrev NI:List Str:=["self", "places", "lanes", "lane", "pair"]
structure Exc (K:PySem.W.Frag) (mg:Str→Option Value) (c:Cs) (f1 f2:Addr) (d1 d2:FuncData):Prop where
  mnp:mg "NoPlaces" = some (.ref c.np)
  xnp:excInI K c.np none=true
  knp:PySem.W.keepIn K (.ref c.np)=true
  mtm:mg "TooMany" = some (.ref c.tm)
  xtm:excInI K c.tm (some (.ref f1))=true
  ktm:PySem.W.keepIn K (.ref c.tm)=true
  ctm:XCls K c.tm
  ntm:PySem.W.findIn K (.ref c.tm) "many" = some none
  itm:PySem.W.isFn K (.ref f1)=true
  Ftm:Fun K "__init__" "TooMany.__init__" sTM f1 d1
  btm:Binds K d1 ["self", "many"] []
  mnr:mg "NoRoad" = some (.ref c.nr)
  xnr:excInI K c.nr (some (.ref f2))=true
  knr:PySem.W.keepIn K (.ref c.nr)=true
  cnr:XCls K c.nr
  nnr:PySem.W.findIn K (.ref c.nr) "lane" = some none
  inr:PySem.W.isFn K (.ref f2)=true
  Fnr:Fun K "__init__" "NoRoad.__init__" sNR f2 d2
  bnr:Binds K d2 ["self", "lane"] []
structure Lnd (K:PySem.W.Frag) (c:Cs):Prop where
  cl:Cls K c.land
  np:NoAttr K c.land "places"
  nl:NoAttr K c.land "lanes"
theorem badIx_none {n:Int} {ps:List (Int × Int)} (h:∀ p ∈ ps,okP n p=true):badIx n ps=none:=by
  unfold badIx
  rw [List.findIdx?_eq_none_iff]
  intro p hp
  rw [h p hp]; rfl
theorem badIx_some {n:Int} {ps:List (Int × Int)} {i:Nat} {p:Int × Int} (h:∀ q ∈ ps.take i,okP n q=true) (hi:ps[i]? = some p) (hb:okP n p=false):badIx n ps=some i:=by
  unfold badIx
  rw [List.findIdx?_eq_some_iff_getElem]
  obtain ⟨hlt,e⟩:=List.getElem?_eq_some_iff.mp hi
  refine ⟨hlt,by rw [e,hb]; rfl,fun j hj=>?_⟩
  have hm:ps[j]'(Nat.lt_trans hj hlt) ∈ ps.take i:=List.mem_take_iff_getElem.mpr ⟨j,by omega,rfl⟩
  rw [h _ hm]; simp
def Off (x:Addr) (H H':Hp):Prop:=∀ b o,b ≠ x→H b=some o→H' b=some o
theorem Off.sq {K:PySem.W.Frag} {H H':Hp} {x p C dx:Addr} {fs:List (Str × V)} {xs:List V} (o:Off x H H') (hx:H x=some (.ins C dx fs)) (h:SqL K H p xs):SqL K H' p xs:=by
  rcases h with (h | ⟨ob,h⟩) | h
  · exact .inl (.inl (o _ _ (ne_of h hx (by intro z; cases z)) h))
  · exact .inl (.inr ⟨ob,o _ _ (ne_of h hx (by intro z; cases z)) h⟩)
  · exact .inr h
theorem Off.lns {H H':Hp} {x C dx:Addr} {fs:List (Str × V)} (o:Off x H H') (hx:H x=some (.ins C dx fs)):∀ {vs:List V} {ps:List (Int × Int)},Lns H vs ps→Lns H' vs ps
  | _,_, .nil => .nil
  | _,_, .cons ⟨t,e,q⟩ r => .cons ⟨t,e,o _ _ (ne_of q hx (by intro z; cases z)) q⟩ (Off.lns o hx r)
theorem Off.same {H H1 H2:Hp} {x:Addr} (a:Off x H H1) (b:Same H1 H2):Off x H H2:=fun c o n e=>b _ _ (a c o n e)
section
variable {P:Program} {w:World} {K:PySem.W.Frag} {mg:Str→Option Value} {base:Heap}
theorem scTM:FnScope ["self", "many"] ["self", "many"] (defScope sTM):=⟨rfl,rfl,rfl,by decide +kernel,rfl,by decide +kernel,by decide +kernel⟩
theorem scNR:FnScope ["self", "lane"] ["self", "lane"] (defScope sNR):=⟨rfl,rfl,rfl,by decide +kernel,rfl,by decide +kernel,by decide +kernel⟩
theorem ok_tm {f:Addr} {fd:FuncData} (F:Fun K "__init__" "TooMany.__init__" sTM f fd):FnOk P w K mg base CX0 1 f fd ["self", "many"] (spXi K "many"):=by
  refine F.ok scTM (fun vs H Q E h=>?_) (fun cdv A outer s H vs Q E hr h=>?_)
  · obtain ⟨e,C,tt,v,rfl,_⟩:=h
    rfl
  · obtain ⟨e,C,tt,v,rfl,h1,h2,h3,q⟩:=h
    refine ⟨_,pss_one (ps_fldX (pv 0) (pv 1) rfl),?_⟩
    exact ⟨_,rfl,_,rfl,e,C,tt,rfl,h1,h2,h3,q⟩
theorem ok_nr {f:Addr} {fd:FuncData} (F:Fun K "__init__" "NoRoad.__init__" sNR f fd):FnOk P w K mg base CX0 1 f fd ["self", "lane"] (spXi K "lane"):=by
  refine F.ok scNR (fun vs H Q E h=>?_) (fun cdv A outer s H vs Q E hr h=>?_)
  · obtain ⟨e,C,tt,v,rfl,_⟩:=h
    rfl
  · obtain ⟨e,C,tt,v,rfl,h1,h2,h3,q⟩:=h
    refine ⟨_,pss_one (ps_fldX (pv 0) (pv 1) rfl),?_⟩
    exact ⟨_,rfl,_,rfl,e,C,tt,rfl,h1,h2,h3,q⟩
theorem scInit:FnScope NI ["self", "places", "lanes"] (defScope sInit):=⟨rfl,rfl,rfl,by decide +kernel,rfl,by decide +kernel,by decide +kernel⟩
theorem bkInit:Blk NI (defScope sInit) (tupScope ((defBody sInit).getD 4 (.Pass ⟨0,0,0,0⟩))) [] []:=⟨rfl,by decide +kernel,by decide +kernel,by decide +kernel,rfl,by decide +kernel⟩
theorem ndPair:(["pair"]:List Str).Nodup:=by decide +kernel
theorem ok_init {c:Cs} {f fw ft f1 f2:Addr} {fd dw dt d1 d2:FuncData} {t1 t2:Tok} (F:Fun K "__init__" "Land.__init__" sInit f fd) (T:Txt mg) (L:Lnd K c) (X:Exc K mg c f1 f2 d1 d2)
    (mw:mg "is_within" = some (.ref fw)) (kw:PySem.W.keepIn K (.ref fw)=true) (bw:Binds K dw ["value", "least", "most"] []) (Gw:FnOk P w K mg base CX0 2 fw dw ["value", "least", "most"] spWithin)
    (mt:mg "are_two_places" = some (.ref ft)) (kt:PySem.W.keepIn K (.ref ft)=true) (bt:Binds K dt ["places", "one", "other"] []) (Gt:FnOk P w K mg base CX0 3 ft dt ["places", "one", "other"] spTwo)
    (mp:mg "MOST_PLACES" = some (.int 12 t1)) (ml:mg "MOST_LANES" = some (.int 40 t2)) :
    FnOk P w K mg base (CXe P w) 4 f fd ["self", "places", "lanes"] (spInit K c):=by
  have Gm:FnOk P w K mg base CX0 1 f1 d1 ["self", "many"] (spXi K "many"):=ok_tm X.Ftm
  have Gr:FnOk P w K mg base CX0 1 f2 d2 ["self", "lane"] (spXi K "lane"):=ok_nr X.Fnr
  refine F.okX scInit (fun vs H Q E h=>?_) (fun cdv A outer s H vs Q E hr h=>?_)
  · obtain ⟨x,dx,n,p,lvs,ps,rfl,_⟩:=h
    rfl
  · obtain ⟨x,dx,n,p,lvs,ps,rfl,hx,hp,hl,hlen,h1,h2,h3,h4⟩:=h
    have hr2:Room 2 _:=hr.mono (by decide)
    refine ⟨_,pss_cons (ps_if (pt_not (pt_val (pe_call Gw hr2 rfl mw kw bw .nil pass0 (pa_cons (pv 1) (pa_cons pe_int (pa_cons (pe_glob (v := .int 12) rfl mp ⟨_,rfl⟩) pa_nil))))))
        (pss_one (ps_raise rfl X.xnp passX_def (px_plain X.xnp X.knp rfl rfl X.mnp (pa_cons pe_str pa_nil)))) pss_nil)
      (pss_cons (ps_if (pt_cmpR op_gt (pe_callB call_len_seq rfl T.len PySem.boot_len (pa_cons (pv 2) pa_nil)) (pe_glob (v := .int 40) rfl ml ⟨_,rfl⟩) (nomark _))
        (pss_one (ps_raise rfl X.xtm passX_def (px_init X.xtm X.itm X.ktm Gm hr2 X.btm rfl X.mtm (pa_cons (pe_callB call_len_seq rfl T.len PySem.boot_len (pa_cons (pv 2) pa_nil)) pa_nil)))) pss_nil)
      (pss_cons (ps_for own_def rfl (pi_enumL rfl T.enum (pa_cons (pv 2) pa_nil)) (pg_tup rfl (pgs_cons (pg_name (i:=3) scInit.nd rfl (Or.inl rfl)) (pgs_cons (pg_name (i:=4) scInit.nd rfl (Or.inl rfl)) pgs_nil)))
        (pss_one (ps_if (pt_not (pt_val (pe_call Gt hr rfl mt kt bt .nil pass0 (pa_cons (pv 1) (pa_cons (pe_ix ix_tup (pv 4) pe_int (fun _ _=>rfl)) (pa_cons (pe_ix ix_tup (pv 4) pe_int (fun _ _=>rfl)) pa_nil))))))
          (pss_one (ps_raise rfl X.xnr passX_def (px_init X.xnr X.inr X.knr Gr hr2 X.bnr rfl X.mnr (pa_cons (pv 3) pa_nil)))) pss_nil)))
      (pss_cons (ps_fld (pv 0) (pv 1) rfl)
      (pss_one (ps_fld (pv 0) (pe_callTy call_tuple_of rfl T.tuple PySem.Pv.boot_tuple (pa_cons (pe_comp (own:=["pair"]) (capN:=[]) (cap:=[]) bkInit rfl (pi_list (pv 2))
        (fun C s' H' fp=>⟨pg_name (i:=0) ndPair rfl (Or.inl rfl),pts_nil,pe_tup (pa_cons (pe_ix (show IxR _ (rIxT K) from ix_tup) (pv 0) pe_int (fun _ _=>rfl)) (pa_cons (pe_ix (show IxR _ (rIxT K) from ix_tup) (pv 0) pe_int (fun _ _=>rfl)) pa_nil))⟩)) pa_nil)) rfl))))),?_⟩
    refine ⟨_,rfl,n,1,12,rfl,_,rfl,?_⟩
    by_cases hn:1 ≤ n∧n ≤ 12
    rotate_left
    · rw [decide_eq_false hn]
      refine iteT ⟨by show 1 ≤ sizeLine; decide,?_⟩
      exact h1 (by unfold dueOf; rw [if_pos (decide_eq_false hn)]) H (Same.refl H)
    rw [decide_eq_true hn]
    refine iteF ?_
    have hps:lvs.length=ps.length:=Paired.length hl
    refine ⟨_,rfl,p,_,rfl, .inl hp,_,_,rfl,rfl,_,rfl,?_⟩
    by_cases hm:40 < ps.length
    · rw [decide_eq_true (show (40:Int) < (lvs.length:Nat) by omega)]
      refine iteT ⟨_,rfl,p,_,rfl, .inl hp,by show 1 ≤ sizeLine; decide,fun e tt he=>⟨e,_,tt,_,rfl,upd_same,X.ctm,X.ntm,fun d hd=>⟨rfl,?_⟩⟩⟩
      obtain ⟨m1,m2,m3⟩:=made_heap (o:=ExcAt e c.tm tt none) (o':=ExcAt e c.tm tt (some d)) (x := .xd [("many", .int (lvs.length:Nat))]) he hd
      refine ⟨some d,m3,h2 ps.length ?_ _ d m1 (by rw [m2,hps])⟩
      unfold dueOf
      rw [decide_eq_true hn,if_neg (by decide),if_pos hm]
    rw [decide_eq_false (show ¬ (40:Int) < (lvs.length:Nat) by omega)]
    refine iteF ?_
    refine ⟨_,rfl,p,rfl,⟨_,hp⟩,for_enum (sq:=fun H=>SqL K H p) (xs:=lvs) (fun i σ H2=>∃ a b:Option V,Same H H2∧σ=[some (.ref x),some (.int n),some (.ref p),a,b]∧∀ q ∈ ps.take i,okP n q=true)
      ⟨none,none,Same.refl H,rfl,fun q hq=>by simp at hq⟩ (fun i σ H2 _ ⟨a,b,s2,_⟩=>s2.seq hp) ?_ ?_⟩
    · rintro i v q σ H2 hv ⟨a,b,s2,rfl,hall⟩ hq
      obtain ⟨pr,hpr,t,rfl,ht⟩:=Lns.get hl hv
      have s3:Same H (upd H2 q (.tup [.int i, .ref t])):=s2.new hq
      refine ⟨q,_,rfl,SqT.of upd_same,rfl,_,_,rfl,_,_,rfl,rfl,?_⟩
      have htt:SqT K (upd H2 q (.tup [.int i, .ref t])) t [.int pr.1, .int pr.2]:=SqT.of (s3 _ _ ht)
      refine ⟨_,rfl,_,rfl,t,_,0,_,rfl,rfl,htt,atI_nat (j:=0) rfl,?_⟩
      refine ⟨_,rfl,t,_,1,_,rfl,rfl,htt,atI_nat (j:=1) rfl,n,pr.1,pr.2,rfl,_,rfl,?_⟩
      cases ho:okP n (pr.1,pr.2) with
      | true =>
        refine iteF ⟨some (.int i),some (.ref t),s3,rfl,fun z hz=>?_⟩
        rw [List.take_succ,hpr] at hz
        rcases List.mem_append.mp hz with hz | hz
        · exact hall z hz
        · have:z=pr:=by simpa using hz
          rw [this]; exact ho
      | false =>
        refine iteT ⟨_,rfl,by show 1 ≤ sizeLine; decide,fun e tt he=>⟨e,_,tt,_,rfl,upd_same,X.cnr,X.nnr,fun d hd=>⟨rfl,?_⟩⟩⟩
        obtain ⟨m1,m2,m3⟩:=made_heap (o:=ExcAt e c.nr tt none) (o':=ExcAt e c.nr tt (some d)) (x := .xd [("lane", .int i)]) he hd
        refine ⟨some d,m3,h3 i ?_ _ d (s3.trans m1) m2⟩
        unfold dueOf
        rw [decide_eq_true hn,if_neg (by decide),if_neg hm,badIx_some hall hpr ho]
    · rintro σ H2 ⟨a,b,s2,rfl,hall⟩
      have hgood:dueOf n ps = .good:=by
        unfold dueOf
        rw [decide_eq_true hn,if_neg (by decide),if_neg hm,badIx_none (fun z hz=>hall z (by rw [hps,List.take_length]; exact hz))]
      have hx2:=s2 _ _ hx
      refine ⟨_,rfl,_,rfl,x,c.land,dx,_,rfl,hx2,L.cl,L.np,by show 0 < 1000; decide,?_⟩
      generalize hH3:upd H2 x (.ins c.land dx (putF "places" (.int n) []))=H3
      have o3:Off x H H3:=fun b o hb e=>by rw [← hH3,upd_ne hb]; exact s2 _ _ e
      have x3:H3 x=some (.ins c.land dx [("places", .int n)]):=by rw [← hH3,upd_same]; rfl
      have l3:Lns H3 lvs ps:=o3.lns hx hl
      have p3:SqL K H3 p lvs:=o3.sq hx hp
      refine ⟨_,rfl,p,rfl,⟨_,p3⟩,comp_gen lvs.length (by rw [PySem.sizeLine_eq]; omega) (fun i acc H4=>Same H3 H4∧acc.length=i∧Lns H4 acc (ps.take i)) ⟨Same.refl _,rfl, .nil⟩ (fun i acc H4 h=>Nat.le_of_eq h.2.1) ?_ ?_⟩
      · rintro i acc H4 hi ⟨s4,ha,hA⟩
        have q4:=s4.seq p3
        refine ⟨⟨lvs,lvs[i],q4,by simp [hi]⟩,fun y H5 ⟨e5,hy⟩=>?_⟩
        subst e5
        have hy:=hy lvs q4
        obtain ⟨pr,hpr,t,rfl,ht⟩:=Lns.get l3 hy
        have htt:SqT K H5 t [.int pr.1, .int pr.2]:=SqT.of (s4 _ _ ht)
        refine ⟨_,rfl,t,_,0,_,rfl,rfl,htt,atI_nat (j:=0) rfl,?_⟩
        refine ⟨_,rfl,t,_,1,_,rfl,rfl,htt,atI_nat (j:=1) rfl,by show 2 ≤ sizeLine; decide,fun r hr'=>?_⟩
        refine ⟨s4.new hr',by rw [List.length_append,ha]; rfl,?_⟩
        rw [List.take_succ,hpr]
        exact Lns.snoc ⟨r,rfl,upd_same⟩ (Lns.same (Same.new (Same.refl _) hr') hA)
      · rintro acc H4 ⟨s4,ha,hA⟩
        have q4:=s4.seq p3
        refine ⟨⟨lvs,q4,Nat.le_refl _⟩,fun D hD=>?_⟩
        have s5:Same H3 (upd H4 D (.lst acc)):=s4.new hD
        refine ⟨D,acc,rfl, .inl ⟨SqL.of upd_same,fun t ht=>?_⟩⟩
        have s6:Same H3 (upd (upd H4 D (.lst acc)) t (.tup acc)):=s5.new ht
        have x6:=s6 _ _ x3
        refine ⟨_,rfl,x,c.land,dx,_,rfl,x6,L.cl,L.nl,by show 1 < 1000; decide,?_⟩
        have htx:t ≠ x:=fun z=>by rw [z,s5 _ _ x3] at ht; cases ht
        refine h4 hgood _ t acc (fun b o hb e=>?_) ⟨by rw [upd_same]; rfl,by rw [upd_ne htx,upd_same],?_⟩
        · rw [upd_ne hb]; exact s6 _ _ (o3 b o hb e)
        · have hA':Lns H4 acc ps:=by rw [hps,List.take_length] at hA; exact hA
          have x4:=s4 _ _ x3
          have hA6:Lns (upd (upd H4 D (.lst acc)) t (.tup acc)) acc ps:=Lns.same (Same.new (Same.new (Same.refl _) hD) ht) hA'
          exact Off.lns (x:=x) (fun b o hb e=>by rw [upd_ne hb]; exact e) x6 hA6
end
end K66
namespace K66
open PySem L2
def ixV (sel:Int × Int→Int) (ps:List (Int × Int)) (pl:Int) (m:Nat):List V:=((List.range m).filter fun k=>decide (sel (ps.getD k (0,0))=pl)).map fun k:Nat=>V.int k
def spIx (c:Cs) (sel:Int × Int→Int):Sp:=fun vs H Q _=>∃ (x dx t:Addr) (n:Int) (tvs:List V) (ps:List (Int × Int)) (pl:Int),vs=[.ref x, .int pl]∧LandAt H c x dx t n tvs ps∧ps.length ≤ 1000 ∧
  ∀ H' D,Same H H'→H' D=none→Q (.ref D) (upd H' D (.lst (ixV sel ps pl ps.length)))
theorem ixV_succ {sel:Int × Int→Int} {ps:List (Int × Int)} {pl:Int} {i:Nat} {pr:Int × Int} (h:ps[i]? = some pr):ixV sel ps pl (i + 1)=if decide (sel pr=pl) then ixV sel ps pl i ++ [V.int i] else ixV sel ps pl i:=by
  have e:ps.getD i (0,0)=pr:=by rw [List.getD_eq_getElem?_getD,h]; rfl
  unfold ixV
  rw [List.range_succ,List.filter_append]
  by_cases hs:sel pr=pl
  · rw [if_pos (decide_eq_true hs),List.filter_cons_of_pos (by rw [e]; exact decide_eq_true hs)]; simp
  · rw [if_neg (by rw [decide_eq_false hs]; decide),List.filter_cons_of_neg (by rw [e,decide_eq_false hs]; decide)]; simp
theorem ixV_len {sel:Int × Int→Int} {ps:List (Int × Int)} {pl:Int} {i:Nat}:(ixV sel ps pl i).length ≤ i:=by
  unfold ixV
  rw [List.length_map]
  have:=List.length_filter_le (fun k=>decide (sel (ps.getD k (0,0))=pl)) (List.range i)
  rwa [List.length_range] at this
section
variable {P:Program} {w:World} {K:PySem.W.Frag} {mg:Str→Option Value} {base:Heap}
theorem scOut:FnScope ["self", "place"] ["self", "place"] (defScope sOut):=⟨rfl,rfl,rfl,by decide +kernel,rfl,by decide +kernel,by decide +kernel⟩
theorem bkOut:Blk ["self", "place"] (defScope sOut) (retScope sOut) ["place"] [1]:=⟨rfl,by decide +kernel,by decide +kernel,by decide +kernel,rfl,by decide +kernel⟩
theorem scInto:FnScope ["self", "place"] ["self", "place"] (defScope sInto):=⟨rfl,rfl,rfl,by decide +kernel,rfl,by decide +kernel,by decide +kernel⟩
theorem bkInto:Blk ["self", "place"] (defScope sInto) (retScope sInto) ["place"] [1]:=⟨rfl,by decide +kernel,by decide +kernel,by decide +kernel,rfl,by decide +kernel⟩
theorem ndOut:(["lane", "pair", "place"]:List Str).Nodup:=by decide +kernel
theorem int_eq (a b:Int):decide (V.int a=V.int b)=decide (a=b):=by
  by_cases h:a=b
  · rw [h]; simp
  · rw [decide_eq_false h,decide_eq_false fun z=>h (by injection z)]
theorem ok_out {c:Cs} {f:Addr} {fd:FuncData} (F:Fun K "out_of" "Land.out_of" sOut f fd) (T:Txt mg) (L:Lnd K c):FnOk P w K mg base CX0 1 f fd ["self", "place"] (spIx c Prod.fst):=by
  refine F.ok scOut (fun vs H Q E h=>?_) (fun cdv A outer s H vs Q E hr h=>?_)
  · obtain ⟨x,dx,t,n,tvs,ps,pl,rfl,_⟩:=h
    rfl
  · obtain ⟨x,dx,t,n,tvs,ps,pl,rfl,⟨hx,ht,hl⟩,hlen,q⟩:=h
    refine ⟨_,pss_one (ps_ret (pe_comp (own:=["lane", "pair"]) (capN:=["place"]) (cap:=[1]) bkOut rfl (pi_enumT rfl T.enum (pa_cons (pe_fld (pv 0) rfl) pa_nil))
      (fun C s' H' fp=>⟨(show PG _ _ (gTup K 2 _) from pg_tup rfl (pgs_cons (pg_name (i:=0) ndOut rfl (Or.inl rfl)) (pgs_cons (pg_name (i:=1) ndOut rfl (Or.inl rfl)) pgs_nil))),
        pts_one (pt_cmpR op_eq (pe_ix (show IxR _ (rIxT K) from ix_tup) (pv 1) pe_int (fun _ _=>rfl)) (pv 2) (nomark _)),pv 0⟩))),?_⟩
    have hps:tvs.length=ps.length:=Paired.length hl
    refine ⟨_,rfl,x,c.land,dx,_,_,rfl,hx,L.cl,L.nl,rfl,t,rfl,⟨_,SqT.of ht⟩,comp_gen ps.length (by rw [PySem.sizeLine_eq]; omega) (fun i acc H4=>Same H H4∧acc=ixV Prod.fst ps pl i) ⟨Same.refl _,rfl⟩ (fun i acc H4 h=>by rw [h.2]; exact ixV_len) ?_ ?_⟩
    · rintro i acc H4 hi ⟨s4,rfl⟩
      have q4:SqT K H4 t tvs:=SqT.of (s4 _ _ ht)
      refine ⟨⟨tvs,tvs[i]'(by omega),q4,by simp [hps,hi]⟩,fun y H5 ⟨r,hr4,ey,h5⟩=>?_⟩
      obtain ⟨v,hv,rfl⟩:=h5 tvs q4
      subst ey
      obtain ⟨pr,hpr,u,rfl,hu⟩:=Lns.get hl hv
      have s5:Same H (upd H4 r (.tup [.int i, .ref u])):=s4.new hr4
      refine ⟨r,_,rfl,SqT.of upd_same,rfl,_,_,rfl,_,_,rfl,rfl,?_⟩
      refine ⟨_,rfl,u,_,0,_,rfl,rfl,SqT.of (s5 _ _ hu),atI_nat (j:=0) rfl,_,rfl,rfl,_,rfl,?_⟩
      rw [int_eq,ixV_succ hpr]
      cases hd:decide (pr.1=pl) with
      | true=>exact iteT ⟨_,rfl,s5,by simp [hd]⟩
      | false=>exact iteF ⟨s5,by simp [hd]⟩
    · rintro acc H4 ⟨s4,rfl⟩
      exact ⟨⟨tvs,SqT.of (s4 _ _ ht),hps⟩,fun D hD=>q H4 D s4 hD⟩
theorem ok_into {c:Cs} {f:Addr} {fd:FuncData} (F:Fun K "into" "Land.into" sInto f fd) (T:Txt mg) (L:Lnd K c):FnOk P w K mg base CX0 1 f fd ["self", "place"] (spIx c Prod.snd):=by
  refine F.ok scInto (fun vs H Q E h=>?_) (fun cdv A outer s H vs Q E hr h=>?_)
  · obtain ⟨x,dx,t,n,tvs,ps,pl,rfl,_⟩:=h
    rfl
  · obtain ⟨x,dx,t,n,tvs,ps,pl,rfl,⟨hx,ht,hl⟩,hlen,q⟩:=h
    refine ⟨_,pss_one (ps_ret (pe_comp (own:=["lane", "pair"]) (capN:=["place"]) (cap:=[1]) bkInto rfl (pi_enumT rfl T.enum (pa_cons (pe_fld (pv 0) rfl) pa_nil))
      (fun C s' H' fp=>⟨(show PG _ _ (gTup K 2 _) from pg_tup rfl (pgs_cons (pg_name (i:=0) ndOut rfl (Or.inl rfl)) (pgs_cons (pg_name (i:=1) ndOut rfl (Or.inl rfl)) pgs_nil))),
        pts_one (pt_cmpR op_eq (pe_ix (show IxR _ (rIxT K) from ix_tup) (pv 1) pe_int (fun _ _=>rfl)) (pv 2) (nomark _)),pv 0⟩))),?_⟩
    have hps:tvs.length=ps.length:=Paired.length hl
    refine ⟨_,rfl,x,c.land,dx,_,_,rfl,hx,L.cl,L.nl,rfl,t,rfl,⟨_,SqT.of ht⟩,comp_gen ps.length (by rw [PySem.sizeLine_eq]; omega) (fun i acc H4=>Same H H4∧acc=ixV Prod.snd ps pl i) ⟨Same.refl _,rfl⟩ (fun i acc H4 h=>by rw [h.2]; exact ixV_len) ?_ ?_⟩
    · rintro i acc H4 hi ⟨s4,rfl⟩
      have q4:SqT K H4 t tvs:=SqT.of (s4 _ _ ht)
      refine ⟨⟨tvs,tvs[i]'(by omega),q4,by simp [hps,hi]⟩,fun y H5 ⟨r,hr4,ey,h5⟩=>?_⟩
      obtain ⟨v,hv,rfl⟩:=h5 tvs q4
      subst ey
      obtain ⟨pr,hpr,u,rfl,hu⟩:=Lns.get hl hv
      have s5:Same H (upd H4 r (.tup [.int i, .ref u])):=s4.new hr4
      refine ⟨r,_,rfl,SqT.of upd_same,rfl,_,_,rfl,_,_,rfl,rfl,?_⟩
      refine ⟨_,rfl,u,_,1,_,rfl,rfl,SqT.of (s5 _ _ hu),atI_nat (j:=1) rfl,_,rfl,rfl,_,rfl,?_⟩
      rw [int_eq,ixV_succ hpr]
      cases hd:decide (pr.2=pl) with
      | true=>exact iteT ⟨_,rfl,s5,by simp [hd]⟩
      | false=>exact iteF ⟨s5,by simp [hd]⟩
    · rintro acc H4 ⟨s4,rfl⟩
      exact ⟨⟨tvs,SqT.of (s4 _ _ ht),hps⟩,fun D hD=>q H4 D s4 hD⟩
end
end K66
namespace K66
open PySem L2
def spHas:Sp:=fun vs H Q _=>∃ m k:Nat,vs=[.int m, .int k]∧Q (.bl (m.testBit k)) H
def memV (m:Nat):List V:=(Yd.memN m (Builtin.Int.intBits (m:Int))).map fun k:Nat=>V.int k
def spMem:Sp:=fun vs H Q _=>∃ m:Nat,vs=[.int m]∧m < 2 ^ 400∧∀ p,H p=none→Q (.ref p) (upd H p (.lst (memV m)))
def spSet (K:PySem.W.Frag):Sp:=fun vs H Q _=>∃ (a:Addr) (ks:List Nat),vs=[.ref a]∧SqL K H a (ks.map fun k:Nat=>V.int k)∧(∀ k ∈ ks,k ≤ 1000)∧Q (.int (Yd.setN ks 0:Nat)) H
section
variable {P:Program} {w:World} {K:PySem.W.Frag} {mg:Str→Option Value} {base:Heap}
theorem scHas:FnScope ["some", "number"] ["some", "number"] (defScope sHas):=⟨rfl,rfl,rfl,by decide +kernel,rfl,by decide +kernel,by decide +kernel⟩
theorem ok_has {f:Addr} {fd:FuncData} (F:Fun K "has" "has" sHas f fd):FnOk P w K mg base CX0 1 f fd ["some", "number"] spHas:=by
  refine F.ok scHas (fun vs H Q E h=>?_) (fun cdv A outer s H vs Q E hr h=>?_)
  · obtain ⟨m,k,rfl,_⟩:=h
    rfl
  · obtain ⟨m,k,rfl,q⟩:=h
    refine ⟨_,pss_one (ps_ret (pe_and (pe_cmpR op_ge (pv 1) pe_int (nomark _)) (pe_one (pe_cmpR op_eq (pe_op op_and (pe_op op_shr (pv 0) (pv 1)) pe_int) pe_int (nomark _))))),?_⟩
    refine ⟨_,rfl,_,_,rfl,rfl,_,rfl,?_⟩
    rw [decide_eq_true (show (0:Int) ≤ (k:Int) by omega)]
    refine iteT ?_
    refine ⟨_,rfl,_,rfl,_,_,rfl,rfl,(show (0:Int) ≤ (k:Int) by omega),_,_,rfl,rfl,rfl,?_⟩
    have e:decide (V.int (Builtin.bitAnd ((m:Int) / 2 ^ (k:Int).toNat) 1)=V.int 1)=m.testBit k:=by
      rw [Int.toNat_natCast,← Yd.has_bit m k]
      by_cases h:Builtin.bitAnd ((m:Int) / 2 ^ k) 1=1
      · rw [h]; simp
      · rw [decide_eq_false h,decide_eq_false fun z=>h (by injection z)]
    rw [e]
    exact q
theorem natV_get {ks:List Nat} {i:Nat} {x:V} (h:(ks.map fun k:Nat=>V.int k)[i]? = some x):∃ k,ks[i]? = some k∧x=V.int k:=by
  rw [List.getElem?_map] at h
  cases e:ks[i]? with
  | none=>rw [e] at h; cases h
  | some k=>rw [e] at h; exact ⟨k,rfl,(Option.some.inj h).symm⟩
theorem scSet:FnScope ["numbers", "some", "number"] ["numbers"] (defScope sSet):=⟨rfl,rfl,rfl,by decide +kernel,rfl,by decide +kernel,by decide +kernel⟩
theorem ok_set {f:Addr} {fd:FuncData} (F:Fun K "set_of" "set_of" sSet f fd):FnOk P w K mg base CX0 1 f fd ["numbers"] (spSet K):=by
  refine F.ok scSet (fun vs H Q E h=>?_) (fun cdv A outer s H vs Q E hr h=>?_)
  · obtain ⟨a,ks,rfl,_⟩:=h
    rfl
  · obtain ⟨a,ks,rfl,hS,hk,q⟩:=h
    refine ⟨_,pss_cons (ps_set (i:=1) scSet.nd rfl (Or.inl rfl) pe_int)
      (pss_cons (ps_for PassesOwn.never rfl (pi_list (pv 0)) (pg_name (i:=2) scSet.nd rfl (Or.inl rfl))
        (pss_one (ps_set (i:=1) scSet.nd rfl (Or.inl rfl) (pe_op op_or (pv 1) (pe_op op_shl pe_int (pv 2))))))
      (pss_one (ps_ret (pv 1)))),?_⟩
    refine ⟨_,rfl,a,rfl,⟨_,hS⟩,for_list (K:=K) (a:=a) (xs:=ks.map fun k:Nat=>V.int k) (fun i σ H2=>∃ v:Option V,H2=H∧σ=[some (.ref a),some (.int (Yd.setN (ks.take i) 0:Nat)),v])
      ⟨none,rfl,rfl⟩ (fun i σ H2 _ ⟨_,e,_⟩=>by rw [e]; exact hS) ?_ ?_⟩
    · rintro i x σ H2 hx ⟨v,rfl,rfl⟩
      obtain ⟨k,ek,rfl⟩:=natV_get hx
      have hk':=hk k (List.mem_of_getElem? ek)
      refine ⟨_,rfl,_,rfl,_,_,rfl,rfl,⟨(show (0:Int) ≤ (k:Int) by omega),(show (k:Int) ≤ 1000000 by omega),(by decide)⟩,_,_,rfl,rfl,some (.int k),rfl,?_⟩
      have e:Builtin.bitOr ((Yd.setN (ks.take i) 0:Nat):Int) (1 * 2 ^ (k:Int).toNat)=((Yd.setN (ks.take (i + 1)) 0:Nat):Int):=by
        rw [List.take_succ,ek,Int.toNat_natCast,Int.one_mul,show (2:Int) ^ k=((2 ^ k:Nat):Int) by rw [Int.natCast_pow]; rfl,Yd.bitOr_nat,Yd.setN_app]
        rfl
      show [some (V.ref a),some (V.int _),some (V.int k)]=_
      rw [e]
    · rintro σ H2 ⟨v,rfl,rfl⟩
      refine ⟨_,rfl,?_⟩
      rw [List.length_map,List.take_length]
      exact q
theorem scMem:FnScope ["some"] ["some"] (defScope sMem):=⟨rfl,rfl,rfl,by decide +kernel,rfl,by decide +kernel,by decide +kernel⟩
theorem ndMem:(["number", "some"]:List Str).Nodup:=by decide +kernel
theorem bkMem:Blk ["some"] (defScope sMem) (retScope sMem) ["some"] [0]:=⟨rfl,by decide +kernel,by decide +kernel,by decide +kernel,rfl,by decide +kernel⟩
theorem ok_mem {f fh:Addr} {fd fdh:FuncData} (F:Fun K "members" "members" sMem f fd) (T:Txt mg) (mh:mg "has" = some (.ref fh)) (Fh:Fun K "has" "has" sHas fh fdh) (bh:Binds K fdh ["some", "number"] []):FnOk P w K mg base CX0 2 f fd ["some"] spMem:=by
  have G:FnOk P w K mg base CX0 1 fh fdh ["some", "number"] spHas:=ok_has Fh
  refine F.ok scMem (fun vs H Q E h=>?_) (fun cdv A outer s H vs Q E hr h=>?_)
  · obtain ⟨m,rfl,_⟩:=h
    rfl
  · obtain ⟨m,rfl,hm,q⟩:=h
    refine ⟨_,pss_one (ps_ret (pe_comp (own:=["number"]) (capN:=["some"]) (cap:=[0]) bkMem rfl
      (pi_range1 rfl T.range (pa_cons (pe_bm0 PySem.F.plainAttrs_int PySem.F.slot_int_bit_length PySem.F.type_int_bit_length mt_bits (pv 0)) pa_nil))
      (fun C s' H' fp=>⟨pg_name (i:=0) ndMem rfl (Or.inl rfl),pts_one (pt_val (pe_call G hr rfl mh Fh.kp bh .nil pass0 (pa_cons (pv 1) (pa_cons (pv 0) pa_nil)))),pv 0⟩))),?_⟩
    have hb:Builtin.Int.intBits (m:Int) ≤ 400:=Yd.bits_le hm
    refine ⟨_,rfl,rfl,_,rfl,rfl,(Builtin.Int.intBits (m:Int):Nat),rfl,by omega,by omega,?_⟩
    rw [Int.toNat_natCast]
    refine comp_rng (fun k=>m.testBit k) (fun k=>V.int k) (by rw [PySem.sizeLine_eq]; omega) (fun i acc N hi h=>?_) q
    refine ⟨_,rfl,_,rfl,m,i,by simp,_,rfl,?_⟩
    cases e:m.testBit i with
    | true =>
      rw [e] at h
      refine iteT ⟨_,rfl,?_⟩
      simpa using h
    | false =>
      rw [e] at h
      exact iteF (by simpa using h)
end
def iz (ks:List Nat):List Int:=ks.map fun k:Nat=>(k:Int)
theorem iz_V (ks:List Nat):(iz ks).map V.int=ks.map fun k:Nat=>V.int k:=by rw [iz,List.map_map]; rfl
theorem iz_mem {ks:List Nat} {k:Int}:k ∈ iz ks↔∃ n ∈ ks,(n:Int)=k:=List.mem_map
theorem set_lt {ks:List Nat} {b:Nat} (h:∀ k ∈ ks,k < b):Yd.setN ks 0 < 2 ^ b:=by
  rw [← Yd.due_set h]
  exact Yd.dueN_lt ks b
theorem there_iff {ks:List Nat} {k:Nat}:(Yd.setN ks 0).testBit k=decide ((k:Int) ∈ iz ks):=by
  rw [Yd.setN_bit,Nat.zero_testBit,Bool.false_or]
  congr 1
  refine propext ⟨fun h=>iz_mem.mpr ⟨k,h,rfl⟩,fun h=>?_⟩
  obtain ⟨n,hn,e⟩:=iz_mem.mp h
  have:n=k:=by omega
  rw [← this]
  exact hn
end K66
namespace K66
open PySem L2
structure Rw where
  p:Int
  g:Int
  c:Option Nat
  s:List Nat
def keyOf (r:Rw):Oks:=[some r.p,some r.g,r.c.map fun k:Nat=>(k:Int)]
def ixM (sel:Int × Int→Int) (ps:List (Int × Int)) (pl:Int):List Nat:=(List.range ps.length).filter fun k=>decide (sel (ps.getD k (0,0))=pl)
def fits (n:Int) (ps:List (Int × Int)) (r:Rw):Bool :=
  okP n (r.p,r.g) && ((match r.c with | none=>true | some k=>decide (k ∈ ixM Prod.snd ps r.p)) && r.s.all fun k=>decide (k ∈ ixM Prod.fst ps r.p))
def offL (sel:Int × Int→Int) (ps:List (Int × Int)) (pl:Int) (k:Nat):Bool:=decide (ps.length ≤ k) || !decide (sel (ps.getD k (0,0))=pl)
def badL (n:Int) (ps:List (Int × Int)) (ahead:List Rw) (r:Rw):Bool :=
  !okP n (r.p,r.g) || ((match r.c with | none=>false | some k=>offL Prod.snd ps r.p k) || ((r.s.any fun k=>offL Prod.fst ps r.p k) || ahead.any fun a=>decide (keyOf a=keyOf r)))
theorem ixM_mem {sel:Int × Int→Int} {ps:List (Int × Int)} {pl:Int} {k:Nat}:decide (k ∈ ixM sel ps pl) = !offL sel ps pl k:=by
  unfold ixM offL
  by_cases h1:ps.length ≤ k
  · rw [decide_eq_true h1,decide_eq_false]
    · rfl
    · intro z
      have:=List.mem_range.mp (List.mem_filter.mp z).1
      omega
  · rw [decide_eq_false h1]
    by_cases h2:sel (ps.getD k (0,0))=pl
    · rw [decide_eq_true h2,decide_eq_true]
      · rfl
      · exact List.mem_filter.mpr ⟨List.mem_range.mpr (by omega),decide_eq_true h2⟩
    · rw [decide_eq_false h2,decide_eq_false]
      · rfl
      · intro z
        exact h2 (of_decide_eq_true (List.mem_filter.mp z).2)
theorem all_any {l:List Nat} {f:Nat→Bool}:(l.all fun k=>!f k) = !(l.any f):=by
  induction l with
  | nil=>rfl
  | cons a l ih=>rw [List.all_cons,List.any_cons,ih,Bool.not_or]
theorem bad_fits (n:Int) (ps:List (Int × Int)) (ahead:List Rw) (r:Rw):badL n ps ahead r=(!fits n ps r || ahead.any fun a=>decide (keyOf a=keyOf r)):=by
  unfold badL fits
  have e:(r.s.all fun k=>decide (k ∈ ixM Prod.fst ps r.p)) = !(r.s.any fun k=>offL Prod.fst ps r.p k):=by
    rw [← all_any]
    congr 1
    funext k
    exact ixM_mem
  rw [e]
  cases hc:r.c with
  | none =>
    dsimp only
    cases okP n (r.p,r.g) <;> cases (r.s.any fun k=>offL Prod.fst ps r.p k) <;> cases (ahead.any fun a=>decide (keyOf a=keyOf r)) <;> rfl
  | some k =>
    dsimp only
    rw [ixM_mem]
    cases okP n (r.p,r.g) <;> cases (offL Prod.snd ps r.p k) <;> cases (r.s.any fun k=>offL Prod.fst ps r.p k) <;> cases (ahead.any fun a=>decide (keyOf a=keyOf r)) <;> rfl
def firstBad (n:Int) (ps:List (Int × Int)) (rs:List Rw) (m:Nat):Option Nat:=(List.range m).find? fun k=>badL n ps (rs.take k) (rs.getD k ⟨0,0,none,[]⟩)
theorem firstBad_none {n:Int} {ps:List (Int × Int)} {rs:List Rw}:∀ {m:Nat},(∀ k,k < m→badL n ps (rs.take k) (rs.getD k ⟨0,0,none,[]⟩)=false)→firstBad n ps rs m=none:=by
  intro m h
  unfold firstBad
  rw [List.find?_eq_none]
  intro k hk
  rw [h k (List.mem_range.mp hk)]
  decide
theorem firstBad_some {n:Int} {ps:List (Int × Int)} {rs:List Rw} {m i:Nat} (hi:i < m) (h:∀ k,k < i→badL n ps (rs.take k) (rs.getD k ⟨0,0,none,[]⟩)=false) (hb:badL n ps (rs.take i) (rs.getD i ⟨0,0,none,[]⟩)=true):firstBad n ps rs m=some i:=by
  unfold firstBad
  rw [List.find?_range_eq_some]
  refine ⟨hb,List.mem_range.mpr hi,fun j hj=>?_⟩
  rw [h j hj]
  rfl
def lastR (rs:List Rw) (k:Oks):Option Rw:=rs.reverse.find? fun r=>decide (keyOf r=k)
theorem lastR_snoc {rs:List Rw} {r:Rw} {k:Oks}:lastR (rs ++ [r]) k=if k=keyOf r then some r else lastR rs k:=by
  unfold lastR
  rw [List.reverse_append,List.reverse_singleton,List.singleton_append,List.find?_cons]
  by_cases h:keyOf r=k
  · rw [decide_eq_true h,if_pos h.symm]
  · rw [decide_eq_false h,if_neg (Ne.symm h)]
theorem lastR_isSome {rs:List Rw} {k:Oks}:(lastR rs k).isSome=rs.any fun r=>decide (keyOf r=k):=by
  unfold lastR
  rw [Bool.eq_iff_iff,List.find?_isSome,List.any_eq_true]
  exact ⟨fun ⟨x,hx,h⟩=>⟨x,List.mem_reverse.mp hx,h⟩,fun ⟨x,hx,h⟩=>⟨x,List.mem_reverse.mpr hx,h⟩⟩
def cV:Option Nat→V
  | none => .non
  | some k => .int k
def natV (ks:List Nat):List V:=ks.map fun k:Nat=>V.int k
theorem natV_iz (ks:List Nat):natV ks=(iz ks).map V.int:=(iz_V ks).symm
def RwT (H:Hp) (t l:Addr) (r:Rw):Prop:=H t=some (.tup [.int r.p, .int r.g,cV r.c, .ref l])∧H l=some (.lst (natV r.s))
def RwV (H:Hp) (v:V) (r:Rw):Prop:=∃ t l,v = .ref t∧RwT H t l r
abbrev Rws (H:Hp):List V→List Rw→Prop:=Paired (RwV H)
theorem RwT.same {H H':Hp} {t l:Addr} {r:Rw} (h:Same H H') (x:RwT H t l r):RwT H' t l r:=⟨h _ _ x.1,h _ _ x.2⟩
theorem RwV.same {H H':Hp} {v:V} {r:Rw} (h:Same H H'):RwV H v r→RwV H' v r:=fun ⟨t,l,e,x⟩=>⟨t,l,e,x.same h⟩
theorem Rws.imp {H H':Hp} (h:∀ v r,RwV H v r→RwV H' v r):∀ {vs:List V} {rs:List Rw},Rws H vs rs→Rws H' vs rs
  | _,_, .nil => .nil
  | _,_, .cons x r => .cons (h _ _ x) (Rws.imp h r)
theorem Rws.same {H H':Hp} (h:Same H H') {vs:List V} {rs:List Rw} (x:Rws H vs rs):Rws H' vs rs:=Rws.imp (fun _ _ z=>z.same h) x
theorem Rws.get {H:Hp}:∀ {vs:List V} {rs:List Rw} {i:Nat} {v:V},Rws H vs rs→vs[i]? = some v→∃ r,rs[i]? = some r∧RwV H v r
  | _,_,_,_, .nil,e=>by simp at e
  | _,_,0,_, .cons x _,e=>by simp at e; subst e; exact ⟨_,rfl,x⟩
  | _,_,i + 1,v, .cons _ t,e=>by
    obtain ⟨r,h1,h2⟩:=Rws.get (i:=i) (v:=v) t (by simpa using e)
    exact ⟨r,by simpa using h1,h2⟩
theorem key_tup (r:Rw):(keyOf r).map okV=[.int r.p, .int r.g,cV r.c]:=by
  cases r with
  | mk p g c s=>cases c <;> rfl
theorem ixV_iz {sel:Int × Int→Int} {ps:List (Int × Int)} {pl:Int}:ixV sel ps pl ps.length=(iz (ixM sel ps pl)).map V.int:=by rw [iz_V]; rfl
theorem iz_dec {k:Nat} {l:List Nat}:decide ((k:Int) ∈ iz l)=decide (k ∈ l):=by
  congr 1
  refine propext ⟨fun h=>?_,fun h=>iz_mem.mpr ⟨k,h,rfl⟩⟩
  obtain ⟨n,hn,e⟩:=iz_mem.mp h
  have:n=k:=by omega
  rw [← this]
  exact hn
theorem all_bls (ks l:List Nat):((natV ks).filter fun _=>true).map (fun v=>match v with | .int i=>V.bl (decide (i ∈ iz l)) | _ => .non)=(ks.map fun k=>decide (k ∈ l)).map V.bl:=by
  rw [List.filter_eq_self.mpr (fun _ _=>rfl)]
  unfold natV
  rw [List.map_map,List.map_map]
  refine List.map_congr_left fun k _=>?_
  show V.bl (decide ((k:Int) ∈ iz l))=V.bl (decide (k ∈ l))
  rw [iz_dec]
theorem all_id (ks:List Nat) (p:Nat→Bool):(ks.map p).all id=ks.all p:=by rw [List.all_map]; rfl
def spOne (K:PySem.W.Frag):Sp:=fun vs H Q _=>∃ (i:Int) (p:Addr) (ns:List Int),vs=[.int i, .ref p]∧SqL K H p (ns.map V.int)∧Q (.bl (decide (i ∈ ns))) H
def spFits (c:Cs):Sp:=fun vs H Q _=>∃ (x dx lt t l:Addr) (n:Int) (tvs:List V) (ps:List (Int × Int)) (r:Rw),vs=[.ref x, .ref t]∧LandAt H c x dx lt n tvs ps∧RwT H t l r∧ps.length ≤ 1000∧r.s.length ≤ 1000∧∀ H',Same H H'→Q (.bl (fits n ps r)) H'
structure Mths (K:PySem.W.Frag) (c:Cs) (f3 f4:Addr) (d3 d4:FuncData):Prop where
  m3:Meth K c.land "out_of" f3
  m4:Meth K c.land "into" f4
  b3:Binds K d3 ["self", "place"] []
  b4:Binds K d4 ["self", "place"] []
abbrev NF:List Str:=["land", "row", "place", "came", "begin_here"]
def allScope (s:Stmt):Scope:=match s with
  | .Return (some (.Call _ [.ListComp _ _ sc _] _ _)) _=>sc
  | _=>{ kind := .function,names:=[],isGenerator:=false,isCoroutine:=false }
section
variable {P:Program} {w:World} {K:PySem.W.Frag} {mg:Str→Option Value} {base:Heap}
theorem scOne:FnScope ["value", "numbers"] ["value", "numbers"] (defScope sOne):=⟨rfl,rfl,rfl,by decide +kernel,rfl,by decide +kernel,by decide +kernel⟩
theorem ok_one {f fh:Addr} {fd fdh:FuncData} (F:Fun K "is_one_of" "is_one_of" sOne f fd) (T:Txt mg) (mh:mg "is_whole" = some (.ref fh)) (Fh:Fun K "is_whole" "is_whole" sWhole fh fdh) (bh:Binds K fdh ["value"] []) :
    FnOk P w K mg base CX0 2 f fd ["value", "numbers"] (spOne K):=by
  have G:FnOk P w K mg base CX0 1 fh fdh ["value"] spWhole:=ok_whole Fh T
  refine F.ok scOne (fun vs H Q E h=>?_) (fun cdv A outer s H vs Q E hr h=>?_)
  · obtain ⟨i,p,ns,rfl,_⟩:=h
    rfl
  · obtain ⟨i,p,ns,rfl,hS,q⟩:=h
    refine ⟨_,pss_one (ps_ret (pe_and (pe_call G hr rfl mh Fh.kp bh .nil pass0 (pa_cons (pv 0) pa_nil)) (pe_one (pe_cmpR op_in_seq (pv 0) (pv 1) (by with_unfolding_all rfl))))),?_⟩
    refine ⟨_,rfl,i,rfl,true,rfl,iteT ?_⟩
    refine ⟨_,rfl,_,rfl,p,_,rfl, .inl hS,rfl,flat_ints _,?_⟩
    show Q (V.bl (inV (V.int i) (ns.map V.int))) H
    rw [inV_int]
    exact q
theorem scFits:FnScope NF ["land", "row"] (defScope sFits):=⟨rfl,rfl,rfl,by decide +kernel,rfl,by decide +kernel,by decide +kernel⟩
theorem bkFits:Blk NF (defScope sFits) (allScope ((defBody sFits).getD 5 (.Pass ⟨0,0,0,0⟩))) ["begin_here"] [4]:=⟨rfl,by decide +kernel,by decide +kernel,by decide +kernel,rfl,by decide +kernel⟩
theorem ndFits:(["lane", "begin_here"]:List Str).Nodup:=by decide +kernel
theorem ok_fits {c:Cs} {f ft fo f3 f4:Addr} {fd dt d1 d3 d4:FuncData} (F:Fun K "row_fits" "row_fits" sFits f fd) (T:Txt mg) (L:Lnd K c) (M:Mths K c f3 f4 d3 d4)
    (mt:mg "are_two_places" = some (.ref ft)) (kt:PySem.W.keepIn K (.ref ft)=true) (bt:Binds K dt ["places", "one", "other"] []) (Gt:FnOk P w K mg base CX0 3 ft dt ["places", "one", "other"] spTwo)
    (mo:mg "is_one_of" = some (.ref fo)) (ko:PySem.W.keepIn K (.ref fo)=true) (bo:Binds K d1 ["value", "numbers"] []) (Go:FnOk P w K mg base CX0 2 fo d1 ["value", "numbers"] (spOne K))
    (G3:FnOk P w K mg base CX0 1 f3 d3 ["self", "place"] (spIx c Prod.fst)) (G4:FnOk P w K mg base CX0 1 f4 d4 ["self", "place"] (spIx c Prod.snd)) :
    FnOk P w K mg base CX0 4 f fd ["land", "row"] (spFits c):=by
  refine F.ok scFits (fun vs H Q E h=>?_) (fun cdv A outer s H vs Q E hr h=>?_)
  · obtain ⟨x,dx,lt,t,l,n,tvs,ps,r,rfl,_⟩:=h
    rfl
  · obtain ⟨x,dx,lt,t,l,n,tvs,ps,r,rfl,hL,hR,hlen,hsl,q⟩:=h
    have hr1:Room 1 _:=hr.mono (by decide)
    have hr2:Room 2 _:=hr.mono (by decide)
    refine ⟨_,pss_cons (ps_set (i:=2) scFits.nd rfl (Or.inl rfl) (pe_ix ix_tup (pv 1) pe_int (fun _ _=>rfl)))
      (pss_cons (ps_set (i:=3) scFits.nd rfl (Or.inl rfl) (pe_ix ix_tup (pv 1) pe_int (fun _ _=>rfl)))
      (pss_cons (ps_if (pt_not (pt_val (pe_call Gt hr rfl mt kt bt .nil pass0 (pa_cons (pe_fld (pv 0) rfl) (pa_cons (pv 2) (pa_cons (pe_ix ix_tup (pv 1) pe_int (fun _ _=>rfl)) pa_nil)))))) (pss_one (ps_ret pe_bl)) pss_nil)
      (pss_cons (ps_if (PW.pt (pw_and (pt_cmpR op_notN (pv 3) pe_non (nomark _)) (pw_and1 (pt_not (pt_val (pe_call Go hr2 rfl mo ko bo .nil pass0 (pa_cons (pv 3) (pa_cons (pe_meth (pv 0) L.cl M.m4 G4 hr1 M.b4 .nil pass0 (pa_cons (pv 2) pa_nil)) pa_nil)))))))) (pss_one (ps_ret pe_bl)) pss_nil)
      (pss_cons (ps_set (i:=4) scFits.nd rfl (Or.inr rfl) (pe_meth (pv 0) L.cl M.m3 G3 hr1 M.b3 .nil pass0 (pa_cons (pv 2) pa_nil)))
      (pss_one (ps_ret (pe_callB (call_all rfl) rfl T.all PyProof.Rows.boot_all (pa_cons (pe_comp (own:=["lane"]) (capN:=["begin_here"]) (cap:=[4]) bkFits rfl (pi_list (pe_ix ix_tup (pv 1) pe_int (fun _ _=>rfl)))
        (fun C s' H' fp=>⟨pg_name (i:=0) ndFits rfl (Or.inl rfl),pts_nil,pe_call Go hr2 rfl mo ko bo .nil pass0 (pa_cons (pv 0) (pa_cons (pv 1) pa_nil))⟩)) pa_nil)))))))),?_⟩
    obtain ⟨hT,hl⟩:=hR
    have hTT:SqT K H t [.int r.p, .int r.g,cV r.c, .ref l]:=SqT.of hT
    refine ⟨_,rfl,t,_,0,_,rfl,rfl,hTT,atI_nat (j:=0) rfl,?_⟩
    refine ⟨_,rfl,t,_,2,_,rfl,rfl,hTT,atI_nat (j:=2) rfl,?_⟩
    refine ⟨_,rfl,x,c.land,dx,_,_,rfl,hL.1,L.cl,L.np,rfl,_,rfl,_,rfl,t,_,1,_,rfl,rfl,hTT,atI_nat (j:=1) rfl,n,r.p,r.g,rfl,_,rfl,?_⟩
    cases ho:okP n (r.p,r.g) with
    | false =>
      have e:fits n ps r=false:=by unfold fits; rw [ho]; rfl
      refine iteT ?_
      have:=q H (Same.refl H)
      rw [e] at this
      exact this
    | true =>
      refine iteF ?_
      cases hc:r.c with
      | none =>
        refine ⟨_,rfl,rfl,_,rfl,iteF (iteF ?_)⟩
        have s1:=Same.refl H
        have e1:fits n ps r=r.s.all fun k=>decide (k ∈ ixM Prod.fst ps r.p):=by unfold fits; rw [ho,hc]; rfl
        refine ⟨_,rfl,x,dx,_,rfl,s1 _ _ hL.1,rfl,_,rfl,x,dx,lt,n,tvs,ps,r.p,rfl,⟨s1 _ _ hL.1,s1 _ _ hL.2.1,Lns.same s1 hL.2.2⟩,hlen,fun H2 D2 s2 hD2=>?_⟩
        have s3:=(s1.trans s2).new (o := .lst (ixV Prod.fst ps r.p ps.length)) hD2
        have g2:(upd H2 D2 (.lst (ixV Prod.fst ps r.p ps.length))) D2=some (.lst (ixV Prod.fst ps r.p ps.length)):=upd_same
        generalize upd H2 D2 (.lst (ixV Prod.fst ps r.p ps.length))=H3 at s3 g2 ⊢
        refine ⟨_,rfl,t,_,3,_,rfl,rfl,SqT.of (s3 _ _ hT),atI_nat (j:=3) rfl,l,rfl,⟨_,SqL.of (s3 _ _ hl)⟩,?_⟩
        refine comp_lst (xs:=natV r.s) (fun _=>true) (fun v=>match v with | .int i => .bl (decide (i ∈ iz (ixM Prod.fst ps r.p))) | _ => .non) (by rw [PySem.sizeLine_eq]; simp only [natV,List.length_map]; omega) (SqL.of (s3 _ _ hl)) (fun y acc N hy h=>?_) (fun D hD=>?_)
        · obtain ⟨k',_,rfl⟩:=List.mem_map.mp hy
          exact ⟨_,rfl,_,rfl,(k':Int),D2,iz (ixM Prod.fst ps r.p),rfl,by rw [← ixV_iz]; exact SqL.of g2,by simpa using h⟩
        · rw [all_bls]
          refine ⟨D,r.s.map fun k=>decide (k ∈ ixM Prod.fst ps r.p),rfl,SqL.of upd_same,?_⟩
          have:=q _ (s3.new (o := .lst ((r.s.map fun k=>decide (k ∈ ixM Prod.fst ps r.p)).map V.bl)) hD)
          rw [e1] at this
          rw [all_id]
          exact this
      | some k =>
        refine ⟨_,rfl,rfl,_,rfl,iteT ?_⟩
        refine ⟨_,rfl,_,rfl,x,dx,_,rfl,hL.1,rfl,_,rfl,x,dx,lt,n,tvs,ps,r.p,rfl,hL,hlen,fun H' D s' hD=>?_⟩
        have s1:=s'.new (o := .lst (ixV Prod.snd ps r.p ps.length)) hD
        refine ⟨(k:Int),D,iz (ixM Prod.snd ps r.p),rfl,by rw [← ixV_iz]; exact SqL.of upd_same,_,rfl,?_⟩
        rw [iz_dec]
        cases hk:decide (k ∈ ixM Prod.snd ps r.p) with
        | false =>
          refine iteT ?_
          have e:fits n ps r=false:=by unfold fits; rw [ho,hc]; dsimp only; rw [hk]; rfl
          have:=q _ s1
          rw [e] at this
          exact this
        | true =>
          have e1:fits n ps r=r.s.all fun k=>decide (k ∈ ixM Prod.fst ps r.p):=by unfold fits; rw [ho,hc]; dsimp only; rw [hk]; rfl
          refine iteF ?_
          refine ⟨_,rfl,x,dx,_,rfl,s1 _ _ hL.1,rfl,_,rfl,x,dx,lt,n,tvs,ps,r.p,rfl,⟨s1 _ _ hL.1,s1 _ _ hL.2.1,Lns.same s1 hL.2.2⟩,hlen,fun H2 D2 s2 hD2=>?_⟩
          have s3:=(s1.trans s2).new (o := .lst (ixV Prod.fst ps r.p ps.length)) hD2
          have g2:(upd H2 D2 (.lst (ixV Prod.fst ps r.p ps.length))) D2=some (.lst (ixV Prod.fst ps r.p ps.length)):=upd_same
          generalize upd H2 D2 (.lst (ixV Prod.fst ps r.p ps.length))=H3 at s3 g2 ⊢
          refine ⟨_,rfl,t,_,3,_,rfl,rfl,SqT.of (s3 _ _ hT),atI_nat (j:=3) rfl,l,rfl,⟨_,SqL.of (s3 _ _ hl)⟩,?_⟩
          refine comp_lst (xs:=natV r.s) (fun _=>true) (fun v=>match v with | .int i => .bl (decide (i ∈ iz (ixM Prod.fst ps r.p))) | _ => .non) (by rw [PySem.sizeLine_eq]; simp only [natV,List.length_map]; omega) (SqL.of (s3 _ _ hl)) (fun y acc N hy h=>?_) (fun D hD=>?_)
          · obtain ⟨k',_,rfl⟩:=List.mem_map.mp hy
            exact ⟨_,rfl,_,rfl,(k':Int),D2,iz (ixM Prod.fst ps r.p),rfl,by rw [← ixV_iz]; exact SqL.of g2,by simpa using h⟩
          · rw [all_bls]
            refine ⟨D,r.s.map fun k=>decide (k ∈ ixM Prod.fst ps r.p),rfl,SqL.of upd_same,?_⟩
            have:=q _ (s3.new (o := .lst ((r.s.map fun k=>decide (k ∈ ixM Prod.fst ps r.p)).map V.bl)) hD)
            rw [e1] at this
            rw [all_id]
            exact this
end
end K66
namespace K66
open PySem L2
structure Ts where
  tab:Addr
  told:Addr
  ne:Addr
def spTab (K:PySem.W.Frag):Sp:=fun vs H Q _=>∃ (x C dx:Addr) (lv:V),vs=[.ref x,lv]∧H x=some (.ins C dx [])∧Cls K C∧NoAttr K C "land"∧Q .non (upd H x (.ins C dx [("land",lv)]))
def spTabW:Sp:=fun vs H Q _=>∃ a b c d:V,vs=[a,b,c,d]∧∀ p,H p=none→Q (.ref p) (upd H p (.lst []))
def setV (r:Rw):V := .int (Yd.setN r.s 0:Nat)
def spTold (P:Program) (w:World) (K:PySem.W.Frag) (c:Cs) (ts:Ts):Sp:=fun vs H Q E=>∃ (x dx lx ldx lt p:Addr) (n:Int) (tvs rvs:List V) (ps:List (Int × Int)) (rs:List Rw),
  vs=[.ref x, .ref lx, .ref p]∧H x=some (.ins ts.told dx [])∧LandAt H c lx ldx lt n tvs ps∧SqL K H p rvs∧Rws H rvs rs∧rvs.length ≤ 100000∧ps.length ≤ 1000∧(∀ r ∈ rs,(∀ k ∈ r.s,k ≤ 1000)∧r.s.length ≤ 1000) ∧
  (∀ i,firstBad n ps rs rs.length=some i→∀ H' d,Off x H H'→H' d=some (.xd [("row", .int i)])→E (.ref ts.ne) (some d) H') ∧
  (firstBad n ps rs rs.length=none→∀ H' de kvs,Off x H H'→H' x=some (.ins ts.told dx [("land", .ref lx),("entries", .ref de)])→DicAt P w H' de kvs→(∀ k,valO kvs k=(lastR rs k).map setV)→Q .non H')
def spToldW (P:Program) (w:World) (ts:Ts):Sp:=fun vs H Q _=>∃ (x dx de:Addr) (lv:V) (kvs:List Ent) (r:Rw) (m:Nat),vs=[.ref x, .int r.p, .int r.g,cV r.c]∧H x=some (.ins ts.told dx [("land",lv),("entries", .ref de)])∧DicAt P w H de kvs ∧
  (valO kvs (keyOf r)).getD (.int 0) = .int m∧m < 2 ^ 400∧∀ H' D,Same H H'→H' D=none→Q (.ref D) (upd H' D (.lst (memV m)))
structure Tbl (K:PySem.W.Frag) (mg:Str→Option Value) (ts:Ts) (f1 f2:Addr) (d1 d2:FuncData):Prop where
  ct:Cls K ts.tab
  nt:NoAttr K ts.tab "land"
  cd:Cls K ts.told
  nd1:NoAttr K ts.told "land"
  nd2:NoAttr K ts.told "entries"
  mt:mg "Table" = some (.ref ts.tab)
  cm:CMeth K ts.tab "__init__" f1
  bt:Binds K d1 ["self", "land"] []
  mne:mg "NoEntry" = some (.ref ts.ne)
  xne:excInI K ts.ne (some (.ref f2))=true
  kne:PySem.W.keepIn K (.ref ts.ne)=true
  cne:XCls K ts.ne
  nne:PySem.W.findIn K (.ref ts.ne) "row" = some none
  ine:PySem.W.isFn K (.ref f2)=true
  Fne:Fun K "__init__" "NoEntry.__init__" sNE f2 d2
  bne:Binds K d2 ["self", "row"] []
abbrev NT:List Str:=["self", "land", "rows", "number", "row", "key"]
theorem Off.land {H H':Hp} {x C dx:Addr} (o:Off x H H') (hx:H x=some (.ins C dx [])) {c:Cs} {lx ldx lt:Addr} {n:Int} {tvs:List V} {ps:List (Int × Int)} (h:LandAt H c lx ldx lt n tvs ps):LandAt H' c lx ldx lt n tvs ps :=
  ⟨o _ _ (ne_of h.1 hx (by intro z; cases z)) h.1,o _ _ (ne_of h.2.1 hx (by intro z; cases z)) h.2.1,o.lns hx h.2.2⟩
section
variable {P:Program} {w:World} {K:PySem.W.Frag} {mg:Str→Option Value} {base:Heap}
theorem scNE:FnScope ["self", "row"] ["self", "row"] (defScope sNE):=⟨rfl,rfl,rfl,by decide +kernel,rfl,by decide +kernel,by decide +kernel⟩
theorem ok_ne {f:Addr} {fd:FuncData} (F:Fun K "__init__" "NoEntry.__init__" sNE f fd):FnOk P w K mg base CX0 1 f fd ["self", "row"] (spXi K "row"):=by
  refine F.ok scNE (fun vs H Q E h=>?_) (fun cdv A outer s H vs Q E hr h=>?_)
  · obtain ⟨e,C,tt,v,rfl,_⟩:=h
    rfl
  · obtain ⟨e,C,tt,v,rfl,h1,h2,h3,q⟩:=h
    refine ⟨_,pss_one (ps_fldX (pv 0) (pv 1) rfl),?_⟩
    exact ⟨_,rfl,_,rfl,e,C,tt,rfl,h1,h2,h3,q⟩
theorem scTab:FnScope ["self", "land"] ["self", "land"] (defScope sTab):=⟨rfl,rfl,rfl,by decide +kernel,rfl,by decide +kernel,by decide +kernel⟩
theorem ok_tab {f:Addr} {fd:FuncData} (F:Fun K "__init__" "Table.__init__" sTab f fd):FnOk P w K mg base CX0 1 f fd ["self", "land"] (spTab K):=by
  refine F.ok scTab (fun vs H Q E h=>?_) (fun cdv A outer s H vs Q E hr h=>?_)
  · obtain ⟨x,C,dx,lv,rfl,_⟩:=h
    rfl
  · obtain ⟨x,C,dx,lv,rfl,hx,hc,hn,q⟩:=h
    refine ⟨_,pss_one (ps_fld (pv 0) (pv 1) rfl),?_⟩
    exact ⟨_,rfl,_,rfl,x,C,dx,_,rfl,hx,hc,hn,by show 0 < 1000; decide,q⟩
theorem scToldW:FnScope ["self", "place", "goal", "came"] ["self", "place", "goal", "came"] (defScope sToldW):=⟨rfl,rfl,rfl,by decide +kernel,rfl,by decide +kernel,by decide +kernel⟩
theorem ok_toldW {ts:Ts} {f fm f1 f2:Addr} {fd dm d1 d2:FuncData} (F:Fun K "ways" "Told.ways" sToldW f fd) (B:Tbl K mg ts f1 f2 d1 d2) (mm:mg "members" = some (.ref fm)) (km:PySem.W.keepIn K (.ref fm)=true) (bm:Binds K dm ["some"] [])
    (Gm:FnOk P w K mg base CX0 2 fm dm ["some"] spMem):FnOk P w K mg base CX0 3 f fd ["self", "place", "goal", "came"] (spToldW P w ts):=by
  refine F.ok scToldW (fun vs H Q E h=>?_) (fun cdv A outer s H vs Q E hr h=>?_)
  · obtain ⟨x,dx,de,lv,kvs,r,m,rfl,_⟩:=h
    rfl
  · obtain ⟨x,dx,de,lv,kvs,r,m,rfl,hx,hd,hv,hm,q⟩:=h
    have hu:=hu_of hr
    refine ⟨_,pss_one (ps_ret (pe_call Gm hr rfl mm km bm .nil pass0 (pa_cons (pe_oget2 hu (pe_fld (pv 0) rfl) (pa_cons (pe_tup (pa_cons (pv 1) (pa_cons (pv 2) (pa_cons (pv 3) pa_nil)))) (pa_cons pe_int pa_nil))) pa_nil))),?_⟩
    refine ⟨_,rfl,x,ts.told,dx,_,_,rfl,hx,B.cd,B.nd2,rfl,de,kvs,rfl,hd,?_⟩
    refine ⟨_,rfl,_,rfl,_,rfl,by show 3 ≤ sizeLine; decide,fun t ht=>?_⟩
    have s1:Same H (upd H t (.tup [.int r.p, .int r.g,cV r.c])):=(Same.refl H).new ht
    refine ⟨_,_,valO kvs (keyOf r),rfl,⟨kvs,keyOf r,t,hd.same s1,rfl,by rw [key_tup]; exact upd_same,rfl⟩,?_⟩
    rw [hv]
    exact ⟨m,rfl,hm,fun D hD=>q _ D s1 hD⟩
theorem scTold:FnScope NT ["self", "land", "rows"] (defScope sTold):=⟨rfl,rfl,rfl,by decide +kernel,rfl,by decide +kernel,by decide +kernel⟩
theorem ok_told {c:Cs} {ts:Ts} {f ff fs f1 f2:Addr} {fd df ds d1 d2:FuncData} (F:Fun K "__init__" "Told.__init__" sTold f fd) (T:Txt mg) (B:Tbl K mg ts f1 f2 d1 d2) (G1:FnOk P w K mg base CX0 1 f1 d1 ["self", "land"] (spTab K))
    (mf:mg "row_fits" = some (.ref ff)) (kf:PySem.W.keepIn K (.ref ff)=true) (bf:Binds K df ["land", "row"] []) (Gf:FnOk P w K mg base CX0 4 ff df ["land", "row"] (spFits c))
    (ms:mg "set_of" = some (.ref fs)) (ks:PySem.W.keepIn K (.ref fs)=true) (bs:Binds K ds ["numbers"] []) (Gs:FnOk P w K mg base CX0 1 fs ds ["numbers"] (spSet K)) :
    FnOk P w K mg base (CXe P w) 5 f fd ["self", "land", "rows"] (spTold P w K c ts):=by
  have Gn:FnOk P w K mg base CX0 1 f2 d2 ["self", "row"] (spXi K "row"):=ok_ne B.Fne
  refine F.okX scTold (fun vs H Q E h=>?_) (fun cdv A outer s H vs Q E hr h=>?_)
  · obtain ⟨x,dx,lx,ldx,lt,p,n,tvs,rvs,ps,rs,rfl,_⟩:=h
    rfl
  · obtain ⟨x,dx,lx,ldx,lt,p,n,tvs,rvs,ps,rs,rfl,hx,hL,hp,hR,hlen,hps,hsm,hE,hQ⟩:=h
    have hr1:Room 1 _:=hr.mono (by decide)
    have hr2:Room 2 _:=hr.mono (by decide)
    have hu:=hu_of hr
    refine ⟨_,pss_cons (ps_expr (pe_cmeth (pe_glob (v := .ref ts.tab) rfl B.mt rfl) B.cm G1 hr1 B.bt .nil pass0 (pa_cons (pv 0) (pa_cons (pv 1) pa_nil))))
      (pss_cons (ps_fld (pv 0) (show PE _ _ (tONew P w) from pe_onew) rfl)
      (pss_one (ps_for own_def rfl (pi_enumL rfl T.enum (pa_cons (pv 2) pa_nil)) (pg_tup rfl (pgs_cons (pg_name (i:=3) scTold.nd rfl (Or.inl rfl)) (pgs_cons (pg_name (i:=4) scTold.nd rfl (Or.inl rfl)) pgs_nil)))
        (pss_cons (ps_set (i:=5) scTold.nd rfl (Or.inl rfl) (pe_tup (pa_cons (pe_ix ix_tup (pv 4) pe_int (fun _ _=>rfl)) (pa_cons (pe_ix ix_tup (pv 4) pe_int (fun _ _=>rfl)) (pa_cons (pe_ix ix_tup (pv 4) pe_int (fun _ _=>rfl)) pa_nil)))))
        (pss_cons (ps_if (PW.pt (pw_or (pt_not (pt_val (pe_call Gf hr rfl mf kf bf .nil pass0 (pa_cons (pv 1) (pa_cons (pv 4) pa_nil))))) (pw_or1 (pt_cmp (pc_oin hu (pv 5) (pe_fld (pv 0) rfl))))))
          (pss_one (ps_raise rfl B.xne passX_def (px_init B.xne B.ine B.kne Gn hr2 B.bne rfl B.mne (pa_cons (pv 3) pa_nil)))) pss_nil)
        (pss_one (ps_oput hu (pe_fld (pv 0) rfl) (pv 5) (pe_call Gs hr1 rfl ms ks bs .nil pass0 (pa_cons (pe_ix ix_tup (pv 4) pe_int (fun _ _=>rfl)) pa_nil)) rfl))))))),?_⟩
    refine ⟨rfl,_,rfl,_,rfl,x,ts.told,dx,_,rfl,hx,B.cd,B.nd1,?_⟩
    refine fun de hde=>⟨_,rfl,x,ts.told,dx,[("land", .ref lx)],rfl,by rw [upd_ne (ne_of_none upd_same hde)]; exact upd_same,B.cd,B.nd2,by show 1 < 1000; decide,?_⟩
    have nde:x ≠ de:=ne_of_none upd_same hde
    have hde0:H de=none:=by rw [upd_ne (Ne.symm nde)] at hde; exact hde
    generalize hH2:upd (upd (upd H x (.ins ts.told dx [("land", .ref lx)])) de (DicO P w de [])) x (.ins ts.told dx (putF "entries" (.ref de) [("land", .ref lx)]))=H2
    have o2:Off x H H2:=fun b o hb e=>by rw [← hH2,upd_ne hb,upd_ne (ne_of_none e hde0),upd_ne hb]; exact e
    have x2:H2 x=some (.ins ts.told dx [("land", .ref lx),("entries", .ref de)]):=by rw [← hH2,upd_same]; rfl
    have d2:DicAt P w H2 de []:=⟨by rw [← hH2,upd_ne (Ne.symm nde),upd_same],fun y hy=>by cases hy⟩
    have hrs:rvs.length=rs.length:=Paired.length hR
    refine ⟨_,rfl,p,rfl,⟨_,o2.sq hx hp⟩,for_enum (sq:=fun H=>SqL K H p) (xs:=rvs) (fun i σ H3=>∃ (a b k:Option V) (kvs:List Ent),Off x H H3∧H3 x=some (.ins ts.told dx [("land", .ref lx),("entries", .ref de)])∧DicAt P w H3 de kvs∧kvs.length ≤ i ∧
        (∀ k,valO kvs k=(lastR (rs.take i) k).map setV)∧(∀ j,j < i→badL n ps (rs.take j) (rs.getD j ⟨0,0,none,[]⟩)=false)∧σ=[some (.ref x),some (.ref lx),some (.ref p),a,b,k])
      ⟨none,none,none,[],o2,x2,d2,Nat.le_refl _,fun k=>rfl,fun j hj=>absurd hj (Nat.not_lt_zero _),rfl⟩ (fun i σ H3 _ ⟨_,_,_,_,o3,_⟩=>o3.sq hx hp) ?_ ?_⟩
    · rintro i v q σ H3 hv ⟨a,b,k,kvs,o3,x3,d3,l3,v3,g3,rfl⟩ hq
      obtain ⟨r,hri,t,l,rfl,hT⟩:=Rws.get hR hv
      have hi:i < rs.length:=(List.getElem?_eq_some_iff.mp hri).1
      have egd:rs.getD i ⟨0,0,none,[]⟩ = r:=by rw [List.getD_eq_getElem?_getD,hri]; rfl
      have hT3:RwT H3 t l r:=⟨o3 _ _ (ne_of hT.1 hx (by intro z; cases z)) hT.1,o3 _ _ (ne_of hT.2 hx (by intro z; cases z)) hT.2⟩
      have hL3:=o3.land hx hL
      have s4:Same H3 (upd H3 q (.tup [.int i, .ref t])):=(Same.refl H3).new hq
      refine ⟨q,_,rfl,SqT.of upd_same,rfl,_,_,rfl,_,_,rfl,rfl,?_⟩
      generalize upd H3 q (.tup [.int i, .ref t])=H4 at s4 ⊢
      have hT4:SqT K H4 t [.int r.p, .int r.g,cV r.c, .ref l]:=SqT.of (s4 _ _ hT3.1)
      refine ⟨_,rfl,t,_,0,_,rfl,rfl,hT4,atI_nat (j:=0) rfl,_,rfl,t,_,1,_,rfl,rfl,hT4,atI_nat (j:=1) rfl,_,rfl,t,_,2,_,rfl,rfl,hT4,atI_nat (j:=2) rfl,by show 3 ≤ sizeLine; decide,fun kt hkt=>?_⟩
      have s5:Same H3 (upd H4 kt (.tup [.int r.p, .int r.g,cV r.c])):=s4.new hkt
      have k5:(upd H4 kt (.tup [.int r.p, .int r.g,cV r.c])) kt=some (.tup ((keyOf r).map okV)):=by rw [key_tup]; exact upd_same
      generalize upd H4 kt (.tup [.int r.p, .int r.g,cV r.c])=H5 at s5 k5 ⊢
      refine ⟨_,rfl,_,rfl,lx,ldx,lt,t,l,n,tvs,ps,r,rfl,⟨s5 _ _ hL3.1,s5 _ _ hL3.2.1,Lns.same s5 hL3.2.2⟩,hT3.same s5,hps,(hsm r (List.mem_of_getElem? hri)).2,fun H6 s56=>⟨_,rfl,?_⟩⟩
      have s6:=s5.trans s56
      have k6:=s56 _ _ k5
      have x6:=s6 _ _ x3
      have d6:=d3.same s6
      have flown:badL n ps (rs.take i) r=true→∀ e tt,H6 e=none→∀ d,upd H6 e (ExcAt e ts.ne tt none) d=none →
          ∃ dd,(upd (upd (upd H6 e (ExcAt e ts.ne tt none)) d (.xd [("row", .int i)])) e (ExcAt e ts.ne tt (some d))) e=some (ExcAt e ts.ne tt dd)∧E (.ref ts.ne) dd (del (upd (upd (upd H6 e (ExcAt e ts.ne tt none)) d (.xd [("row", .int i)])) e (ExcAt e ts.ne tt (some d))) e):=by
        intro hb e tt he d hd
        obtain ⟨m1,m2,m3⟩:=made_heap (o:=ExcAt e ts.ne tt none) (o':=ExcAt e ts.ne tt (some d)) (x := .xd [("row", .int i)]) he hd
        exact ⟨some d,m3,hE i (firstBad_some hi g3 (by rw [egd]; exact hb)) _ d (o3.same (s6.trans m1)) m2⟩
      cases hf:fits n ps r with
      | false =>
        refine iteT (iteT ⟨_,rfl,by show 1 ≤ sizeLine; decide,fun e tt he=>⟨e,_,tt,_,rfl,upd_same,B.cne,B.nne,fun d hd=>⟨rfl,?_⟩⟩⟩)
        exact flown (by rw [bad_fits,hf]; rfl) e tt he d hd
      | true =>
        refine iteF ⟨_,rfl,_,rfl,x,ts.told,dx,_,_,rfl,x6,B.cd,B.nd2,rfl,de,_,rfl,⟨kvs,keyOf r,kt,d6,rfl,k6,rfl⟩,_,rfl,?_⟩
        have eS:(valO kvs (keyOf r)).isSome=(rs.take i).any fun a=>decide (keyOf a=keyOf r):=by rw [v3,Option.isSome_map,lastR_isSome]
        cases hS:(valO kvs (keyOf r)).isSome with
        | true =>
          refine iteT ⟨_,rfl,by show 1 ≤ sizeLine; decide,fun e tt he=>⟨e,_,tt,_,rfl,upd_same,B.cne,B.nne,fun d hd=>⟨rfl,?_⟩⟩⟩
          exact flown (by rw [bad_fits,hf,← eS,hS]; rfl) e tt he d hd
        | false =>
          refine iteF ?_
          have hT6:=hT3.same s6
          refine ⟨_,rfl,t,_,3,_,rfl,rfl,SqT.of hT6.1,atI_nat (j:=3) rfl,l,r.s,rfl,SqL.of hT6.2,(hsm r (List.mem_of_getElem? hri)).1,?_⟩
          refine ⟨_,rfl,x,ts.told,dx,_,_,rfl,x6,B.cd,B.nd2,rfl,_,rfl,de,kvs,keyOf r,kt,rfl,d6,rfl,k6,by rw [PySem.sizeLine_eq]; omega,?_⟩
          have hx6:x ≠ de:=nde
          refine ⟨_,_,_,putO kvs (keyOf r) kt (setV r),fun b' o hb e=>?_,?_,⟨upd_same,putO_keys (F:=fun k a=>(upd H6 de (DicO P w de (putO kvs (keyOf r) kt (setV r)))) a=some (.tup (k.map okV))) (fun y hy=>?_) ?_⟩,?_,fun k'=>?_,fun j hj=>?_,rfl⟩
          · rw [upd_ne (ne_of_none e hde0)]; exact s6 _ _ (o3 _ _ hb e)
          · rw [upd_ne nde]; exact x6
          · rw [upd_ne (ne_of (d6.2 y hy) d6.1 (by intro z; cases z))]; exact d6.2 y hy
          · rw [upd_ne (ne_of k6 d6.1 (by intro z; cases z))]; exact k6
          · exact Nat.le_trans putO_length (Nat.succ_le_succ l3)
          · rw [valO_put,List.take_succ,hri,Option.toList_some,lastR_snoc,v3]
            by_cases hk:k' = keyOf r
            · rw [if_pos hk,if_pos hk]; rfl
            · rw [if_neg hk,if_neg hk]
          · rcases Nat.lt_or_ge j i with h | h
            · exact g3 j h
            · have:j=i:=by omega
              subst this
              rw [egd,bad_fits,hf,← eS,hS]; rfl
    · rintro σ H3 ⟨a,b,k,kvs,o3,x3,d3,l3,v3,g3,rfl⟩
      rw [hrs] at g3 v3
      rw [List.take_length] at v3
      exact hQ (firstBad_none g3) H3 de kvs o3 x3 d3 v3
end
end K66
namespace K66
open PySem L2
def nV (ps:List Nat):List V:=ps.map fun q:Nat=>V.int (q:Int)
theorem nV_len (ps:List Nat):(nV ps).length=ps.length:=by simp [nV]
theorem nV_get {ps:List Nat} {k q:Nat} (h:ps[k]? = some q):(nV ps)[k]? = some (V.int (q:Int)):=by simp [nV,h]
theorem nV_app (a b:List Nat):nV (a ++ b)=nV a ++ nV b:=by unfold nV; rw [List.map_append]
theorem nV_mem {ps:List Nat} {v:V} (h:v ∈ nV ps):∃ q:Nat,q ∈ ps∧v = .int (q:Int):=by
  obtain ⟨q,hq,e⟩:=List.mem_map.mp h
  exact ⟨q,hq,e.symm⟩
def spAt (c:Cs) (sel:Int × Int→Int):Sp:=fun vs H Q _=>∃ (x dx t:Addr) (n:Int) (tvs:List V) (ps:List (Int × Int)) (k:Nat) (pr:Int × Int),vs=[.ref x, .int k]∧LandAt H c x dx t n tvs ps∧ps[k]? = some pr∧Q (.int (sel pr)) H
structure EndM (K:PySem.W.Frag) (c:Cs) (f:Addr) (d:FuncData):Prop where
  m:Meth K c.land "end_of" f
  b:Binds K d ["self", "lane"] []
theorem int_eq' (a b:Int):decide (V.int a=V.int b)=decide (a=b):=by
  by_cases h:a=b
  · rw [h]; simp
  · rw [decide_eq_false h,decide_eq_false fun z=>h (by injection z)]
theorem ixN_nat {n i:Nat} (h:i < n):ixN n (i:Int)=some i:=by
  unfold ixN
  rw [if_pos (by omega),if_pos (by omega),Int.toNat_natCast]
def mN (m:Nat):List Nat:=Yd.memN m (Builtin.Int.intBits (m:Int))
section
variable {P:Program} {w:World} {K:PySem.W.Frag} {mg:Str→Option Value} {base:Heap}
theorem scEnd:FnScope ["self", "lane"] ["self", "lane"] (defScope sEnd):=⟨rfl,rfl,rfl,by decide +kernel,rfl,by decide +kernel,by decide +kernel⟩
theorem ok_end {c:Cs} {f:Addr} {fd:FuncData} (F:Fun K "end_of" "Land.end_of" sEnd f fd) (L:Lnd K c):FnOk P w K mg base CX0 1 f fd ["self", "lane"] (spAt c Prod.snd):=by
  refine F.ok scEnd (fun vs H Q E h=>?_) (fun cdv A outer s H vs Q E hr h=>?_)
  · obtain ⟨x,dx,t,n,tvs,ps,k,pr,rfl,_⟩:=h
    rfl
  · obtain ⟨x,dx,t,n,tvs,ps,k,pr,rfl,⟨hx,ht,hl⟩,hk,q⟩:=h
    refine ⟨_,pss_one (ps_ret (pe_ix ix_tup (pe_ix ix_tup (pe_fld (pv 0) rfl) (pv 1) (fun _ _=>rfl)) pe_int (fun _ _=>rfl))),?_⟩
    obtain ⟨v,hv,u,rfl,hu⟩:=Lns.get2 hl hk
    refine ⟨_,rfl,x,c.land,dx,_,_,rfl,hx,L.cl,L.nl,rfl,_,rfl,t,_,_,_,rfl,rfl,SqT.of ht,atI_nat hv,u,_,1,_,rfl,rfl,SqT.of hu,atI_nat (j:=1) rfl,q⟩
end
end K66
namespace K66
open PySem L2
def isI:V→Bool
  | .int _=>true
  | _=>false
def okv:V→Int→Int→Bool
  | .int i,a,b=>decide (a ≤ i∧i ≤ b)
  | _,_,_=>false
inductive Sca:V→Prop
  | int (i:Int):Sca (.int i)
  | bl (b:Bool):Sca (.bl b)
  | non:Sca .non
structure Kinds (K:PySem.W.Frag):Prop where
  ii:PySem.W.kitOne K (.type "int") (.type "int")=some true
  ib:PySem.W.kitOne K (.type "int") (.type "bool")=some false
  bi:PySem.W.kitOne K (.type "bool") (.type "int")=some true
  bb:PySem.W.kitOne K (.type "bool") (.type "bool")=some true
  ni:PySem.W.kitOne K (.type "NoneType") (.type "int")=some false
def spWholeV:Sp:=fun vs H Q _=>∃ v,vs=[v]∧Sca v∧Q (.bl (isI v)) H
def spWithinV:Sp:=fun vs H Q _=>∃ (v:V) (a b:Int),vs=[v, .int a, .int b]∧Sca v∧Q (.bl (okv v a b)) H
def spCell (K:PySem.W.Frag):Sp:=fun vs H Q _=>∃ (a:Addr) (ns:List Int) (k:Nat),vs=[.ref a, .int k]∧SqL K H a (ns.map V.int)∧∀ d,Q (.int d) H
def spMix:Sp:=fun vs H Q _=>∃ (c:Int) (k:Nat),vs=[.int c, .int k]∧k ≤ 1000000∧∀ d:Int,0 ≤ d→Q (.int d) H
theorem Lns.imp {H H':Hp} (h:∀ v p,LnV H v p→LnV H' v p):∀ {vs:List V} {ps:List (Int × Int)},Lns H vs ps→Lns H' vs ps
  | _,_, .nil => .nil
  | _,_, .cons z r => .cons (h _ _ z) (Lns.imp h r)
def hV:Option Int→V
  | none => .non
  | some z => .int z
abbrev Fs:=List (Str × V)
def fs4 (r b:Int) (h:V) (pa:Addr):Fs:=[("rights", .int r),("returning", .int b),("holder",h),("pieces", .ref pa)]
structure LaneAt (H:Hp) (C x dx pa:Addr) (r b:Int) (h:Option Int) (pvs:List V) (qs:List (Int × Int)):Prop where
  ins:H x=some (.ins C dx (fs4 r b (hV h) pa))
  lst:H pa=some (.lst pvs)
  pcs:Lns H pvs qs
def Off2 (x pa:Addr) (H H':Hp):Prop:=∀ a o,a ≠ x→a ≠ pa→H a=some o→H' a=some o
theorem Off2.lns {C x dx pa:Addr} {fs:Fs} {pvs:List V} {H H':Hp} (h:Off2 x pa H H') (hx:H x=some (.ins C dx fs)) (hp:H pa=some (.lst pvs)) {vs:List V} {qs:List (Int × Int)}:Lns H vs qs→Lns H' vs qs :=
  Lns.imp fun _ _ ⟨t,e,q⟩=>⟨t,e,h _ _ (ne_of q hx (by intro z; cases z)) (ne_of q hp (by intro z; cases z)) q⟩
theorem LaneAt.same {H H':Hp} {C x dx pa:Addr} {r b:Int} {h:Option Int} {pvs:List V} {qs:List (Int × Int)} (L:LaneAt H C x dx pa r b h pvs qs) (s:Same H H'):LaneAt H' C x dx pa r b h pvs qs:=⟨s _ _ L.ins,s _ _ L.lst,Lns.same s L.pcs⟩
def openB (r:Int) (h:Option Int) (l c:Int):Bool:=if r=0 then false else if c=0 then decide (h=none) else decide (h=some l)
theorem hV_non (h:Option Int):decide (hV h=V.non)=decide (h=none):=by cases h <;> rfl
theorem hV_int (h:Option Int) (l:Int):decide (hV h=V.int l)=decide (h=some l):=by
  cases h with
  | none=>rfl
  | some z =>
    show decide (V.int z=V.int l)=_
    rw [int_eq']
    by_cases e:z=l
    · rw [decide_eq_true e,decide_eq_true (by rw [e])]
    · rw [decide_eq_false e,decide_eq_false fun q=>e (Option.some.inj q)]
theorem hV_scal (h:Option Int) (l:Int):scal (hV h) (.int l)=true:=by cases h <;> rfl
structure Lne (K:PySem.W.Frag) (C:Addr):Prop where
  cl:Cls K C
  n1:NoAttr K C "rights"
  n2:NoAttr K C "returning"
  n3:NoAttr K C "holder"
  n4:NoAttr K C "pieces"
structure ExM (K:PySem.W.Frag) (mg:Str→Option Value) (nm:Addr):Prop where
  m:mg "NoMove" = some (.ref nm)
  x:excInI K nm none=true
  k:PySem.W.keepIn K (.ref nm)=true
  e:PySem.W.exmOne K (.ref nm) (.ref nm)=some true
def spLnI (C:Addr):Sp:=fun vs H Q _=>∃ (x dx:Addr) (room:Int),vs=[.ref x, .int room]∧H x=some (.ins C dx [])∧∀ (pa:Addr) (H':Hp),H pa=none→(∀ a o,a ≠ x→H a=some o→H' a=some o)→LaneAt H' C x dx pa room 0 none [] []→Q .non H'
def spOpen (C:Addr):Sp:=fun vs H Q _=>∃ (x dx pa:Addr) (r b:Int) (h:Option Int) (l c:Int),vs=[.ref x, .int l, .int c]∧H x=some (.ins C dx (fs4 r b (hV h) pa))∧Q (.bl (openB r h l c)) H
def spPut (C nm:Addr):Sp:=fun vs H Q E=>∃ (x dx pa:Addr) (r b:Int) (h:Option Int) (pvs:List V) (qs:List (Int × Int)) (l c:Int) (last:Bool),vs=[.ref x, .int l, .int c, .bl last]∧LaneAt H C x dx pa r b h pvs qs∧pvs.length < 100000 ∧
  (openB r h l c=false→∀ H',Same H H'→E (.ref nm) none H') ∧
  (openB r h l c=true→∀ (t:Addr) (H':Hp),Off2 x pa H H'→LaneAt H' C x dx pa (r - 1) b (if last then none else some l) (pvs ++ [.ref t]) (qs ++ [(l,c)])→Q .non H')
def frontV:List V→V
  | [] => .non
  | v :: _=>v
def spFront (C:Addr):Sp:=fun vs H Q _=>∃ (x dx pa:Addr) (r b:Int) (h:Option Int) (pvs:List V) (qs:List (Int × Int)),vs=[.ref x]∧LaneAt H C x dx pa r b h pvs qs∧Q (frontV pvs) H
def spPull (C nm:Addr):Sp:=fun vs H Q E=>∃ (x dx pa:Addr) (r b:Int) (h:Option Int) (pvs:List V) (qs:List (Int × Int)),vs=[.ref x]∧LaneAt H C x dx pa r b h pvs qs ∧
  (pvs=[]→∀ H',Same H H'→E (.ref nm) none H') ∧
  (∀ v rest,pvs=v :: rest→∀ H':Hp,Off2 x pa H H'→LaneAt H' C x dx pa r (b + 1) h rest qs.tail→Q v H')
def spBring (C nm:Addr):Sp:=fun vs H Q E=>∃ (x dx pa:Addr) (r b:Int) (h:Option Int) (pvs:List V) (qs:List (Int × Int)),vs=[.ref x]∧LaneAt H C x dx pa r b h pvs qs ∧
  (b=0→∀ H',Same H H'→E (.ref nm) none H') ∧
  (b ≠ 0→∀ H':Hp,Off2 x pa H H'→LaneAt H' C x dx pa (r + 1) (b - 1) h pvs qs→Q .non H')
def spLnT (C:Addr):Sp:=fun vs H Q _=>∃ (x dx pa:Addr) (r b:Int) (h:Option Int) (pvs:List V) (qs:List (Int × Int)),vs=[.ref x]∧LaneAt H C x dx pa r b h pvs qs ∧
  ∀ (t ql:Addr) (H':Hp),Same H H'→H ql=none→H' t=some (.tup [.int r, .int b,hV h, .ref ql])→H' ql=some (.lst pvs)→Q (.ref t) H'
theorem seq0 (n:Nat):seqIndex? 0 (n + 1)=some 0:=by
  unfold seqIndex?
  simp
section
variable {P:Program} {w:World} {K:PySem.W.Frag} {mg:Str→Option Value} {base:Heap}
theorem ok_wholeV {f:Addr} {fd:FuncData} (F:Fun K "is_whole" "is_whole" sWhole f fd) (T:Txt mg) (Z:Kinds K):FnOk P w K mg base CX0 1 f fd ["value"] spWholeV:=by
  refine F.ok scWhole (fun vs H Q E h=>?_) (fun cdv A outer s H vs Q E hr h=>?_)
  · obtain ⟨m,rfl,_⟩:=h
    rfl
  · obtain ⟨v,rfl,hv,q⟩:=h
    refine ⟨_,pss_one (ps_ret (pe_and (pe_callB call_isV rfl T.isi PyProof.Rows.boot_isinstance (pa_cons (pv 0) (pa_cons (pe_bltn (v := .ty "int") rfl T.int PySem.Pv.boot_int rfl) pa_nil)))
      (pe_one (pe_not (pe_callB call_isV rfl T.isi PyProof.Rows.boot_isinstance (pa_cons (pv 0) (pa_cons (pe_bltn (v := .ty "bool") rfl T.bool PySem.Pv.boot_bool rfl) pa_nil))))))),?_⟩
    cases hv with
    | int i=>exact ⟨_,rfl, .int i,_, "int",true,rfl, .int i,Z.ii,true,rfl,iteT ⟨_,rfl, .int i,_, "bool",false,rfl, .int i,Z.ib,false,rfl,q⟩⟩
    | bl b=>exact ⟨_,rfl, .bl b,_, "int",true,rfl, .bl b,Z.bi,true,rfl,iteT ⟨_,rfl, .bl b,_, "bool",true,rfl, .bl b,Z.bb,true,rfl,q⟩⟩
    | non=>exact ⟨_,rfl, .non,_, "int",false,rfl, .non,Z.ni,false,rfl,iteF q⟩
theorem ok_withinV {f fh:Addr} {fd fdh:FuncData} (F:Fun K "is_within" "is_within" sWithin f fd) (T:Txt mg) (Z:Kinds K) (mh:mg "is_whole" = some (.ref fh)) (Fh:Fun K "is_whole" "is_whole" sWhole fh fdh) (bh:Binds K fdh ["value"] []) :
    FnOk P w K mg base CX0 2 f fd ["value", "least", "most"] spWithinV:=by
  have G:FnOk P w K mg base CX0 1 fh fdh ["value"] spWholeV:=ok_wholeV Fh T Z
  refine F.ok scWithin (fun vs H Q E h=>?_) (fun cdv A outer s H vs Q E hr h=>?_)
  · obtain ⟨i,a,b,rfl,_⟩:=h
    rfl
  · obtain ⟨v,a,b,rfl,hv,q⟩:=h
    refine ⟨_,pss_one (ps_ret (pe_and (pe_call G hr rfl mh Fh.kp bh .nil pass0 (pa_cons (pv 0) pa_nil)) (pe_one (pe_chain op_le op_le (pv 1) (pv 0) (pv 2))))),?_⟩
    cases hv with
    | bl x=>exact ⟨_,rfl,_,rfl, .bl x,false,rfl,iteF q⟩
    | non=>exact ⟨_,rfl,_,rfl, .non,false,rfl,iteF q⟩
    | int i =>
      refine ⟨_,rfl,_,rfl, .int i,true,rfl,iteT ?_⟩
      refine ⟨_,rfl,_,rfl,_,_,rfl,rfl,_,rfl,?_⟩
      have q:Q (V.bl (decide (a ≤ i∧i ≤ b))) H:=q
      by_cases h1:a ≤ i
      · rw [decide_eq_true h1]
        refine iteT ⟨_,rfl,_,_,rfl,rfl,?_⟩
        show Q (V.bl (decide (i ≤ b))) H
        by_cases h2:i ≤ b
        · rw [decide_eq_true h2]; rw [decide_eq_true ⟨h1,h2⟩] at q; exact q
        · rw [decide_eq_false h2]; rw [decide_eq_false fun z=>h2 z.2] at q; exact q
      · rw [decide_eq_false h1]
        refine iteF ?_
        rw [decide_eq_false fun z=>h1 z.1] at q; exact q
theorem scCell:FnScope ["_law_script", "_law_k"] ["_law_script", "_law_k"] (defScope sCell):=⟨rfl,rfl,rfl,by decide +kernel,rfl,by decide +kernel,by decide +kernel⟩
theorem ok_cell {f:Addr} {fd:FuncData} (F:Fun K "_law_cell_at" "_law_cell_at" sCell f fd) (T:Txt mg):FnOk P w K mg base CX0 1 f fd ["_law_script", "_law_k"] (spCell K):=by
  refine F.ok scCell (fun vs H Q E h=>?_) (fun cdv A outer s H vs Q E hr h=>?_)
  · obtain ⟨a,ns,k,rfl,_⟩:=h
    rfl
  · obtain ⟨a,ns,k,rfl,hS,q⟩:=h
    refine ⟨_,pss_cons (ps_if (pt_cmpR op_lt (pv 1) (pe_callB call_len_seq rfl T.len PySem.boot_len (pa_cons (pv 0) pa_nil)) (nomark _))
        (pss_one (ps_ret (pe_ix ix_list (pv 0) (pv 1) (fun _ _=>rfl)))) pss_nil) (pss_one (ps_ret pe_int)),?_⟩
    refine ⟨_,rfl,_,rfl,a,_,rfl, .inl hS,_,_,rfl,rfl,_,rfl,?_⟩
    refine ite2 (fun h=>?_) fun _=>q _
    have h':(k:Int) < ((ns.map V.int).length:Nat):=of_decide_eq_true h
    rw [List.length_map] at h'
    have hk:k < ns.length:=by omega
    exact ⟨_,rfl,_,rfl,a,_,k,V.int ns[k],rfl,rfl,hS,atI_nat (by simp [hk]),q _⟩
theorem scMix:FnScope ["_law_cell", "_law_k", "_law_number"] ["_law_cell", "_law_k"] (defScope sMix):=⟨rfl,rfl,rfl,by decide +kernel,rfl,by decide +kernel,by decide +kernel⟩
theorem ok_mix {f:Addr} {fd:FuncData} (F:Fun K "_law_mixed" "_law_mixed" sMix f fd):FnOk P w K mg base CX0 1 f fd ["_law_cell", "_law_k"] spMix:=by
  refine F.ok scMix (fun vs H Q E h=>?_) (fun cdv A outer s H vs Q E hr h=>?_)
  · obtain ⟨c,k,rfl,_⟩:=h
    rfl
  · obtain ⟨c,k,rfl,hk,q⟩:=h
    refine ⟨_,pss_cons (ps_set (i:=2) scMix.nd rfl (Or.inl rfl) (pe_op op_mod (pe_op op_mul (pe_op op_add (pe_op op_add (pe_op op_mod (pv 0) pe_int) (pe_op op_mul pe_int (pv 1))) pe_int) pe_int) pe_int))
      (pss_one (ps_ret (pe_op op_mod (pe_op op_mul (pv 2) (pe_op op_add (pe_op op_fdiv (pv 2) pe_int) pe_int)) pe_int))),?_⟩
    have pos:(0:Int) < 2147483647:=by decide
    refine ⟨_,rfl,_,_,rfl,rfl,pos,_,rfl,_,_,rfl,rfl, .inl ⟨by decide,by decide⟩,_,_,rfl,rfl,_,_,rfl,rfl,_,_,rfl,rfl, .inr ⟨by decide,by decide⟩,_,_,rfl,rfl,pos,?_⟩
    dsimp only
    have h1:=Int.emod_nonneg ((c % 2147483647 + 7919 * (k:Int) + 1) * 48271) (show (2147483647:Int) ≠ 0 by decide)
    have h2:=Int.emod_lt_of_pos ((c % 2147483647 + 7919 * (k:Int) + 1) * 48271) pos
    generalize (c % 2147483647 + 7919 * (k:Int) + 1) * 48271 % 2147483647=m at h1 h2
    refine ⟨_,rfl,_,rfl,_,_,rfl,rfl,⟨by decide,by decide⟩,_,_,rfl,rfl,_,_,rfl,rfl, .inl ⟨by omega,by omega⟩,_,_,rfl,rfl,pos,?_⟩
    exact q _ (Int.emod_nonneg _ (by decide))
theorem scLnI:FnScope ["self", "room"] ["self", "room"] (defScope sLnI):=⟨rfl,rfl,rfl,by decide +kernel,rfl,by decide +kernel,by decide +kernel⟩
theorem ok_lnI {C f:Addr} {fd:FuncData} (F:Fun K "__init__" "Lane.__init__" sLnI f fd) (L:Lne K C):FnOk P w K mg base CX0 1 f fd ["self", "room"] (spLnI C):=by
  refine F.ok scLnI (fun vs H Q E h=>?_) (fun cdv A outer s H vs Q E hr h=>?_)
  · obtain ⟨x,dx,room,rfl,_⟩:=h
    rfl
  · obtain ⟨x,dx,room,rfl,hx,q⟩:=h
    refine ⟨_,pss_cons (ps_fld (pv 0) (pv 1) rfl) (pss_cons (ps_fld (pv 0) pe_int rfl) (pss_cons (ps_fld (pv 0) pe_non rfl) (pss_one (ps_fld (pv 0) (pe_lst pa_nil) rfl)))),?_⟩
    refine ⟨_,rfl,_,rfl,x,C,dx,_,rfl,hx,L.cl,L.n1,by show 0 < 1000; decide,?_⟩
    refine ⟨_,rfl,x,C,dx,_,rfl,upd_same,L.cl,L.n2,by show 1 < 1000; decide,?_⟩
    refine ⟨_,rfl,x,C,dx,_,rfl,upd_same,L.cl,L.n3,by show 2 < 1000; decide,?_⟩
    refine ⟨Nat.zero_le _,fun pa hpa=>?_⟩
    have npx:x ≠ pa:=ne_of_none upd_same hpa
    refine ⟨_,rfl,x,C,dx,_,rfl,by rw [upd_ne npx]; exact upd_same,L.cl,L.n4,by show 3 < 1000; decide,?_⟩
    have hpa0:H pa=none:=by
      rw [upd_ne (Ne.symm npx),upd_ne (Ne.symm npx),upd_ne (Ne.symm npx)] at hpa
      exact hpa
    refine q pa _ hpa0 (fun a o ha e=>?_) ⟨upd_same,by rw [upd_ne (Ne.symm npx)]; exact upd_same, .nil⟩
    have nap:a ≠ pa:=fun z=>by
      rw [z,hpa0] at e
      cases e
    rw [upd_ne ha,upd_ne nap,upd_ne ha,upd_ne ha,upd_ne ha]
    exact e
theorem scOpen:FnScope ["self", "letter", "count"] ["self", "letter", "count"] (defScope sOpen):=⟨rfl,rfl,rfl,by decide +kernel,rfl,by decide +kernel,by decide +kernel⟩
theorem ok_open {C f:Addr} {fd:FuncData} (F:Fun K "open_to" "Lane.open_to" sOpen f fd) (L:Lne K C):FnOk P w K mg base CX0 1 f fd ["self", "letter", "count"] (spOpen C):=by
  refine F.ok scOpen (fun vs H Q E h=>?_) (fun cdv A outer s H vs Q E hr h=>?_)
  · obtain ⟨x,dx,pa,r,b,h,l,c,rfl,_⟩:=h
    rfl
  · obtain ⟨x,dx,pa,r,b,h,l,c,rfl,hx,q⟩:=h
    refine ⟨_,pss_cons (ps_if (pt_cmpR op_eq (pe_fld (pv 0) rfl) pe_int (nomark _)) (pss_one (ps_ret pe_bl)) pss_nil)
      (pss_cons (ps_if (pt_cmpR op_eq (pv 2) pe_int (nomark _)) (pss_one (ps_ret (pe_cmpR op_isN (pe_fld (pv 0) rfl) pe_non (nomark _)))) pss_nil)
      (pss_one (ps_ret (pe_cmpR op_eq (pe_fld (pv 0) rfl) (pv 1) (nomark _))))),?_⟩
    refine ⟨_,rfl,x,C,dx,_,_,rfl,hx,L.cl,L.n1,rfl,rfl,_,rfl,?_⟩
    rw [int_eq']
    unfold openB at q
    by_cases hr0:r=0
    · rw [decide_eq_true hr0]
      rw [if_pos hr0] at q
      exact iteT q
    rw [decide_eq_false hr0]
    rw [if_neg hr0] at q
    refine iteF ⟨_,rfl,rfl,_,rfl,?_⟩
    rw [int_eq']
    by_cases hc0:c=0
    · rw [decide_eq_true hc0]
      rw [if_pos hc0] at q
      refine iteT ⟨_,rfl,x,C,dx,_,_,rfl,hx,L.cl,L.n3,rfl,rfl,?_⟩
      rw [hV_non]
      exact q
    · rw [decide_eq_false hc0]
      rw [if_neg hc0] at q
      refine iteF ⟨_,rfl,x,C,dx,_,_,rfl,hx,L.cl,L.n3,rfl,_,rfl,hV_scal h l,?_⟩
      rw [hV_int]
      exact q
theorem scPut:FnScope ["self", "letter", "count", "last"] ["self", "letter", "count", "last"] (defScope sPut):=⟨rfl,rfl,rfl,by decide +kernel,rfl,by decide +kernel,by decide +kernel⟩
theorem ok_put {C f nm fo:Addr} {fd d_o:FuncData} (F:Fun K "put" "Lane.put" sPut f fd) (L:Lne K C) (Ex:ExM K mg nm) (mo:Meth K C "open_to" fo) (bo:Binds K d_o ["self", "letter", "count"] []) (Go:FnOk P w K mg base CX0 1 fo d_o ["self", "letter", "count"] (spOpen C)) :
    FnOk P w K mg base (CXe P w) 2 f fd ["self", "letter", "count", "last"] (spPut C nm):=by
  refine F.okX scPut (fun vs H Q E h=>?_) (fun cdv A outer s H vs Q E hr h=>?_)
  · obtain ⟨x,dx,pa,r,b,h,pvs,qs,l,c,last,rfl,_⟩:=h
    rfl
  · obtain ⟨x,dx,pa,r,b,h,pvs,qs,l,c,last,rfl,hL,hlen,h1,h2⟩:=h
    refine ⟨_,pss_cons (ps_if (pt_not (pt_val (pe_meth (pv 0) L.cl mo Go hr bo .nil pass0 (pa_cons (pv 1) (pa_cons (pv 2) pa_nil))))) (pss_one (ps_raise rfl Ex.x passX_def (px_plain Ex.x Ex.k rfl rfl Ex.m (pa_cons pe_str pa_nil)))) pss_nil)
      (pss_cons (ps_fldaug (pv 0) pe_int iop_sub)
      (pss_cons (ps_expr (pe_bm PySem.F.plainAttrs_list PySem.F.slot_list_append PySem.F.type_list_append mt_append (pe_fld (pv 0) rfl) (pa_cons (pe_tup (pa_cons (pv 1) (pa_cons (pv 2) pa_nil))) pa_nil)))
      (pss_one (ps_fld (pv 0) (pe_ifExp (pt_val (pv 3)) pe_non (pv 1)) rfl)))),?_⟩
    refine ⟨_,rfl,x,dx,_,rfl,hL.ins,rfl,_,rfl,_,rfl,x,dx,pa,r,b,h,l,c,rfl,hL.ins,_,rfl,?_⟩
    cases ho:openB r h l c with
    | false =>
      refine iteT ⟨by show 1 ≤ sizeLine; decide,?_⟩
      exact h1 ho H (Same.refl H)
    | true =>
      refine iteF ?_
      refine ⟨_,rfl,x,C,dx,_,_,rfl,hL.ins,L.cl,L.n1,rfl,_,_,rfl,rfl,dx,_,hL.ins,by show 4 < 1000; decide,?_⟩
      have npx:pa ≠ x:=ne_of hL.lst hL.ins (by intro z; cases z)
      have hx1:(upd H x (.ins C dx (putF "rights" (.int (r - 1)) (fs4 r b (hV h) pa)))) x=some (.ins C dx (fs4 (r - 1) b (hV h) pa)):=upd_same
      have hp1:(upd H x (.ins C dx (putF "rights" (.int (r - 1)) (fs4 r b (hV h) pa)))) pa=some (.lst pvs):=by rw [upd_ne npx]; exact hL.lst
      have o1:Off2 x pa H (upd H x (.ins C dx (putF "rights" (.int (r - 1)) (fs4 r b (hV h) pa)))):=fun a o ha _ e=>by rw [upd_ne ha]; exact e
      show _
      generalize upd H x (.ins C dx (putF "rights" (.int (r - 1)) (fs4 r b (hV h) pa)))=H1 at hx1 hp1 o1 ⊢
      refine ⟨_,rfl,x,C,dx,_,_,rfl,hx1,L.cl,L.n4,rfl, .inl ⟨rfl,_,SqL.of hp1⟩,_,rfl,_,rfl,by show 2 ≤ sizeLine; decide,fun t ht=>?_⟩
      have s2:=(Same.refl H1).new (o := .tup [.int l, .int c]) ht
      have gt:(upd H1 t (.tup [.int l, .int c])) t=some (.tup [.int l, .int c]):=upd_same
      generalize upd H1 t (.tup [.int l, .int c])=H2 at s2 gt ⊢
      refine ⟨pa,pvs,_,rfl,rfl,s2 _ _ hp1,by rw [PySem.sizeLine_eq]; omega,?_⟩
      have hx3:(upd H2 pa (.lst (pvs ++ [.ref t]))) x=some (.ins C dx (fs4 (r - 1) b (hV h) pa)):=by rw [upd_ne (Ne.symm npx)]; exact s2 _ _ hx1
      have hp3:(upd H2 pa (.lst (pvs ++ [.ref t]))) pa=some (.lst (pvs ++ [.ref t])):=upd_same
      have o3:Off2 x pa H (upd H2 pa (.lst (pvs ++ [.ref t]))):=fun a o ha hb e=>by rw [upd_ne hb]; exact s2 _ _ (o1 a o ha hb e)
      have ntp:t ≠ pa:=ne_of gt (s2 _ _ hp1) (by intro z; cases z)
      have gt3:(upd H2 pa (.lst (pvs ++ [.ref t]))) t=some (.tup [.int l, .int c]):=by rw [upd_ne ntp]; exact gt
      generalize upd H2 pa (.lst (pvs ++ [.ref t]))=H3 at hx3 hp3 o3 gt3 ⊢
      have ntx:t ≠ x:=ne_of gt3 hx3 (by intro z; cases z)
      have fin:∀ h':Option Int,LaneAt (upd H3 x (.ins C dx (putF "holder" (hV h') (fs4 (r - 1) b (hV h) pa)))) C x dx pa (r - 1) b h' (pvs ++ [.ref t]) (qs ++ [(l,c)]):=fun h' =>
        ⟨upd_same,by rw [upd_ne npx]; exact hp3,Lns.snoc ⟨t,rfl,by rw [upd_ne ntx]; exact gt3⟩ (Off2.lns (fun a o ha hb e=>by rw [upd_ne ha]; exact o3 a o ha hb e) hL.ins hL.lst hL.pcs)⟩
      have off:∀ o',Off2 x pa H (upd H3 x o'):=fun o' a o ha hb e=>by rw [upd_ne ha]; exact o3 a o ha hb e
      refine ⟨_,rfl,_,rfl,?_⟩
      cases last with
      | true=>exact iteT ⟨_,rfl,x,C,dx,_,rfl,hx3,L.cl,L.n3,by show 4 < 1000; decide,h2 ho t _ (off _) (fin none)⟩
      | false=>exact iteF ⟨_,rfl,_,rfl,x,C,dx,_,rfl,hx3,L.cl,L.n3,by show 4 < 1000; decide,h2 ho t _ (off _) (fin (some l))⟩
theorem scFront:FnScope ["self"] ["self"] (defScope sFront):=⟨rfl,rfl,rfl,by decide +kernel,rfl,by decide +kernel,by decide +kernel⟩
theorem ok_front {C f:Addr} {fd:FuncData} (F:Fun K "front" "Lane.front" sFront f fd) (L:Lne K C):FnOk P w K mg base CX0 1 f fd ["self"] (spFront C):=by
  refine F.ok scFront (fun vs H Q E h=>?_) (fun cdv A outer s H vs Q E hr h=>?_)
  · obtain ⟨x,dx,pa,r,b,h,pvs,qs,rfl,_⟩:=h
    rfl
  · obtain ⟨x,dx,pa,r,b,h,pvs,qs,rfl,hL,q⟩:=h
    refine ⟨_,pss_one (ps_ret (pe_ifExp (pt_truth (pe_fld (pv 0) rfl) (fun _=>rfl)) (pe_ix ix_list (pe_fld (pv 0) rfl) pe_int (fun _ _=>rfl)) pe_non)),?_⟩
    refine ⟨_,rfl,x,C,dx,_,_,rfl,hL.ins,L.cl,L.n4,rfl,_, .inl ⟨_,SqL.of hL.lst,rfl⟩,?_⟩
    cases pvs with
    | nil=>exact iteF q
    | cons v rest=>exact iteT ⟨_,rfl,x,C,dx,_,_,rfl,hL.ins,L.cl,L.n4,rfl,pa,_,0,v,rfl,rfl,SqL.of hL.lst,atI_nat (j:=0) rfl,q⟩
theorem scPull:FnScope ["self"] ["self"] (defScope sPull):=⟨rfl,rfl,rfl,by decide +kernel,rfl,by decide +kernel,by decide +kernel⟩
theorem ok_pull {C f nm:Addr} {fd:FuncData} (F:Fun K "pull" "Lane.pull" sPull f fd) (L:Lne K C) (Ex:ExM K mg nm):FnOk P w K mg base (CXe P w) 1 f fd ["self"] (spPull C nm):=by
  refine F.okX scPull (fun vs H Q E h=>?_) (fun cdv A outer s H vs Q E hr h=>?_)
  · obtain ⟨x,dx,pa,r,b,h,pvs,qs,rfl,_⟩:=h
    rfl
  · obtain ⟨x,dx,pa,r,b,h,pvs,qs,rfl,hL,h1,h2⟩:=h
    refine ⟨_,pss_cons (ps_if (pt_not (pt_truth (pe_fld (pv 0) rfl) (fun _=>rfl))) (pss_one (ps_raise rfl Ex.x passX_def (px_plain Ex.x Ex.k rfl rfl Ex.m (pa_cons pe_str pa_nil)))) pss_nil)
      (pss_cons (ps_fldaug (pv 0) pe_int iop_add)
      (pss_one (ps_ret (pe_bm PySem.F.plainAttrs_list PySem.F.slot_list_pop PySem.F.type_list_pop mt_popAt (pe_fld (pv 0) rfl) (pa_cons pe_int pa_nil))))),?_⟩
    refine ⟨_,rfl,x,C,dx,_,_,rfl,hL.ins,L.cl,L.n4,rfl,_, .inl ⟨_,SqL.of hL.lst,rfl⟩,?_⟩
    have npx:pa ≠ x:=ne_of hL.lst hL.ins (by intro z; cases z)
    cases pvs with
    | nil =>
      refine iteT ⟨by show 1 ≤ sizeLine; decide,?_⟩
      exact h1 rfl H (Same.refl H)
    | cons v rest =>
      refine iteF ?_
      refine ⟨_,rfl,x,C,dx,_,_,rfl,hL.ins,L.cl,L.n2,rfl,_,_,rfl,rfl,dx,_,hL.ins,by show 4 < 1000; decide,?_⟩
      have hx1:(upd H x (.ins C dx (putF "returning" (.int (b + 1)) (fs4 r b (hV h) pa)))) x=some (.ins C dx (fs4 r (b + 1) (hV h) pa)):=upd_same
      have hp1:(upd H x (.ins C dx (putF "returning" (.int (b + 1)) (fs4 r b (hV h) pa)))) pa=some (.lst (v :: rest)):=by rw [upd_ne npx]; exact hL.lst
      have o1:Off2 x pa H (upd H x (.ins C dx (putF "returning" (.int (b + 1)) (fs4 r b (hV h) pa)))):=fun a o ha _ e=>by rw [upd_ne ha]; exact e
      show _
      generalize upd H x (.ins C dx (putF "returning" (.int (b + 1)) (fs4 r b (hV h) pa)))=H1 at hx1 hp1 o1 ⊢
      refine ⟨_,rfl,x,C,dx,_,_,rfl,hx1,L.cl,L.n4,rfl, .inl ⟨rfl,_,SqL.of hp1⟩,pa,v :: rest,0,0,v,rfl,rfl,hp1,by decide,by decide,seq0 _,rfl,?_⟩
      have o2:Off2 x pa H (upd H1 pa (.lst rest)):=fun a o ha hb e=>by rw [upd_ne hb]; exact o1 a o ha hb e
      refine h2 v rest rfl _ o2 ⟨by rw [upd_ne (Ne.symm npx)]; exact hx1,upd_same,?_⟩
      have z:=Off2.lns o2 hL.ins hL.lst hL.pcs
      cases z with
      | cons _ t=>exact t
theorem scBring:FnScope ["self"] ["self"] (defScope sBring):=⟨rfl,rfl,rfl,by decide +kernel,rfl,by decide +kernel,by decide +kernel⟩
theorem ok_bring {C f nm:Addr} {fd:FuncData} (F:Fun K "bring" "Lane.bring" sBring f fd) (L:Lne K C) (Ex:ExM K mg nm):FnOk P w K mg base (CXe P w) 1 f fd ["self"] (spBring C nm):=by
  refine F.okX scBring (fun vs H Q E h=>?_) (fun cdv A outer s H vs Q E hr h=>?_)
  · obtain ⟨x,dx,pa,r,b,h,pvs,qs,rfl,_⟩:=h
    rfl
  · obtain ⟨x,dx,pa,r,b,h,pvs,qs,rfl,hL,h1,h2⟩:=h
    refine ⟨_,pss_cons (ps_if (pt_cmpR op_eq (pe_fld (pv 0) rfl) pe_int (nomark _)) (pss_one (ps_raise rfl Ex.x passX_def (px_plain Ex.x Ex.k rfl rfl Ex.m (pa_cons pe_str pa_nil)))) pss_nil)
      (pss_cons (ps_fldaug (pv 0) pe_int iop_sub) (pss_one (ps_fldaug (pv 0) pe_int iop_add))),?_⟩
    refine ⟨_,rfl,x,C,dx,_,_,rfl,hL.ins,L.cl,L.n2,rfl,rfl,_,rfl,?_⟩
    have npx:pa ≠ x:=ne_of hL.lst hL.ins (by intro z; cases z)
    rw [int_eq']
    by_cases hb0:b=0
    · rw [decide_eq_true hb0]
      refine iteT ⟨by show 1 ≤ sizeLine; decide,?_⟩
      exact h1 hb0 H (Same.refl H)
    · rw [decide_eq_false hb0]
      refine iteF ?_
      refine ⟨_,rfl,x,C,dx,_,_,rfl,hL.ins,L.cl,L.n2,rfl,_,_,rfl,rfl,dx,_,hL.ins,by show 4 < 1000; decide,?_⟩
      have hx1:(upd H x (.ins C dx (putF "returning" (.int (b - 1)) (fs4 r b (hV h) pa)))) x=some (.ins C dx (fs4 r (b - 1) (hV h) pa)):=upd_same
      have o1:Off2 x pa H (upd H x (.ins C dx (putF "returning" (.int (b - 1)) (fs4 r b (hV h) pa)))):=fun a o ha _ e=>by rw [upd_ne ha]; exact e
      have hp1:(upd H x (.ins C dx (putF "returning" (.int (b - 1)) (fs4 r b (hV h) pa)))) pa=some (.lst pvs):=by rw [upd_ne npx]; exact hL.lst
      show _
      generalize upd H x (.ins C dx (putF "returning" (.int (b - 1)) (fs4 r b (hV h) pa)))=H1 at hx1 hp1 o1 ⊢
      refine ⟨_,rfl,x,C,dx,_,_,rfl,hx1,L.cl,L.n1,rfl,_,_,rfl,rfl,dx,_,hx1,by show 4 < 1000; decide,?_⟩
      have o2:∀ o',Off2 x pa H (upd H1 x o'):=fun o' a o ha hb e=>by rw [upd_ne ha]; exact o1 a o ha hb e
      exact h2 hb0 _ (o2 _) ⟨upd_same,by rw [upd_ne npx]; exact hp1,Off2.lns (o2 _) hL.ins hL.lst hL.pcs⟩
theorem scLnT:FnScope ["self"] ["self"] (defScope sLnT):=⟨rfl,rfl,rfl,by decide +kernel,rfl,by decide +kernel,by decide +kernel⟩
theorem ok_lnT {C f:Addr} {fd:FuncData} (F:Fun K "told" "Lane.told" sLnT f fd) (T:Txt mg) (L:Lne K C):FnOk P w K mg base CX0 1 f fd ["self"] (spLnT C):=by
  refine F.ok scLnT (fun vs H Q E h=>?_) (fun cdv A outer s H vs Q E hr h=>?_)
  · obtain ⟨x,dx,pa,r,b,h,pvs,qs,rfl,_⟩:=h
    rfl
  · obtain ⟨x,dx,pa,r,b,h,pvs,qs,rfl,hL,q⟩:=h
    refine ⟨_,pss_one (ps_ret (pe_tup (pa_cons (pe_fld (pv 0) rfl) (pa_cons (pe_fld (pv 0) rfl) (pa_cons (pe_fld (pv 0) rfl) (pa_cons (pe_callTy call_list_of rfl T.list PySem.Pv.boot_list (pa_cons (pe_fld (pv 0) rfl) pa_nil)) pa_nil)))))),?_⟩
    refine ⟨_,rfl,x,C,dx,_,_,rfl,hL.ins,L.cl,L.n1,rfl,_,rfl,x,C,dx,_,_,rfl,hL.ins,L.cl,L.n2,rfl,_,rfl,x,C,dx,_,_,rfl,hL.ins,L.cl,L.n3,rfl,_,rfl,x,C,dx,_,_,rfl,hL.ins,L.cl,L.n4,rfl,pa,_,rfl, .inl (SqL.of hL.lst),fun ql hql=>?_⟩
    have s1:=(Same.refl H).new (o := .lst pvs) hql
    have g1:(upd H ql (.lst pvs)) ql=some (.lst pvs):=upd_same
    generalize upd H ql (.lst pvs)=H1 at s1 g1 ⊢
    refine ⟨by show 4 ≤ sizeLine; decide,fun t ht=>?_⟩
    have s2:=s1.new (o := .tup [.int r, .int b,hV h, .ref ql]) ht
    exact q t ql _ s2 hql upd_same (by rw [upd_ne (ne_of_none g1 ht)]; exact g1)
end
end K66
namespace K66
open PySem L2
def okR (m:Nat) (rvs:List V):Bool:=decide (rvs.length=m) && rvs.all fun v=>okv v 1 60
def Sq (K:PySem.W.Frag) (H:Hp) (a:Addr) (xs:List V):Prop:=SqL K H a xs∨SqT K H a xs
def spRooms (K:PySem.W.Frag) (c:Cs) (nr:Addr):Sp:=fun vs H Q E=>∃ (lx ldx lt:Addr) (n:Int) (tvs:List V) (ps:List (Int × Int)) (rv:V),vs=[.ref lx,rv]∧LandAt H c lx ldx lt n tvs ps∧ps.length ≤ 1000 ∧
  ((rv = .non∧∀ t H',Same H H'→H' t=some (.tup (List.replicate ps.length (.int 1)))→Q (.ref t) H') ∨
   (∃ ra rvs,rv = .ref ra∧Sq K H ra rvs∧rvs.length ≤ 1000∧(∀ v ∈ rvs,Sca v)∧(okR ps.length rvs=false→∀ H',Same H H'→E (.ref nr) none H')∧(okR ps.length rvs=true→∀ t H',Same H H'→SqT K H' t rvs→Q (.ref t) H')))
def ifRetC (s:Stmt):Scope:=match s with
  | .If _ (.Return (some (.Call _ [.ListComp _ _ sc _] _ _)) _ :: _) _ _=>sc
  | _=>{ kind := .function,names:=[],isGenerator:=false,isCoroutine:=false }
def orNotC (s:Stmt):Scope:=match s with
  | .If (.BoolOp _ [_, .UnaryOp _ (.Call _ [.ListComp _ _ sc _] _ _) _] _) _ _ _=>sc
  | _=>{ kind := .function,names:=[],isGenerator:=false,isCoroutine:=false }
def okW:V→Bool
  | .int i=>decide ((if i < 0 then -i else i) < 10 ^ (60:Int).toNat)
  | _=>false
def spWord:Sp:=fun vs H Q _=>∃ v,vs=[v]∧Sca v∧Q (.bl (okW v)) H
def spXi2 (K:PySem.W.Frag) (f1 f2:Str):Sp:=fun vs H Q _=>∃ e C tt v1 v2,vs=[.ref e,v1,v2]∧H e=some (ExcAt e C tt none)∧XCls K C∧PySem.W.findIn K (.ref C) f1=some none∧PySem.W.findIn K (.ref C) f2=some none∧∀ d H',H d=none→(∀ b o,b ≠ e→H b=some o→H' b=some o)→H' e=some (ExcAt e C tt (some d))→H' d=some (.xd [(f1,v1),(f2,v2)])→Q .non H'
theorem same_seqT {K:PySem.W.Frag} {H H':Hp} {a:Addr} {xs:List V} (e:Same H H') (h:SqT K H a xs):SqT K H' a xs:=by
  rcases h with h | h
  · refine .inl ?_
    rcases h with h | ⟨o,h⟩
    · exact .inl (e _ _ h)
    · exact .inr ⟨o,e _ _ h⟩
  · exact .inr h
theorem pi_or {X:Cx} {tg it:Expr} {a b:TI} (h1:PI X tg it a) (h2:PI X tg it b):PI X tg it (fun σ H R=>a σ H R∨b σ H R):=fun pins s σ H R I h=>h.elim (h1 pins s σ H R I) (h2 pins s σ H R I)
theorem comp_any {J:It} {xs:List V} {g:TG} {te:TE} {σ0:St} {H:Hp} {Q:VK} (f:V→V) (hn:xs.length < sizeLine) (hgo:∀ i,i < xs.length→J.go i H) (hst:J.stop xs.length H) (hy:∀ i x H',J.yld i H x H'→H' = H∧xs[i]? = some x)
    (hs:∀ (x:V) (N:V→Hp→Prop),x ∈ xs→N (f x) H→g x σ0 H fun σ2 H2=>te σ2 H2 N)
    (hq:∀ D,H D=none→Q (.ref D) (upd H D (.lst (xs.map f)))):CompR J g tYes te σ0 Q H:=by
  refine comp_gen xs.length hn (fun i acc H'=>H' = H∧acc=(xs.take i).map f) ⟨rfl,rfl⟩ (fun i acc H' h=>by rw [h.2,List.length_map]; exact List.length_take_le _ _) (fun i acc H' hi h=>?_) (fun acc H' h=>?_)
  · obtain ⟨rfl,rfl⟩:=h
    refine ⟨hgo i hi,fun v H2 y=>?_⟩
    obtain ⟨e,hx⟩:=hy i v H2 y
    subst e
    exact hs v (fun y H4=>H4=H2∧(xs.take i).map f ++ [y]=(xs.take (i + 1)).map f) (List.mem_of_getElem? hx) ⟨rfl,by rw [List.take_succ,hx,List.map_append]; rfl⟩
  · obtain ⟨rfl,rfl⟩:=h
    rw [List.take_length]
    exact ⟨hst,hq⟩
theorem comp_L {K:PySem.W.Frag} {a:Addr} {xs:List V} {g:TG} {te:TE} {σ0:St} {H:Hp} {Q:VK} (f:V→V) (hn:xs.length < sizeLine) (ha:SqL K H a xs) (hs:∀ (x:V) (N:V→Hp→Prop),x ∈ xs→N (f x) H→g x σ0 H fun σ2 H2=>te σ2 H2 N)
    (hq:∀ D,H D=none→Q (.ref D) (upd H D (.lst (xs.map f)))):CompR (Itl K a) g tYes te σ0 Q H :=
  comp_any f hn (fun i hi=>⟨xs,xs[i],ha,by simp [hi]⟩) ⟨xs,ha,Nat.le_refl _⟩ (fun i x H' y=>⟨y.1,y.2 xs ha⟩) hs hq
theorem comp_T {K:PySem.W.Frag} {a:Addr} {xs:List V} {g:TG} {te:TE} {σ0:St} {H:Hp} {Q:VK} (f:V→V) (hn:xs.length < sizeLine) (ha:SqT K H a xs) (hs:∀ (x:V) (N:V→Hp→Prop),x ∈ xs→N (f x) H→g x σ0 H fun σ2 H2=>te σ2 H2 N)
    (hq:∀ D,H D=none→Q (.ref D) (upd H D (.lst (xs.map f)))):CompR (Itt K a) g tYes te σ0 Q H :=
  comp_any f hn (fun i hi=>⟨xs,xs[i],ha,by simp [hi]⟩) ⟨xs,ha,Nat.le_refl _⟩ (fun i x H' y=>⟨y.1,y.2 xs ha⟩) hs hq
structure ExP (K:PySem.W.Frag) (mg:Str→Option Value) (x:Str) (C:Addr):Prop where
  m:mg x=some (.ref C)
  x:excInI K C none=true
  k:PySem.W.keepIn K (.ref C)=true
section
variable {P:Program} {w:World} {K:PySem.W.Frag} {mg:Str→Option Value} {base:Heap}
theorem scRo:FnScope ["land", "rooms"] ["land", "rooms"] (defScope sRooms):=⟨rfl,rfl,rfl,by decide +kernel,rfl,by decide +kernel,by decide +kernel⟩
theorem bkR1:Blk ["land", "rooms"] (defScope sRooms) (ifRetC ((defBody sRooms).getD 0 (.Pass ⟨0,0,0,0⟩))) [] []:=⟨rfl,by decide +kernel,by decide +kernel,by decide +kernel,rfl,by decide +kernel⟩
theorem bkR2:Blk ["land", "rooms"] (defScope sRooms) (orNotC ((defBody sRooms).getD 1 (.Pass ⟨0,0,0,0⟩))) [] []:=⟨rfl,by decide +kernel,by decide +kernel,by decide +kernel,rfl,by decide +kernel⟩
theorem ndR1:(["lane"]:List Str).Nodup:=by decide +kernel
theorem ndR2:(["room"]:List Str).Nodup:=by decide +kernel
theorem ok_rooms {c:Cs} {f fw nr:Addr} {fd dw:FuncData} {t1:Tok} (F:Fun K "rooms_of" "rooms_of" sRooms f fd) (T:Txt mg) (L:Lnd K c) (X:ExP K mg "NoRooms" nr)
    (mw:mg "is_within" = some (.ref fw)) (kw:PySem.W.keepIn K (.ref fw)=true) (bw:Binds K dw ["value", "least", "most"] []) (Gw:FnOk P w K mg base CX0 2 fw dw ["value", "least", "most"] spWithinV) (mp:mg "MOST_ROOM" = some (.int 60 t1)) :
    FnOk P w K mg base (CXe P w) 3 f fd ["land", "rooms"] (spRooms K c nr):=by
  refine F.okX scRo (fun vs H Q E h=>?_) (fun cdv A outer s H vs Q E hr h=>?_)
  · obtain ⟨lx,ldx,lt,n,tvs,ps,rv,rfl,_⟩:=h
    rfl
  · obtain ⟨lx,ldx,lt,n,tvs,ps,rv,rfl,hL,hpl,hh⟩:=h
    refine ⟨_,pss_cons (ps_if (pt_cmpR op_isN (pv 1) pe_non (nomark _)) (pss_one (ps_ret (pe_callTy call_tuple_of rfl T.tuple PySem.Pv.boot_tuple (pa_cons (pe_comp (own:=["lane"]) (capN:=[]) (cap:=[]) bkR1 rfl (pi_tup (pe_fld (pv 0) rfl))
          (fun C s' H' fp=>⟨pg_name (i:=0) ndR1 rfl (Or.inl rfl),pts_nil,pe_int⟩)) pa_nil)))) pss_nil)
      (pss_cons (ps_if (pt_post (PW.pt (pw_or (pt_cmpR op_ne (pe_callB call_len_seq rfl T.len PySem.boot_len (pa_cons (pv 1) pa_nil)) (pe_callB call_len_seq rfl T.len PySem.boot_len (pa_cons (pe_fld (pv 0) rfl) pa_nil)) (nomark _))
          (pw_or1 (pt_not (pt_val (pe_callB (call_all rfl) rfl T.all PyProof.Rows.boot_all (pa_cons (pe_comp (own:=["room"]) (capN:=[]) (cap:=[]) bkR2 rfl (pi_or (pi_list (pv 1)) (pi_tup (pv 1)))
            (fun C s' H' fp=>⟨pg_name (i:=0) ndR2 rfl (Or.inl rfl),pts_nil,pe_call Gw hr rfl mw kw bw .nil pass0 (pa_cons (pv 0) (pa_cons pe_int (pa_cons (pe_glob (v := .int 60) rfl mp ⟨_,rfl⟩) pa_nil)))⟩)) pa_nil))))))))
        (pss_one (ps_raise rfl X.x passX_def (px_plain X.x X.k rfl rfl X.m (pa_cons pe_str pa_nil)))) pss_nil)
      (pss_one (ps_ret (pe_callTy call_tuple_of rfl T.tuple PySem.Pv.boot_tuple (pa_cons (pv 1) pa_nil))))),?_⟩
    have hll:tvs.length=ps.length:=Paired.length hL.2.2
    refine ⟨_,rfl,rfl,_,rfl,?_⟩
    rcases hh with ⟨rfl,q⟩ | ⟨ra,rvs,rfl,hR,hrl,hsc,qE,q⟩
    · refine iteT ⟨_,rfl,lx,c.land,ldx,_,_,rfl,hL.1,L.cl,L.nl,rfl,lt,rfl,⟨_,SqT.of hL.2.1⟩,?_⟩
      refine comp_T (fun _ => .int 1) (by rw [PySem.sizeLine_eq]; omega) (SqT.of hL.2.1) (fun x N hx h=>h) (fun D hD=>?_)
      have s1:=(Same.refl H).new (o := .lst (tvs.map fun _=>V.int 1)) hD
      refine ⟨D,_,rfl, .inl ⟨SqL.of upd_same,fun t ht=>q t _ (s1.new ht) ?_⟩⟩
      rw [upd_same,List.map_const',hll]
    · refine iteF ?_
      have len1:∀ {H:Hp},Sq K H ra rvs→(SqL K H ra rvs∨SqT K H ra rvs):=fun h=>h
      refine ⟨fun b H'=>Same H H'∧b = !okR ps.length rvs,?_,?_⟩
      · refine ⟨_,rfl,ra,rvs,rfl,hR,_,rfl,lx,c.land,ldx,_,_,rfl,hL.1,L.cl,L.nl,rfl,lt,_,rfl, .inr (SqT.of hL.2.1),rfl,_,rfl,?_⟩
        rw [int_eq',hll]
        by_cases hlr:rvs.length=ps.length
        rotate_left
        · rw [decide_eq_false (show ¬ ((rvs.length:Nat):Int)=(ps.length:Nat) by omega)]
          refine iteT ⟨Same.refl H,?_⟩
          unfold okR
          rw [decide_eq_false hlr]; rfl
        rw [decide_eq_true (show ((rvs.length:Nat):Int)=(ps.length:Nat) by omega)]
        have step:∀ (x:V) (N:V→Hp→Prop),x ∈ rvs→N (.bl (okv x 1 60)) H→Sca x:=fun x _ hx _=>hsc x hx
        have fin:∀ D,H D=none→∃ (p:Addr) (bs:List Bool),[V.ref D]=[.ref p]∧SqL K (upd H D (.lst (rvs.map fun v=>V.bl (okv v 1 60)))) p (bs.map V.bl)∧∃ cc,V.bl (bs.all id) = .bl cc∧(Same H (upd H D (.lst (rvs.map fun v=>V.bl (okv v 1 60))))∧(!cc) = !okR ps.length rvs):=fun D hD=>by
          refine ⟨D,rvs.map fun v=>okv v 1 60,rfl,SqL.of (by rw [upd_same,List.map_map]; rfl),_,rfl,(Same.refl H).new hD,?_⟩
          unfold okR
          rw [decide_eq_true hlr,Bool.true_and,List.all_map]; rfl
        refine iteF ?_
        rcases hR with hR | hR
        · refine .inl ⟨_,rfl,ra,rfl,⟨_,hR⟩,?_⟩
          exact comp_L (fun v => .bl (okv v 1 60)) (by rw [PySem.sizeLine_eq]; omega) hR (fun x N hx h=>⟨_,rfl,x,1,60,rfl,hsc x hx,h⟩) fin
        · refine .inr ⟨_,rfl,ra,rfl,⟨_,hR⟩,?_⟩
          exact comp_T (fun v => .bl (okv v 1 60)) (by rw [PySem.sizeLine_eq]; omega) hR (fun x N hx h=>⟨_,rfl,x,1,60,rfl,hsc x hx,h⟩) fin
      rintro b H' ⟨s',rfl⟩
      cases hok:okR ps.length rvs with
      | false=>exact iteT ⟨by show 1 ≤ sizeLine; decide,qE hok H' s'⟩
      | true =>
        refine iteF ⟨_,rfl,ra,rvs,rfl,?_⟩
        rcases hR with hR | hR
        · exact .inl ⟨s'.seq hR,fun t ht=>q hok t _ (s'.new ht) (SqT.of upd_same)⟩
        · exact .inr ⟨same_seqT s' hR,q hok ra _ s' (same_seqT s' hR)⟩
theorem scWo:FnScope ["word"] ["word"] (defScope sWord):=⟨rfl,rfl,rfl,by decide +kernel,rfl,by decide +kernel,by decide +kernel⟩
theorem ok_word {f fh:Addr} {fd dh:FuncData} (F:Fun K "is_word" "is_word" sWord f fd) (T:Txt mg) (mh:mg "is_whole" = some (.ref fh)) (kh:PySem.W.keepIn K (.ref fh)=true) (bh:Binds K dh ["value"] []) (G:FnOk P w K mg base CX0 1 fh dh ["value"] spWholeV) :
    FnOk P w K mg base CX0 2 f fd ["word"] spWord:=by
  refine F.ok scWo (fun vs H Q E h=>?_) (fun cdv A outer s H vs Q E hr h=>?_)
  · obtain ⟨v,rfl,_⟩:=h
    rfl
  · obtain ⟨v,rfl,hv,q⟩:=h
    refine ⟨_,pss_one (ps_ret (pe_and (pe_call G hr rfl mh kh bh .nil pass0 (pa_cons (pv 0) pa_nil)) (pe_one (pe_cmpR op_lt (pe_callB call_abs rfl T.abs PyProof.Rows.boot_abs (pa_cons (pv 0) pa_nil)) (pe_op op_pow pe_int pe_int) (nomark _))))),?_⟩
    cases hv with
    | int i=>exact ⟨_,rfl,_,rfl, .int i,true,rfl,iteT ⟨_,rfl,i,rfl,_,_,rfl,rfl,⟨by decide,by decide,by decide⟩,_,_,rfl,rfl,q⟩⟩
    | bl b=>exact ⟨_,rfl,_,rfl, .bl b,false,rfl,iteF q⟩
    | non=>exact ⟨_,rfl,_,rfl, .non,false,rfl,iteF q⟩
theorem scNw:FnScope ["self", "start", "goal"] ["self", "start", "goal"] (defScope sNR2):=⟨rfl,rfl,rfl,by decide +kernel,rfl,by decide +kernel,by decide +kernel⟩
theorem ok_nw {f:Addr} {fd:FuncData} (F:Fun K "__init__" "NoWay.__init__" sNR2 f fd):FnOk P w K mg base CX0 1 f fd ["self", "start", "goal"] (spXi2 K "start" "goal"):=by
  refine F.ok scNw (fun vs H Q E h=>?_) (fun cdv A outer s H vs Q E hr h=>?_)
  · obtain ⟨e,C,tt,v1,v2,rfl,_⟩:=h
    rfl
  · obtain ⟨e,C,tt,v1,v2,rfl,he,hx,n1,n2,q⟩:=h
    refine ⟨_,pss_cons (ps_fldXa (pv 0) (pv 1) rfl) (pss_one (ps_fldXb (pv 0) (pv 2) rfl)),?_⟩
    refine ⟨_,rfl,_,rfl,e,C,tt,rfl,he,hx,n1,fun d hd=>?_⟩
    have ned:e ≠ d:=ne_of_none he hd
    refine ⟨_,rfl,_,rfl,e,C,tt,d,[("start",v1)],rfl,upd_same,by rw [upd_ne (Ne.symm ned)]; exact upd_same,by show 1 < 1000; decide,hx,n2,?_⟩
    refine q d _ hd (fun b o nb eb=>?_) (by rw [upd_ne ned]; exact upd_same) (by rw [upd_same]; rfl)
    have nbd:b ≠ d:=ne_of_none eb hd
    rw [upd_ne nbd,upd_ne nb,upd_ne nbd]
    exact eb
end
end K66
namespace K66
open PySem L2
abbrev Wf:=Nat→Nat→Option Nat→List Nat
abbrev TJ:=Hp→Addr→Nat→Wf→Prop
def NL:HO→Prop
  | .lst _=>False
  | .ins _ _ []=>False
  | _=>True
def KeepN (H H':Hp):Prop:=∀ b o,H b=some o→NL o→H' b=some o
theorem Same.keepN {H H':Hp} (s:Same H H'):KeepN H H':=fun b o e _=>s b o e
theorem KeepN.trans {H H1 H2:Hp} (a:KeepN H H1) (b:KeepN H1 H2):KeepN H H2:=fun x o e n=>b x o (a x o e n) n
theorem KeepN.lns {H H':Hp} (k:KeepN H H') {vs:List V} {ps:List (Int × Int)} (h:Lns H vs ps):Lns H' vs ps:=Lns.imp (fun _ _ ⟨t,e,q⟩=>⟨t,e,k _ _ q True.intro⟩) h
structure TbIn (c:Cs) (C:Addr) (J:TJ) (H:Hp) (x lx ldx lt:Addr) (n:Nat) (tvs:List V) (ps:List (Int × Int)) (wy:Wf):Prop where
  j:J H x n wy
  i:∃ dx fs,H x=some (.ins C dx fs)∧fs.lookup ("land":Str)=some (.ref lx)∧fs.lookup ("ways":Str)=none
  l:LandAt H c lx ldx lt (n:Int) tvs ps
  n12:n ≤ 12
  few:ps.length ≤ 40
  ok:∀ p g k,p < n→g < n→∀ z ∈ wy p g k,z < ps.length
structure Wy (K:PySem.W.Frag) (C fw:Addr) (dw:FuncData) (J:TJ):Prop where
  cl:Cls K C
  nl:NoAttr K C "land"
  m:Meth K C "ways" fw
  b:Binds K dw ["self", "place", "goal", "came"] []
  stay:∀ H H' x n wy,J H x n wy→KeepN H H'→J H' x n wy
theorem TbIn.keep {K:PySem.W.Frag} {c:Cs} {C fw:Addr} {dw:FuncData} {J:TJ} {H H':Hp} {x lx ldx lt:Addr} {n:Nat} {tvs:List V} {ps:List (Int × Int)} {wy:Wf} (W:Wy K C fw dw J) (h:TbIn c C J H x lx ldx lt n tvs ps wy) (k:KeepN H H'):TbIn c C J H' x lx ldx lt n tvs ps wy :=
  ⟨W.stay _ _ _ _ _ h.j k,let ⟨dx,fs,h1,h2⟩:=h.i; ⟨dx,fs,k _ _ h1 (by cases fs with | nil=>cases h2.1 | cons _ _=>exact True.intro),h2⟩,⟨k _ _ h.l.1 True.intro,k _ _ h.l.2.1 True.intro,k.lns h.l.2.2⟩,h.n12,h.few,h.ok⟩
def spWaysA (J:TJ):Sp:=fun vs H Q _=>∃ (x:Addr) (n:Nat) (wy:Wf) (p g:Nat) (k:Option Nat),vs=[.ref x, .int p, .int g,cV k]∧J H x n wy∧p < n∧g < n∧∀ (D:Addr) (H':Hp),Same H H'→H D=none→H' D=some (.lst (nV (wy p g k)))→Q (.ref D) H'
structure LnS where
  r:Int
  b:Int
  h:Option Int
  qs:List (Int × Int)
structure LtS where
  start:Int
  goal:Int
  len:Int
  word:Int
  gone:Int
  way:List Nat
structure YS where
  rooms:List V
  lanes:List LnS
  letters:List LtS
  lies:List (List (Int × Int))
  done:List (List V)
structure Ys where
  yard:Addr
  lane:Addr
  letter:Addr
def LaneV (H:Hp) (C:Addr) (ex:List Addr) (v:V) (s:LnS):Prop:=∃ x dx pa pvs,v = .ref x∧LaneAt H C x dx pa s.r s.b s.h pvs s.qs∧pa ∉ ex
def ltF (s:LtS) (wa:Addr):Fs:=[("start", .int s.start),("goal", .int s.goal),("length", .int s.len),("word", .int s.word),("gone", .int s.gone),("way", .ref wa)]
def LetV (H:Hp) (C:Addr) (ex:List Addr) (v:V) (s:LtS):Prop:=∃ x dx wa,v = .ref x∧H x=some (.ins C dx (ltF s wa))∧H wa=some (.lst (nV s.way))∧wa ∉ ex
def LieV (H:Hp) (v:V) (qs:List (Int × Int)):Prop:=∃ t vs,v = .ref t∧H t=some (.tup vs)∧Lns H vs qs
def MvV (H:Hp) (v:V) (m:List V):Prop:=∃ t,v = .ref t∧H t=some (.tup m)
theorem Paired.mono {α β:Type} {R R':α→β→Prop} (h:∀ a b,R a b→R' a b):∀ {as:List α} {bs:List β},Paired R as bs→Paired R' as bs
  | _,_, .nil => .nil
  | _,_, .cons x r => .cons (h _ _ x) (Paired.mono h r)
theorem Paired.snoc {α β:Type} {R:α→β→Prop} {a:α} {b:β} (h:R a b):∀ {as:List α} {bs:List β},Paired R as bs→Paired R (as ++ [a]) (bs ++ [b])
  | _,_, .nil => .cons h .nil
  | _,_, .cons x r => .cons x (Paired.snoc h r)
theorem Paired.at {α β:Type} {R:α→β→Prop}:∀ {as:List α} {bs:List β} {i:Nat} {a:α},Paired R as bs→as[i]? = some a→∃ b,bs[i]? = some b∧R a b
  | _,_,_,_, .nil,h=>by cases h
  | _,_,0,_, .cons x _,h=>by cases h; exact ⟨_,rfl,x⟩
  | _,_,i + 1,_, .cons _ r,h=>Paired.at (i:=i) r h
theorem Paired.at2 {α β:Type} {R:α→β→Prop}:∀ {as:List α} {bs:List β} {i:Nat} {b:β},Paired R as bs→bs[i]? = some b→∃ a,as[i]? = some a∧R a b
  | _,_,_,_, .nil,h=>by cases h
  | _,_,0,_, .cons x _,h=>by cases h; exact ⟨_,rfl,x⟩
  | _,_,i + 1,_, .cons _ r,h=>Paired.at2 (i:=i) r h
def OffE (ex:List Addr) (H H':Hp):Prop:=∀ b o,b ∉ ex→H b=some o→H' b=some o
theorem Same.offE {ex:List Addr} {H H':Hp} (s:Same H H'):OffE ex H H':=fun b o _ e=>s b o e
theorem OffE.trans {ex:List Addr} {H H1 H2:Hp} (a:OffE ex H H1) (b:OffE ex H1 H2):OffE ex H H2:=fun x o n e=>b x o n (a x o n e)
theorem Lns.offE {ex:List Addr} {H H':Hp} (hx:∀ b ∈ ex,∃ xs,H b=some (.lst xs)) (o:OffE ex H H') {vs:List V} {ps:List (Int × Int)} (h:Lns H vs ps):Lns H' vs ps :=
  Lns.imp (fun _ _ ⟨t,e,q⟩=>⟨t,e,o _ _ (fun z=>by obtain ⟨xs,hz⟩:=hx _ z; rw [q] at hz; cases hz) q⟩) h
theorem OffE.keep' {ex:List Addr} {H H':Hp} (hx:∀ b ∈ ex,∃ o,H b=some o∧¬ NL o) (o:OffE ex H H'):KeepN H H':=fun b u e n=>o b u (fun z=>by obtain ⟨o',hz,hn⟩:=hx _ z; rw [e] at hz; cases hz; exact hn n) e
theorem OffE.keepN {ex:List Addr} {H H':Hp} (hx:∀ b ∈ ex,∃ xs,H b=some (.lst xs)) (o:OffE ex H H'):KeepN H H':=o.keep' fun b hb=>let ⟨xs,hz⟩:=hx b hb; ⟨_,hz,id⟩
theorem LaneV.offE {ex:List Addr} {H H':Hp} {C:Addr} {v:V} {s:LnS} (hx:∀ b ∈ ex,∃ xs,H b=some (.lst xs)) (o:OffE ex H H') (h:LaneV H C ex v s):LaneV H' C ex v s:=by
  obtain ⟨x,dx,pa,pvs,e,L,n⟩:=h
  have k:=o.keepN hx
  exact ⟨x,dx,pa,pvs,e,⟨k _ _ L.ins True.intro,o _ _ n L.lst,Lns.offE hx o L.pcs⟩,n⟩
theorem LetV.offE {ex:List Addr} {H H':Hp} {C:Addr} {v:V} {s:LtS} (hx:∀ b ∈ ex,∃ xs,H b=some (.lst xs)) (o:OffE ex H H') (h:LetV H C ex v s):LetV H' C ex v s:=by
  obtain ⟨x,dx,wa,e,h1,h2,n⟩:=h
  exact ⟨x,dx,wa,e,o.keepN hx _ _ h1 True.intro,o _ _ n h2,n⟩
theorem LieV.keep {H H':Hp} {v:V} {qs:List (Int × Int)} (k:KeepN H H') (h:LieV H v qs):LieV H' v qs:=by
  obtain ⟨t,vs,e,h1,h2⟩:=h
  exact ⟨t,vs,e,k _ _ h1 True.intro,k.lns h2⟩
theorem MvV.keep {H H':Hp} {v:V} {m:List V} (k:KeepN H H') (h:MvV H v m):MvV H' v m:=by
  obtain ⟨t,e,h1⟩:=h
  exact ⟨t,e,k _ _ h1 True.intro⟩
def ydF (tb ro la le li dn:Addr):Fs:=[("table", .ref tb),("rooms", .ref ro),("lanes", .ref la),("letters", .ref le),("lies", .ref li),("done", .ref dn)]
structure YardAt (K:PySem.W.Frag) (ys:Ys) (H:Hp) (y dy tb ro la le li dn:Addr) (s:YS):Prop where
  ins:H y=some (.ins ys.yard dy (ydF tb ro la le li dn))
  hro:SqT K H ro s.rooms
  hla:∃ vs,H la=some (.lst vs)∧Paired (LaneV H ys.lane [la,le,li,dn]) vs s.lanes
  hle:∃ vs,H le=some (.lst vs)∧Paired (LetV H ys.letter [la,le,li,dn]) vs s.letters
  hli:∃ vs,H li=some (.lst vs)∧Paired (LieV H) vs s.lies
  hdn:∃ vs,H dn=some (.lst vs)∧Paired (MvV H) vs s.done
  ne:[la,le,li,dn].Nodup
theorem YardAt.lsts {K:PySem.W.Frag} {ys:Ys} {H:Hp} {y dy tb ro la le li dn:Addr} {s:YS} (h:YardAt K ys H y dy tb ro la le li dn s):∀ b ∈ [la,le,li,dn],∃ xs,H b=some (.lst xs):=by
  intro b hb
  obtain ⟨v1,h1,_⟩:=h.hla
  obtain ⟨v2,h2,_⟩:=h.hle
  obtain ⟨v3,h3,_⟩:=h.hli
  obtain ⟨v4,h4,_⟩:=h.hdn
  simp only [List.mem_cons,List.not_mem_nil,or_false] at hb
  rcases hb with rfl | rfl | rfl | rfl
  · exact ⟨_,h1⟩
  · exact ⟨_,h2⟩
  · exact ⟨_,h3⟩
  · exact ⟨_,h4⟩
theorem YardAt.same {K:PySem.W.Frag} {ys:Ys} {H H':Hp} {y dy tb ro la le li dn:Addr} {s:YS} (h:YardAt K ys H y dy tb ro la le li dn s) (e:Same H H'):YardAt K ys H' y dy tb ro la le li dn s:=by
  have hx:=h.lsts
  obtain ⟨v1,h1,p1⟩:=h.hla
  obtain ⟨v2,h2,p2⟩:=h.hle
  obtain ⟨v3,h3,p3⟩:=h.hli
  obtain ⟨v4,h4,p4⟩:=h.hdn
  have o:OffE [la,le,li,dn] H H':=Same.offE e
  exact ⟨e _ _ h.ins,same_seqT e h.hro,⟨v1,e _ _ h1,Paired.mono (fun _ _ z=>z.offE hx o) p1⟩,⟨v2,e _ _ h2,Paired.mono (fun _ _ z=>z.offE hx o) p2⟩,⟨v3,e _ _ h3,Paired.mono (fun _ _ z=>z.keep (Same.keepN e)) p3⟩,⟨v4,e _ _ h4,Paired.mono (fun _ _ z=>z.keep (Same.keepN e)) p4⟩,h.ne⟩
structure Yrd (K:PySem.W.Frag) (ys:Ys):Prop where
  cl:Cls K ys.yard
  n1:NoAttr K ys.yard "table"
  n2:NoAttr K ys.yard "rooms"
  n3:NoAttr K ys.yard "lanes"
  n4:NoAttr K ys.yard "letters"
  n5:NoAttr K ys.yard "lies"
  n6:NoAttr K ys.yard "done"
  ct:Cls K ys.letter
  t1:NoAttr K ys.letter "start"
  t2:NoAttr K ys.letter "goal"
  t3:NoAttr K ys.letter "length"
  t4:NoAttr K ys.letter "word"
  t5:NoAttr K ys.letter "gone"
  t6:NoAttr K ys.letter "way"
  L:Lne K ys.lane
def spLtI (C:Addr):Sp:=fun vs H Q _=>∃ (x dx:Addr) (a b l u:Int),vs=[.ref x, .int a, .int b, .int l, .int u]∧H x=some (.ins C dx [])∧∀ (wa:Addr) (H':Hp),H wa=none→(∀ z o,z ≠ x→H z=some o→H' z=some o)→H' x=some (.ins C dx (ltF ⟨a,b,l,u,0,[]⟩ wa))→H' wa=some (.lst (nV []))→Q .non H'
section
variable {P:Program} {w:World} {K:PySem.W.Frag} {mg:Str→Option Value} {base:Heap}
theorem scLtI:FnScope ["self", "start", "goal", "length", "word"] ["self", "start", "goal", "length", "word"] (defScope sLetI):=⟨rfl,rfl,rfl,by decide +kernel,rfl,by decide +kernel,by decide +kernel⟩
theorem ok_ltI {ys:Ys} {f:Addr} {fd:FuncData} (F:Fun K "__init__" "Letter.__init__" sLetI f fd) (Y:Yrd K ys):FnOk P w K mg base CX0 1 f fd ["self", "start", "goal", "length", "word"] (spLtI ys.letter):=by
  refine F.ok scLtI (fun vs H Q E h=>?_) (fun cdv A outer s H vs Q E hr h=>?_)
  · obtain ⟨x,dx,a,b,l,u,rfl,_⟩:=h
    rfl
  · obtain ⟨x,dx,a,b,l,u,rfl,hx,q⟩:=h
    refine ⟨_,pss_cons (ps_fld (pv 0) (pv 1) rfl) (pss_cons (ps_fld (pv 0) (pv 2) rfl) (pss_cons (ps_fld (pv 0) (pv 3) rfl) (pss_cons (ps_fld (pv 0) (pv 4) rfl) (pss_cons (ps_fld (pv 0) pe_int rfl) (pss_one (ps_fld (pv 0) (pe_lst pa_nil) rfl)))))),?_⟩
    refine ⟨_,rfl,_,rfl,x,ys.letter,dx,_,rfl,hx,Y.ct,Y.t1,by show 0 < 1000; decide,?_⟩
    refine ⟨_,rfl,_,rfl,x,ys.letter,dx,_,rfl,upd_same,Y.ct,Y.t2,by show 1 < 1000; decide,?_⟩
    refine ⟨_,rfl,_,rfl,x,ys.letter,dx,_,rfl,upd_same,Y.ct,Y.t3,by show 2 < 1000; decide,?_⟩
    refine ⟨_,rfl,_,rfl,x,ys.letter,dx,_,rfl,upd_same,Y.ct,Y.t4,by show 3 < 1000; decide,?_⟩
    refine ⟨_,rfl,x,ys.letter,dx,_,rfl,upd_same,Y.ct,Y.t5,by show 4 < 1000; decide,?_⟩
    refine ⟨Nat.zero_le _,fun wa hwa=>?_⟩
    have nwx:x ≠ wa:=ne_of_none upd_same hwa
    refine ⟨_,rfl,x,ys.letter,dx,_,rfl,by rw [upd_ne nwx]; exact upd_same,Y.ct,Y.t6,by show 5 < 1000; decide,?_⟩
    have hwa0:H wa=none:=by
      rw [upd_ne (Ne.symm nwx),upd_ne (Ne.symm nwx),upd_ne (Ne.symm nwx),upd_ne (Ne.symm nwx),upd_ne (Ne.symm nwx)] at hwa
      exact hwa
    refine q wa _ hwa0 (fun z o nz e=>?_) upd_same (by rw [upd_ne (Ne.symm nwx)]; exact upd_same)
    have nzw:z ≠ wa:=ne_of_none e hwa0
    rw [upd_ne nz,upd_ne nzw,upd_ne nz,upd_ne nz,upd_ne nz,upd_ne nz,upd_ne nz]
    exact e
end
end K66
namespace K66
open PySem L2
def vI:V→Int
  | .int i=>i
  | _=>0
def ln0 (v:V):LnS:=⟨vI v,0,none,[]⟩
def Y0 (rooms:List V) (n:Nat):YS:=⟨rooms,rooms.map ln0,[],List.replicate n [],[]⟩
def LaneN (H0 H:Hp) (C:Addr) (v:V) (s:LnS):Prop:=∃ x dx pa,v = .ref x∧LaneAt H C x dx pa s.r s.b s.h [] []∧s.qs=[]∧H0 x=none∧H0 pa=none
theorem LaneN.same {H0 H H':Hp} {C:Addr} {v:V} {s:LnS} (h:LaneN H0 H C v s) (e:Same H H'):LaneN H0 H' C v s:=by
  obtain ⟨x,dx,pa,h1,h2,h3⟩:=h
  exact ⟨x,dx,pa,h1,h2.same e,h3⟩
def LaneX (y:Addr) (ex:List Addr) (H:Hp) (C:Addr) (v:V) (s:LnS):Prop:=∃ x dx pa,v = .ref x∧LaneAt H C x dx pa s.r s.b s.h [] []∧s.qs=[]∧x ≠ y∧pa ≠ y∧pa ∉ ex
theorem LaneN.laneX {H0 H:Hp} {C y:Addr} {v:V} {s:LnS} {u:HO} (h:LaneN H0 H C v s) (hy:H0 y=some u):LaneX y [] H C v s:=by
  obtain ⟨x,dx,pa,h1,h2,h3,h4,h5⟩:=h
  exact ⟨x,dx,pa,h1,h2,h3,(fun z=>by rw [z,hy] at h4; cases h4),(fun z=>by rw [z,hy] at h5; cases h5),List.not_mem_nil⟩
theorem LaneX.same {y:Addr} {ex:List Addr} {H H':Hp} {C:Addr} {v:V} {s:LnS} (h:LaneX y ex H C v s) (e:Same H H'):LaneX y ex H' C v s:=by
  obtain ⟨x,dx,pa,h1,h2,h3⟩:=h
  exact ⟨x,dx,pa,h1,h2.same e,h3⟩
theorem LaneX.upd {y:Addr} {ex:List Addr} {H:Hp} {C:Addr} {v:V} {s:LnS} {o:HO} (h:LaneX y ex H C v s):LaneX y ex (upd H y o) C v s:=by
  obtain ⟨x,dx,pa,h1,h2,h3,h4,h5,h6⟩:=h
  exact ⟨x,dx,pa,h1,⟨by rw [upd_ne h4]; exact h2.ins,by rw [upd_ne h5]; exact h2.lst, .nil⟩,h3,h4,h5,h6⟩
theorem LaneX.new {y a:Addr} {ex:List Addr} {H:Hp} {C:Addr} {v:V} {s:LnS} {o:HO} (h:LaneX y ex H C v s) (ha:H a=none):LaneX y (a :: ex) (L2.upd H a o) C v s:=by
  obtain ⟨x,dx,pa,h1,h2,h3,h4,h5,h6⟩:=h
  exact ⟨x,dx,pa,h1,h2.same ((Same.refl H).new ha),h3,h4,h5,fun z=>(List.mem_cons.mp z).elim (fun z=>by rw [z] at h2; rw [h2.lst] at ha; cases ha) h6⟩
theorem LaneX.laneV {y:Addr} {ex ex':List Addr} {H:Hp} {C:Addr} {v:V} {s:LnS} (h:LaneX y ex H C v s) (hs:∀ a ∈ ex',a ∈ ex):LaneV H C ex' v s:=by
  obtain ⟨x,dx,pa,h1,h2,h3,h4,h5,h6⟩:=h
  exact ⟨x,dx,pa,[],h1,by rw [h3]; exact h2,fun z=>h6 (hs _ z)⟩
theorem comp_lanes {K:PySem.W.Frag} {ro C:Addr} {rvs:List V} {g:TG} {te:TE} {σ0:St} {H:Hp} {Q:VK} (hn:rvs.length < sizeLine) (ha:SqT K H ro rvs) (hint:∀ v ∈ rvs,∃ r,v = .int r)
    (hs:∀ (r:Int) (H1:Hp) (N:V→Hp→Prop),Same H H1→(∀ x dx pa H2,H1 x=none→H1 pa=none→Same H1 H2→LaneAt H2 C x dx pa r 0 none [] []→N (.ref x) H2)→g (.int r) σ0 H1 fun σ2 H2=>te σ2 H2 N)
    (hq:∀ D vs H1,Same H H1→H1 D=none→Paired (LaneN H H1 C) vs (rvs.map ln0)→Q (.ref D) (upd H1 D (.lst vs))):CompR (Itt K ro) g tYes te σ0 Q H:=by
  refine comp_gen rvs.length hn (fun i acc H'=>Same H H'∧Paired (LaneN H H' C) acc ((rvs.take i).map ln0)) ⟨Same.refl _, .nil⟩ (fun i acc H' h=>by have:=Paired.length h.2; rw [this,List.length_map]; exact List.length_take_le _ _) (fun i acc H' hi h=>?_) (fun acc H' h=>?_)
  · obtain ⟨s,hL⟩:=h
    refine ⟨⟨rvs,rvs[i],same_seqT s ha,by simp [hi]⟩,fun v H2 y=>?_⟩
    obtain ⟨e,y⟩:=y
    subst e
    have hv:=y _ (same_seqT s ha)
    obtain ⟨r,rfl⟩:=hint v (List.mem_of_getElem? hv)
    refine hs r H2 (fun y H4=>Same H H4∧Paired (LaneN H H4 C) (acc ++ [y]) ((rvs.take (i + 1)).map ln0)) s fun x dx pa H3 nx npa s3 hL3=>⟨s.trans s3,?_⟩
    rw [List.take_succ,hv,Option.toList_some,List.map_append]
    exact Paired.snoc (b:=ln0 (.int r)) ⟨x,dx,pa,rfl,hL3,rfl,s.free nx,s.free npa⟩ (Paired.mono (fun _ _ z=>z.same s3) hL)
  · obtain ⟨s,hL⟩:=h
    rw [List.take_length] at hL
    exact ⟨⟨rvs,same_seqT s ha,Nat.le_refl _⟩,fun D hD=>hq D acc H' s hD hL⟩
theorem comp_lies {n:Nat} {g:TG} {te:TE} {σ0:St} {H:Hp} {Q:VK} (hn:n ≤ 1000)
    (hs:∀ (i:Nat) (H1:Hp) (N:V→Hp→Prop),Same H H1→(∀ t,H1 t=none→N (.ref t) (upd H1 t (.tup [])))→g (.int (0 + i)) σ0 H1 fun σ2 H2=>te σ2 H2 N)
    (hq:∀ D vs H1,Same H H1→H1 D=none→Paired (LieV H1) vs (List.replicate n [])→Q (.ref D) (upd H1 D (.lst vs))):CompR (Itr 0 n) g tYes te σ0 Q H:=by
  refine comp_gen n (by rw [PySem.sizeLine_eq]; omega) (fun i acc H'=>Same H H'∧Paired (LieV H') acc (List.replicate i [])) ⟨Same.refl _, .nil⟩ (fun i acc H' h=>by have:=Paired.length h.2; rw [this,List.length_replicate]; exact Nat.le_refl _) (fun i acc H' hi h=>?_) (fun acc H' h=>?_)
  · obtain ⟨s,hL⟩:=h
    refine ⟨hi,fun v H2 y=>?_⟩
    obtain ⟨e1,e2⟩:=y
    subst e1 e2
    refine hs i H2 (fun y H4=>Same H H4∧Paired (LieV H4) (acc ++ [y]) (List.replicate (i + 1) [])) s fun t ht=>⟨s.new ht,?_⟩
    rw [List.replicate_succ']
    exact Paired.snoc ⟨t,[],rfl,upd_same, .nil⟩ (Paired.mono (fun _ _ z=>z.keep (Same.keepN ((Same.refl H2).new ht))) hL)
  · obtain ⟨s,hL⟩:=h
    exact ⟨Nat.le_refl n,fun D hD=>hq D acc H' s hD hL⟩
theorem sqT_upd {K:PySem.W.Frag} {H:Hp} {a y C d:Addr} {fs:Fs} {o:HO} {xs:List V} (hy:H y=some (.ins C d fs)) (h:SqT K H a xs):SqT K (upd H y o) a xs:=by
  rcases h with h | h
  · refine .inl ?_
    rcases h with h | ⟨u,h⟩
    · exact .inl (by rw [upd_ne (ne_of h hy (by intro z; cases z))]; exact h)
    · exact .inr ⟨u,by rw [upd_ne (ne_of h hy (by intro z; cases z))]; exact h⟩
  · exact .inr h
theorem sqL_upd {K:PySem.W.Frag} {H:Hp} {a y C d:Addr} {fs:Fs} {o:HO} {xs:List V} (hy:H y=some (.ins C d fs)) (h:SqL K H a xs):SqL K (upd H y o) a xs:=by
  rcases h with h | h
  · refine .inl ?_
    rcases h with h | ⟨u,h⟩
    · exact .inl (by rw [upd_ne (ne_of h hy (by intro z; cases z))]; exact h)
    · exact .inr ⟨u,by rw [upd_ne (ne_of h hy (by intro z; cases z))]; exact h⟩
  · exact .inr h
def spYdI (K:PySem.W.Frag) (c:Cs) (TC:Addr) (J:TJ) (ys:Ys) (nr:Addr):Sp:=fun vs H Q E=>∃ (y dy tb lx ldx lt:Addr) (n:Nat) (tvs:List V) (ps:List (Int × Int)) (wy:Wf) (rv:V) (rvs:List V),vs=[.ref y, .ref tb,rv]∧H y=some (.ins ys.yard dy [])∧TbIn c TC J H tb lx ldx lt n tvs ps wy ∧
  ((rv = .non∧rvs=List.replicate ps.length (.int 1))∨(∃ ra,rv = .ref ra∧Sq K H ra rvs∧rvs.length ≤ 1000∧(∀ v ∈ rvs,Sca v)∧(okR ps.length rvs=false→∀ H',OffE [y] H H'→E (.ref nr) none H'))) ∧
  (okR ps.length rvs=true→∀ (ro la le li dn:Addr) (H':Hp),OffE [y] H H'→H la=none→H le=none→H li=none→H dn=none→YardAt K ys H' y dy tb ro la le li dn (Y0 rvs n)→Q .non H')
def fldC (s:Stmt):Scope:=match s with
  | .Assign _ (.ListComp _ _ sc _) _=>sc
  | _=>{ kind := .function,names:=[],isGenerator:=false,isCoroutine:=false }
theorem okv_int {v:V} {a b:Int} (h:okv v a b=true):∃ r,v = .int r:=by
  cases v <;> first | exact ⟨_,rfl⟩ | cases h
section
variable {P:Program} {w:World} {K:PySem.W.Frag} {mg:Str→Option Value} {base:Heap}
theorem scYI:FnScope ["self", "table", "rooms"] ["self", "table", "rooms"] (defScope sYdI):=⟨rfl,rfl,rfl,by decide +kernel,rfl,by decide +kernel,by decide +kernel⟩
theorem bkYI1:Blk ["self", "table", "rooms"] (defScope sYdI) (fldC ((defBody sYdI).getD 2 (.Pass ⟨0,0,0,0⟩))) [] []:=⟨rfl,by decide +kernel,by decide +kernel,by decide +kernel,rfl,by decide +kernel⟩
theorem bkYI2:Blk ["self", "table", "rooms"] (defScope sYdI) (fldC ((defBody sYdI).getD 4 (.Pass ⟨0,0,0,0⟩))) [] []:=⟨rfl,by decide +kernel,by decide +kernel,by decide +kernel,rfl,by decide +kernel⟩
theorem ndYI2:(["place"]:List Str).Nodup:=by decide +kernel
theorem ok_ydI {c:Cs} {ys:Ys} {J:TJ} {TC f fw2 fr fl nr:Addr} {fd dw2 dr dl:FuncData} (F:FunD K "__init__" "Yard.__init__" sYdI f fd) (T:Txt mg) (L:Lnd K c) (Y:Yrd K ys) (W:Wy K TC fw2 dw2 J)
    (mr:mg "rooms_of" = some (.ref fr)) (kr:PySem.W.keepIn K (.ref fr)=true) (br:Binds K dr ["land", "rooms"] []) (Gr:FnOk P w K mg base (CXe P w) 3 fr dr ["land", "rooms"] (spRooms K c nr))
    (ml:mg "Lane" = some (.ref ys.lane)) (Ml:Mk K ys.lane fl) (bl:Binds K dl ["self", "room"] []) (Gl:FnOk P w K mg base CX0 1 fl dl ["self", "room"] (spLnI ys.lane)) :
    FnOk P w K mg base (CXe P w) 4 f fd ["self", "table", "rooms"] (spYdI K c TC J ys nr):=by
  refine F.okX scYI (fun vs H Q E h=>?_) (fun cdv A outer s H vs Q E hr h=>?_)
  · obtain ⟨y,dy,tb,lx,ldx,lt,n,tvs,ps,wy,rv,rvs,rfl,_⟩:=h
    rfl
  · obtain ⟨y,dy,tb,lx,ldx,lt,n,tvs,ps,wy,rv,rvs,rfl,hy,hT,hrv,q⟩:=h
    have hr2:Room 2 _:=hr.mono (by decide)
    refine ⟨_,pss_cons (ps_fld (pv 0) (pv 1) rfl)
      (pss_cons (ps_fld (pv 0) (pe_post (pe_call Gr hr rfl mr kr br .nil (PassX.passes passX_def rfl) (pa_cons (pe_fld (pv 1) rfl) (pa_cons (pv 2) pa_nil)))) rfl)
      (pss_cons (ps_fld (pv 0) (pe_comp (own:=["room"]) (capN:=[]) (cap:=[]) bkYI1 rfl (pi_tup (pe_fld (pv 0) rfl)) (fun C s' H' fp=>⟨pg_name (i:=0) ndR2 rfl (Or.inl rfl),pts_nil,pe_make Ml Gl hr2 rfl ml bl .nil pass0 (pa_cons (pv 0) pa_nil)⟩)) rfl)
      (pss_cons (ps_fld (pv 0) (pe_lst pa_nil) rfl)
      (pss_cons (ps_fld (pv 0) (pe_comp (own:=["place"]) (capN:=[]) (cap:=[]) bkYI2 rfl (pi_range1 rfl T.range (pa_cons (pe_fld (pe_fld (pv 1) rfl) rfl) pa_nil)) (fun C s' H' fp=>⟨pg_name (i:=0) ndYI2 rfl (Or.inl rfl),pts_nil,pe_tup pa_nil⟩)) rfl)
      (pss_one (ps_fld (pv 0) (pe_lst pa_nil) rfl)))))),?_⟩
    have hm40:=hT.few
    have hn12:=hT.n12
    obtain ⟨dxt,fst,htb,hland,_⟩:=hT.i
    have kp:∀ {H':Hp},OffE [y] H H'→KeepN H H':=fun o=>o.keep' fun b hb=>by rw [List.mem_singleton.mp hb]; exact ⟨_,hy,id⟩
    have ntb:tb ≠ y:=ne_of htb hy (fun z=>by injection z with _ _ z3; rw [z3] at hland; cases hland)
    refine ⟨_,rfl,_,rfl,y,ys.yard,dy,_,rfl,hy,Y.cl,Y.n1,by show 0 < 1000; decide,?_⟩
    have o1:OffE [y] H (upd H y (.ins ys.yard dy (putF "table" (.ref tb) []))):=fun b o nb e=>by rw [upd_ne (fun z=>nb (by rw [z]; exact List.mem_singleton.mpr rfl))]; exact e
    have g1:(upd H y (.ins ys.yard dy (putF "table" (.ref tb) []))) y=some (.ins ys.yard dy [("table", .ref tb)]):=upd_same
    have sq1:∀ ra,Sq K H ra rvs→Sq K (upd H y (.ins ys.yard dy (putF "table" (.ref tb) []))) ra rvs:=fun ra h=>h.elim (fun h => .inl (sqL_upd hy h)) fun h => .inr (sqT_upd hy h)
    show _
    generalize upd H y (.ins ys.yard dy (putF "table" (.ref tb) []))=A1 at o1 g1 sq1 ⊢
    have hT1:=hT.keep W (kp o1)
    have ofy:∀ {Ha Hb:Hp} {o:HO},OffE [y] Ha Hb→OffE [y] Ha (upd Hb y o):=fun {Ha Hb o} h b u nb e=>by rw [upd_ne (fun z=>nb (by rw [z]; exact List.mem_singleton.mpr rfl))]; exact h b u nb e
    refine ⟨fun v A2=>∃ ro,v = .ref ro∧Same A1 A2∧SqT K A2 ro rvs∧okR ps.length rvs=true,?_,?_⟩
    · refine ⟨_,rfl,tb,TC,dxt,fst,_,rfl,o1 _ _ (fun z=>ntb (List.mem_singleton.mp z)) htb,W.cl,W.nl,hland,_,rfl,lx,ldx,lt,(n:Int),tvs,ps,rv,rfl,hT1.l,by omega,?_⟩
      rcases hrv with ⟨rfl,rfl⟩ | ⟨ra,rfl,hR,hrl,hsc,qE⟩
      · refine .inl ⟨rfl,fun t A2 s2 ht=>⟨t,rfl,s2,SqT.of ht,?_⟩⟩
        unfold okR
        rw [List.length_replicate,decide_eq_true rfl,Bool.true_and,List.all_eq_true]
        intro v hv
        rw [List.eq_of_mem_replicate hv]; rfl
      · have hR1:Sq K A1 ra rvs:=sq1 ra hR
        exact .inr ⟨ra,rvs,rfl,hR1,hrl,hsc,fun hok A2 s2=>qE hok A2 (o1.trans (Same.offE s2)),fun hok t A2 s2 ht=>⟨t,rfl,s2,ht,hok⟩⟩
    rintro v A2 ⟨ro,rfl,s2,hro,hok⟩
    have hall:rvs.length=ps.length∧∀ v ∈ rvs,∃ r,v = .int r:=by
      unfold okR at hok
      rw [Bool.and_eq_true,decide_eq_true_eq,List.all_eq_true] at hok
      exact ⟨hok.1,fun v hv=>okv_int (hok.2 v hv)⟩
    have o2:OffE [y] H A2:=o1.trans (Same.offE s2)
    have g2:=s2 _ _ g1
    refine ⟨_,rfl,y,ys.yard,dy,_,rfl,g2,Y.cl,Y.n2,by show 1 < 1000; decide,?_⟩
    have o3:=ofy (o := .ins ys.yard dy (putF "rooms" (.ref ro) [("table", .ref tb)])) o2
    have g3:(upd A2 y (.ins ys.yard dy (putF "rooms" (.ref ro) [("table", .ref tb)]))) y=some (.ins ys.yard dy [("table", .ref tb),("rooms", .ref ro)]):=upd_same
    have hro3:SqT K (upd A2 y (.ins ys.yard dy (putF "rooms" (.ref ro) [("table", .ref tb)]))) ro rvs:=sqT_upd g2 hro
    show _
    generalize upd A2 y (.ins ys.yard dy (putF "rooms" (.ref ro) [("table", .ref tb)]))=A3 at o3 g3 hro3 ⊢
    refine ⟨_,rfl,y,ys.yard,dy,_,_,rfl,g3,Y.cl,Y.n2,rfl,ro,rfl,⟨_,hro3⟩,?_⟩
    refine comp_lanes (C:=ys.lane) (by rw [PySem.sizeLine_eq]; omega) hro3 hall.2 (fun r B N sB hN=>?_) (fun la lvs A4 s4 hla hLn=>?_)
    · refine ⟨_,rfl,fun x dx nx ndx nex=>⟨x,dx,r,rfl,upd_same,fun pa B2 hpa off hL=>⟨rfl,?_⟩⟩⟩
      have npx:B pa=none:=by
        by_cases e1:pa=x
        · rw [e1,upd_same] at hpa; cases hpa
        · by_cases e2:pa=dx
          · rw [e2,upd_ne nex,upd_same] at hpa; cases hpa
          · rw [upd_ne e1,upd_ne e2] at hpa; exact hpa
      refine hN x dx pa B2 nx npx (fun b o e=>off b o (ne_of_none e nx) ?_) hL
      rw [upd_ne (ne_of_none e nx),upd_ne (ne_of_none e ndx)]
      exact e
    have o4:OffE [y] H A4:=o3.trans (Same.offE s4)
    have g4:=s4 _ _ g3
    have nla:la ≠ y:=Ne.symm (ne_of_none g4 hla)
    have la0:H la=none:=by
      cases e:H la with
      | none=>rfl
      | some u=>rw [o4 _ _ (fun z=>nla (List.mem_singleton.mp z)) e] at hla; cases hla
    have hX5:Paired (LaneX y [la] (upd A4 la (.lst lvs)) ys.lane) lvs (rvs.map ln0):=Paired.mono (fun _ _ z=>(z.laneX g3).new hla) hLn
    have o5:OffE [y] H (upd A4 la (.lst lvs)):=o4.trans (Same.offE ((Same.refl A4).new hla))
    have g5:(upd A4 la (.lst lvs)) y=some (.ins ys.yard dy [("table", .ref tb),("rooms", .ref ro)]):=by rw [upd_ne (Ne.symm nla)]; exact g4
    have gla5:(upd A4 la (.lst lvs)) la=some (.lst lvs):=upd_same
    have hro5:SqT K (upd A4 la (.lst lvs)) ro rvs:=same_seqT ((Same.refl A4).new hla) (same_seqT s4 hro3)
    refine ⟨_,rfl,y,ys.yard,dy,_,rfl,g5,Y.cl,Y.n3,by show 2 < 1000; decide,?_⟩
    generalize upd A4 la (.lst lvs)=A5 at hX5 o5 g5 gla5 hro5 ⊢
    have hX6:Paired (LaneX y [la] (upd A5 y (.ins ys.yard dy (putF "lanes" (.ref la) [("table", .ref tb),("rooms", .ref ro)]))) ys.lane) lvs (rvs.map ln0):=Paired.mono (fun _ _ z=>z.upd) hX5
    have o6:=ofy (o := .ins ys.yard dy (putF "lanes" (.ref la) [("table", .ref tb),("rooms", .ref ro)])) o5
    have g6:(upd A5 y (.ins ys.yard dy (putF "lanes" (.ref la) [("table", .ref tb),("rooms", .ref ro)]))) y=some (.ins ys.yard dy [("table", .ref tb),("rooms", .ref ro),("lanes", .ref la)]):=upd_same
    have gla6:(upd A5 y (.ins ys.yard dy (putF "lanes" (.ref la) [("table", .ref tb),("rooms", .ref ro)]))) la=some (.lst lvs):=by rw [upd_ne nla]; exact gla5
    have hro6:=sqT_upd (o := .ins ys.yard dy (putF "lanes" (.ref la) [("table", .ref tb),("rooms", .ref ro)])) g5 hro5
    generalize upd A5 y (.ins ys.yard dy (putF "lanes" (.ref la) [("table", .ref tb),("rooms", .ref ro)]))=A6 at hX6 o6 g6 gla6 hro6 ⊢
    refine ⟨Nat.zero_le _,fun le hle=>?_⟩
    have nle:le ≠ y:=Ne.symm (ne_of_none g6 hle)
    have nlale:la ≠ le:=ne_of_none gla6 hle
    have le0:H le=none:=by
      cases e:H le with
      | none=>rfl
      | some u=>rw [o6 _ _ (fun z=>nle (List.mem_singleton.mp z)) e] at hle; cases hle
    have hX7:Paired (LaneX y [le,la] (upd A6 le (.lst [])) ys.lane) lvs (rvs.map ln0):=Paired.mono (fun _ _ z=>z.new hle) hX6
    have o7:OffE [y] H (upd A6 le (.lst [])):=o6.trans (Same.offE ((Same.refl A6).new hle))
    have g7:(upd A6 le (.lst [])) y=some (.ins ys.yard dy [("table", .ref tb),("rooms", .ref ro),("lanes", .ref la)]):=by rw [upd_ne (Ne.symm nle)]; exact g6
    have gla7:(upd A6 le (.lst [])) la=some (.lst lvs):=by rw [upd_ne nlale]; exact gla6
    have gle7:(upd A6 le (.lst [])) le=some (.lst []):=upd_same
    have hro7:SqT K (upd A6 le (.lst [])) ro rvs:=same_seqT ((Same.refl A6).new hle) hro6
    refine ⟨_,rfl,y,ys.yard,dy,_,rfl,g7,Y.cl,Y.n4,by show 3 < 1000; decide,?_⟩
    generalize upd A6 le (.lst [])=A7 at hX7 o7 g7 gla7 gle7 hro7 ⊢
    have hX8:Paired (LaneX y [le,la] (upd A7 y (.ins ys.yard dy (putF "letters" (.ref le) [("table", .ref tb),("rooms", .ref ro),("lanes", .ref la)]))) ys.lane) lvs (rvs.map ln0):=Paired.mono (fun _ _ z=>z.upd) hX7
    have o8:=ofy (o := .ins ys.yard dy (putF "letters" (.ref le) [("table", .ref tb),("rooms", .ref ro),("lanes", .ref la)])) o7
    have g8:(upd A7 y (.ins ys.yard dy (putF "letters" (.ref le) [("table", .ref tb),("rooms", .ref ro),("lanes", .ref la)]))) y=some (.ins ys.yard dy [("table", .ref tb),("rooms", .ref ro),("lanes", .ref la),("letters", .ref le)]):=upd_same
    have gla8:(upd A7 y (.ins ys.yard dy (putF "letters" (.ref le) [("table", .ref tb),("rooms", .ref ro),("lanes", .ref la)]))) la=some (.lst lvs):=by rw [upd_ne nla]; exact gla7
    have gle8:(upd A7 y (.ins ys.yard dy (putF "letters" (.ref le) [("table", .ref tb),("rooms", .ref ro),("lanes", .ref la)]))) le=some (.lst []):=by rw [upd_ne nle]; exact gle7
    have hro8:=sqT_upd (o := .ins ys.yard dy (putF "letters" (.ref le) [("table", .ref tb),("rooms", .ref ro),("lanes", .ref la)])) g7 hro7
    generalize upd A7 y (.ins ys.yard dy (putF "letters" (.ref le) [("table", .ref tb),("rooms", .ref ro),("lanes", .ref la)]))=A8 at hX8 o8 g8 gla8 gle8 hro8 ⊢
    have hT8:=hT.keep W (kp o8)
    refine ⟨_,rfl,tb,TC,dxt,fst,_,rfl,o8 _ _ (fun z=>ntb (List.mem_singleton.mp z)) htb,W.cl,W.nl,hland,lx,c.land,ldx,_,_,rfl,hT8.l.1,L.cl,L.np,rfl,(n:Int),rfl,by omega,by omega,?_⟩
    rw [Int.toNat_natCast]
    refine comp_lies (by omega) (fun i B N sB hN=>⟨Nat.zero_le _,fun t ht=>hN t ht⟩) (fun li hvs A9 s9 hli hLi=>?_)
    have g9:=s9 _ _ g8
    have o9:OffE [y] H A9:=o8.trans (Same.offE s9)
    have nli:li ≠ y:=Ne.symm (ne_of_none g9 hli)
    have nlali:la ≠ li:=ne_of_none (s9 _ _ gla8) hli
    have nleli:le ≠ li:=ne_of_none (s9 _ _ gle8) hli
    have li0:H li=none:=by
      cases e:H li with
      | none=>rfl
      | some u=>rw [o9 _ _ (fun z=>nli (List.mem_singleton.mp z)) e] at hli; cases hli
    have t10:=(Same.refl A9).new (o := .lst hvs) hli
    have hX10:Paired (LaneX y [li,le,la] (upd A9 li (.lst hvs)) ys.lane) lvs (rvs.map ln0):=Paired.mono (fun _ _ z=>(z.same s9).new hli) hX8
    have hLi10:Paired (LieV (upd A9 li (.lst hvs))) hvs (List.replicate n []):=Paired.mono (fun _ _ z=>z.keep (Same.keepN t10)) hLi
    have gli10:(upd A9 li (.lst hvs)) li=some (.lst hvs):=upd_same
    have o10:OffE [y] H (upd A9 li (.lst hvs)):=o9.trans (Same.offE t10)
    have g10:=t10 _ _ g9
    have gla10:=t10 _ _ (s9 _ _ gla8)
    have gle10:=t10 _ _ (s9 _ _ gle8)
    have hro10:=same_seqT t10 (same_seqT s9 hro8)
    refine ⟨_,rfl,y,ys.yard,dy,_,rfl,g10,Y.cl,Y.n5,by show 4 < 1000; decide,?_⟩
    generalize upd A9 li (.lst hvs)=A10 at hX10 hLi10 gli10 o10 g10 gla10 gle10 hro10 ⊢
    have lieU:∀ {B:Hp} {o:HO} {C d:Addr} {fs:Fs} {v:V} {qs:List (Int × Int)},B y=some (.ins C d fs)→LieV B v qs→LieV (upd B y o) v qs:=fun {B o C d fs v qs} hB h=>by
      obtain ⟨t,ws,e,h1,h2⟩:=h
      exact ⟨t,ws,e,by rw [upd_ne (ne_of h1 hB (by intro z; cases z))]; exact h1,Lns.imp (fun _ _ ⟨t',e',q'⟩=>⟨t',e',by rw [upd_ne (ne_of q' hB (by intro z; cases z))]; exact q'⟩) h2⟩
    have hX11:Paired (LaneX y [li,le,la] (upd A10 y (.ins ys.yard dy (putF "lies" (.ref li) [("table", .ref tb),("rooms", .ref ro),("lanes", .ref la),("letters", .ref le)]))) ys.lane) lvs (rvs.map ln0):=Paired.mono (fun _ _ z=>z.upd) hX10
    have hLi11:Paired (LieV (upd A10 y (.ins ys.yard dy (putF "lies" (.ref li) [("table", .ref tb),("rooms", .ref ro),("lanes", .ref la),("letters", .ref le)])))) hvs (List.replicate n []):=Paired.mono (fun _ _ z=>lieU g10 z) hLi10
    have o11:=ofy (o := .ins ys.yard dy (putF "lies" (.ref li) [("table", .ref tb),("rooms", .ref ro),("lanes", .ref la),("letters", .ref le)])) o10
    have g11:(upd A10 y (.ins ys.yard dy (putF "lies" (.ref li) [("table", .ref tb),("rooms", .ref ro),("lanes", .ref la),("letters", .ref le)]))) y=some (.ins ys.yard dy [("table", .ref tb),("rooms", .ref ro),("lanes", .ref la),("letters", .ref le),("lies", .ref li)]):=upd_same
    have gla11:(upd A10 y (.ins ys.yard dy (putF "lies" (.ref li) [("table", .ref tb),("rooms", .ref ro),("lanes", .ref la),("letters", .ref le)]))) la=some (.lst lvs):=by rw [upd_ne nla]; exact gla10
    have gle11:(upd A10 y (.ins ys.yard dy (putF "lies" (.ref li) [("table", .ref tb),("rooms", .ref ro),("lanes", .ref la),("letters", .ref le)]))) le=some (.lst []):=by rw [upd_ne nle]; exact gle10
    have gli11:(upd A10 y (.ins ys.yard dy (putF "lies" (.ref li) [("table", .ref tb),("rooms", .ref ro),("lanes", .ref la),("letters", .ref le)]))) li=some (.lst hvs):=by rw [upd_ne nli]; exact gli10
    have hro11:=sqT_upd (o := .ins ys.yard dy (putF "lies" (.ref li) [("table", .ref tb),("rooms", .ref ro),("lanes", .ref la),("letters", .ref le)])) g10 hro10
    generalize upd A10 y (.ins ys.yard dy (putF "lies" (.ref li) [("table", .ref tb),("rooms", .ref ro),("lanes", .ref la),("letters", .ref le)]))=A11 at hX11 hLi11 o11 g11 gla11 gle11 gli11 hro11 ⊢
    refine ⟨Nat.zero_le _,fun dn hdn=>?_⟩
    have ndn:dn ≠ y:=Ne.symm (ne_of_none g11 hdn)
    have nladn:la ≠ dn:=ne_of_none gla11 hdn
    have nledn:le ≠ dn:=ne_of_none gle11 hdn
    have nlidn:li ≠ dn:=ne_of_none gli11 hdn
    have dn0:H dn=none:=by
      cases e:H dn with
      | none=>rfl
      | some u=>rw [o11 _ _ (fun z=>ndn (List.mem_singleton.mp z)) e] at hdn; cases hdn
    have t12:=(Same.refl A11).new (o := .lst []) hdn
    have g12:=t12 _ _ g11
    refine ⟨_,rfl,y,ys.yard,dy,_,rfl,g12,Y.cl,Y.n6,by show 5 < 1000; decide,?_⟩
    refine q hok ro la le li dn _ (ofy (o11.trans (Same.offE t12))) la0 le0 li0 dn0 ⟨upd_same,sqT_upd g12 (same_seqT t12 hro11),⟨lvs,by rw [upd_ne nla]; exact t12 _ _ gla11,?_⟩,⟨[],by rw [upd_ne nle]; exact t12 _ _ gle11, .nil⟩,⟨hvs,by rw [upd_ne nli]; exact t12 _ _ gli11,Paired.mono (fun _ _ z=>lieU g12 (z.keep (Same.keepN t12))) hLi11⟩,⟨[],by rw [upd_ne ndn]; exact upd_same, .nil⟩,?_⟩
    · refine Paired.mono (fun _ _ z=>((z.new hdn).upd).laneV fun a ha=>?_) hX11
      simp only [List.mem_cons,List.not_mem_nil,or_false] at ha ⊢
      rcases ha with rfl | rfl | rfl | rfl
      · exact .inr (.inr (.inr rfl))
      · exact .inr (.inr (.inl rfl))
      · exact .inr (.inl rfl)
      · exact .inl rfl
    · simp only [List.nodup_cons,List.mem_cons,List.not_mem_nil,or_false,not_or,not_false_eq_true,and_true,List.nodup_nil]
      exact ⟨⟨nlale,nlali,nladn⟩,⟨nleli,nledn⟩,nlidn⟩
end
end K66
namespace K66
open PySem L2
theorem YardAt.off {K:PySem.W.Frag} {ys:Ys} {H H':Hp} {y dy tb ro la le li dn:Addr} {s:YS} (h:YardAt K ys H y dy tb ro la le li dn s) (o:OffE [la,le,li,dn] H H'):H' y=some (.ins ys.yard dy (ydF tb ro la le li dn))∧SqT K H' ro s.rooms∧(∀ vs ss,Paired (LaneV H ys.lane [la,le,li,dn]) vs ss→Paired (LaneV H' ys.lane [la,le,li,dn]) vs ss)∧(∀ vs ss,Paired (LetV H ys.letter [la,le,li,dn]) vs ss→Paired (LetV H' ys.letter [la,le,li,dn]) vs ss)∧(∀ vs ss,Paired (LieV H) vs ss→Paired (LieV H') vs ss)∧∀ vs ss,Paired (MvV H) vs ss→Paired (MvV H') vs ss:=by
  have hx:=h.lsts
  have k:=o.keepN hx
  refine ⟨k _ _ h.ins True.intro,?_,fun vs ss=>Paired.mono fun _ _ z=>z.offE hx o,fun vs ss=>Paired.mono fun _ _ z=>z.offE hx o,fun vs ss=>Paired.mono fun _ _ z=>z.keep k,fun vs ss=>Paired.mono fun _ _ z=>z.keep k⟩
  rcases h.hro with r | r
  · refine .inl ?_
    rcases r with r | ⟨u,r⟩
    · exact .inl (k _ _ r True.intro)
    · exact .inr ⟨u,k _ _ r True.intro⟩
  · exact .inr r
theorem upd_off {ex:List Addr} {a:Addr} {H:Hp} {o:HO} (ha:a ∈ ex):OffE ex H (upd H a o):=fun b u nb e=>by rw [upd_ne (fun z=>nb (by rw [z]; exact ha))]; exact e
theorem YardAt.pushL {K:PySem.W.Frag} {ys:Ys} {H:Hp} {y dy tb ro la le li dn:Addr} {s:YS} (h:YardAt K ys H y dy tb ro la le li dn s) {vs:List V} {v:V} {t:LtS} (hv:H le=some (.lst vs)) (hL:LetV H ys.letter [la,le,li,dn] v t):YardAt K ys (upd H le (.lst (vs ++ [v]))) y dy tb ro la le li dn { s with letters:=s.letters ++ [t] }:=by
  obtain ⟨h1,h2,f1,f2,f3,f4⟩:=h.off (upd_off (a:=le) (o := .lst (vs ++ [v])) (by simp))
  obtain ⟨v1,a1,p1⟩:=h.hla
  obtain ⟨v2,a2,p2⟩:=h.hle
  obtain ⟨v3,a3,p3⟩:=h.hli
  obtain ⟨v4,a4,p4⟩:=h.hdn
  rw [hv] at a2
  cases a2
  have ne:=h.ne
  simp only [List.nodup_cons,List.mem_cons,List.not_mem_nil,or_false,not_or,not_false_eq_true,and_true,List.nodup_nil] at ne
  have hL':Paired (LetV (upd H le (.lst (vs ++ [v]))) ys.letter [la,le,li,dn]) [v] [t]:=f2 [v] [t] (.cons hL .nil)
  exact ⟨h1,h2,⟨v1,by rw [upd_ne ne.1.1]; exact a1,f1 _ _ p1⟩,⟨vs ++ [v],upd_same,Paired.snoc (by cases hL' with | cons z _=>exact z) (f2 _ _ p2)⟩,⟨v3,by rw [upd_ne (Ne.symm ne.2.1.1)]; exact a3,f3 _ _ p3⟩,⟨v4,by rw [upd_ne (Ne.symm ne.2.1.2)]; exact a4,f4 _ _ p4⟩,h.ne⟩
theorem YardAt.pushD {K:PySem.W.Frag} {ys:Ys} {H:Hp} {y dy tb ro la le li dn:Addr} {s:YS} (h:YardAt K ys H y dy tb ro la le li dn s) {vs:List V} {v:V} {t:List V} (hv:H dn=some (.lst vs)) (hL:MvV H v t):YardAt K ys (upd H dn (.lst (vs ++ [v]))) y dy tb ro la le li dn { s with done:=s.done ++ [t] }:=by
  obtain ⟨h1,h2,f1,f2,f3,f4⟩:=h.off (upd_off (a:=dn) (o := .lst (vs ++ [v])) (by simp))
  obtain ⟨v1,a1,p1⟩:=h.hla
  obtain ⟨v2,a2,p2⟩:=h.hle
  obtain ⟨v3,a3,p3⟩:=h.hli
  obtain ⟨v4,a4,p4⟩:=h.hdn
  rw [hv] at a4
  cases a4
  have ne:=h.ne
  simp only [List.nodup_cons,List.mem_cons,List.not_mem_nil,or_false,not_or,not_false_eq_true,and_true,List.nodup_nil] at ne
  have hL':Paired (MvV (upd H dn (.lst (vs ++ [v])))) [v] [t]:=f4 [v] [t] (.cons hL .nil)
  exact ⟨h1,h2,⟨v1,by rw [upd_ne ne.1.2.2]; exact a1,f1 _ _ p1⟩,⟨v2,by rw [upd_ne ne.2.1.2]; exact a2,f2 _ _ p2⟩,⟨v3,by rw [upd_ne ne.2.2]; exact a3,f3 _ _ p3⟩,⟨vs ++ [v],upd_same,Paired.snoc (by cases hL' with | cons z _=>exact z) (f4 _ _ p4)⟩,h.ne⟩
inductive Pd
  | place | length | word | way | full | good
def pdue (n:Nat) (wy:Wf) (m:Nat) (sv gv lv wv:V):Pd :=
  if (okv sv 0 ((n:Int) - 1) && okv gv 0 ((n:Int) - 1))=false then .place else if okv lv 1 60=false then .length else if okW wv=false then .word
  else if vI sv=vI gv∨wy (vI sv).toNat (vI gv).toNat none=[] then .way else if 60 ≤ m then .full else .good
structure Xs where
  place:Addr
  length:Addr
  word:Addr
  way:Addr
  full:Addr
def postS (s:YS) (a b l u:Int):YS:={ s with letters:=s.letters ++ [⟨a,b,l,u,0,[]⟩],done:=s.done ++ [[.str "post", .int a, .int b, .int l, .int u]] }
def spPost (K:PySem.W.Frag) (c:Cs) (TC:Addr) (J:TJ) (ys:Ys) (x:Xs):Sp:=fun vs H Q E=>∃ (y dy tb ro la le li dn lx ldx lt:Addr) (n:Nat) (tvs:List V) (ps:List (Int × Int)) (wy:Wf) (s:YS) (sv gv lv wv:V),vs=[.ref y,sv,gv,lv,wv]∧YardAt K ys H y dy tb ro la le li dn s∧TbIn c TC J H tb lx ldx lt n tvs ps wy∧Sca sv∧Sca gv∧Sca lv∧Sca wv∧s.letters.length ≤ 900∧s.done.length ≤ 10000 ∧
  (pdue n wy s.letters.length sv gv lv wv = .place→∀ H',Same H H'→E (.ref x.place) none H') ∧
  (pdue n wy s.letters.length sv gv lv wv = .length→∀ H',Same H H'→E (.ref x.length) none H') ∧
  (pdue n wy s.letters.length sv gv lv wv = .word→∀ H',Same H H'→E (.ref x.word) none H') ∧
  (pdue n wy s.letters.length sv gv lv wv = .way→∀ H' d,Same H H'→H' d=some (.xd [("start",sv),("goal",gv)])→E (.ref x.way) (some d) H') ∧
  (pdue n wy s.letters.length sv gv lv wv = .full→∀ H',Same H H'→E (.ref x.full) none H') ∧
  (pdue n wy s.letters.length sv gv lv wv = .good→∀ H',OffE [le,dn] H H'→YardAt K ys H' y dy tb ro la le li dn (postS s (vI sv) (vI gv) (vI lv) (vI wv))→Q (.int s.letters.length) H')
structure ExW (K:PySem.W.Frag) (mg:Str→Option Value) (C f:Addr) (d:FuncData):Prop where
  m:mg "NoWay" = some (.ref C)
  x:excInI K C (some (.ref f))=true
  k:PySem.W.keepIn K (.ref C)=true
  c:XCls K C
  n1:PySem.W.findIn K (.ref C) "start" = some none
  n2:PySem.W.findIn K (.ref C) "goal" = some none
  i:PySem.W.isFn K (.ref f)=true
  F:Fun K "__init__" "NoWay.__init__" sNR2 f d
  b:Binds K d ["self", "start", "goal"] []
abbrev NPo:List Str:=["self", "start", "goal", "length", "word", "last_place"]
abbrev PPo:List Str:=["self", "start", "goal", "length", "word"]
section
variable {P:Program} {w:World} {K:PySem.W.Frag} {mg:Str→Option Value} {base:Heap}
theorem scPo:FnScope NPo PPo (defScope sPost):=⟨rfl,rfl,rfl,by decide +kernel,rfl,by decide +kernel,by decide +kernel⟩
theorem ok_post {c:Cs} {ys:Ys} {x:Xs} {J:TJ} {TC f fw2 fw fwo fl fnw:Addr} {fd dw2 dw dwo dl dnw:FuncData} {t1 t2:Tok} (F:FunD K "post" "Yard.post" sPost f fd) (T:Txt mg) (L:Lnd K c) (Y:Yrd K ys) (W:Wy K TC fw2 dw2 J) (Gway:FnOk P w K mg base CX0 3 fw2 dw2 ["self", "place", "goal", "came"] (spWaysA J))
    (mw:mg "is_within" = some (.ref fw)) (kw:PySem.W.keepIn K (.ref fw)=true) (bw:Binds K dw ["value", "least", "most"] []) (Gw:FnOk P w K mg base CX0 2 fw dw ["value", "least", "most"] spWithinV)
    (mwo:mg "is_word" = some (.ref fwo)) (kwo:PySem.W.keepIn K (.ref fwo)=true) (bwo:Binds K dwo ["word"] []) (Gwo:FnOk P w K mg base CX0 2 fwo dwo ["word"] spWord)
    (ml:mg "Letter" = some (.ref ys.letter)) (Ml:Mk K ys.letter fl) (bl:Binds K dl ["self", "start", "goal", "length", "word"] []) (Gl:FnOk P w K mg base CX0 1 fl dl ["self", "start", "goal", "length", "word"] (spLtI ys.letter))
    (mL:mg "MOST_LENGTH" = some (.int 60 t1)) (mM:mg "MOST_LETTERS" = some (.int 60 t2)) (X1:ExP K mg "NoPlace" x.place) (X2:ExP K mg "NoLength" x.length) (X3:ExP K mg "NoWord" x.word) (X4:ExW K mg x.way fnw dnw) (X5:ExP K mg "Full" x.full) :
    FnOk P w K mg base (CXe P w) 4 f fd PPo (spPost K c TC J ys x):=by
  have Gnw:FnOk P w K mg base CX0 1 fnw dnw ["self", "start", "goal"] (spXi2 K "start" "goal"):=ok_nw X4.F
  refine F.okX scPo (fun vs H Q E h=>?_) (fun cdv A outer s H vs Q E hr h=>?_)
  · obtain ⟨y,dy,tb,ro,la,le,li,dn,lx,ldx,lt,n,tvs,ps,wy,s,sv,gv,lv,wv,rfl,_⟩:=h
    rfl
  · obtain ⟨y,dy,tb,ro,la,le,li,dn,lx,ldx,lt,n,tvs,ps,wy,st,sv,gv,lv,wv,rfl,hY,hT,cs,cg,cl,cw,hl9,hd9,e1,e2,e3,e4,e5,q⟩:=h
    have hr2:Room 2 _:=hr.mono (by decide)
    refine ⟨_,pss_cons (ps_set (i:=5) scPo.nd rfl (Or.inl rfl) (pe_op op_sub (pe_fld (pe_fld (pe_fld (pv 0) rfl) rfl) rfl) pe_int))
      (pss_cons (ps_if (PW.pt (pw_or (pt_not (pt_val (pe_call Gw hr2 rfl mw kw bw .nil pass0 (pa_cons (pv 1) (pa_cons pe_int (pa_cons (pv 5) pa_nil)))))) (pw_or1 (pt_not (pt_val (pe_call Gw hr2 rfl mw kw bw .nil pass0 (pa_cons (pv 2) (pa_cons pe_int (pa_cons (pv 5) pa_nil)))))))))
        (pss_one (ps_raise rfl X1.x passX_def (px_plain X1.x X1.k rfl rfl X1.m (pa_cons pe_str pa_nil)))) pss_nil)
      (pss_cons (ps_if (pt_not (pt_val (pe_call Gw hr2 rfl mw kw bw .nil pass0 (pa_cons (pv 3) (pa_cons pe_int (pa_cons (pe_glob (v := .int 60) rfl mL ⟨_,rfl⟩) pa_nil))))))
        (pss_one (ps_raise rfl X2.x passX_def (px_plain X2.x X2.k rfl rfl X2.m (pa_cons pe_str pa_nil)))) pss_nil)
      (pss_cons (ps_if (pt_not (pt_val (pe_call Gwo hr2 rfl mwo kwo bwo .nil pass0 (pa_cons (pv 4) pa_nil))))
        (pss_one (ps_raise rfl X3.x passX_def (px_plain X3.x X3.k rfl rfl X3.m (pa_cons pe_str pa_nil)))) pss_nil)
      (pss_cons (ps_if (pt_post (PW.pt (pw_or (pt_cmpR op_eq (pv 1) (pv 2) (nomark _)) (pw_or1 (pt_not (pt_truth (pe_meth (pe_fld (pv 0) rfl) W.cl W.m Gway hr W.b .nil pass0 (pa_cons (pv 1) (pa_cons (pv 2) (pa_cons pe_non pa_nil)))) (fun _=>rfl)))))))
        (pss_one (ps_raise rfl X4.x passX_def (px_init X4.x X4.i X4.k Gnw hr2 X4.b rfl X4.m (pa_cons (pv 1) (pa_cons (pv 2) pa_nil))))) pss_nil)
      (pss_cons (ps_if (pt_cmpR op_ge (pe_callB call_len_seq rfl T.len PySem.boot_len (pa_cons (pe_fld (pv 0) rfl) pa_nil)) (pe_glob (v := .int 60) rfl mM ⟨_,rfl⟩) (nomark _))
        (pss_one (ps_raise rfl X5.x passX_def (px_plain X5.x X5.k rfl rfl X5.m (pa_cons pe_str pa_nil)))) pss_nil)
      (pss_cons (ps_expr (pe_bm PySem.F.plainAttrs_list PySem.F.slot_list_append PySem.F.type_list_append mt_append (pe_fld (pv 0) rfl) (pa_cons (pe_make Ml Gl hr2 rfl ml bl .nil pass0 (pa_cons (pv 1) (pa_cons (pv 2) (pa_cons (pv 3) (pa_cons (pv 4) pa_nil))))) pa_nil)))
      (pss_cons (ps_expr (pe_bm PySem.F.plainAttrs_list PySem.F.slot_list_append PySem.F.type_list_append mt_append (pe_fld (pv 0) rfl) (pa_cons (pe_tup (pa_cons pe_str (pa_cons (pv 1) (pa_cons (pv 2) (pa_cons (pv 3) (pa_cons (pv 4) pa_nil)))))) pa_nil)))
      (pss_one (ps_ret (pe_op op_sub (pe_callB call_len_seq rfl T.len PySem.boot_len (pa_cons (pe_fld (pv 0) rfl) pa_nil)) pe_int)))))))))),?_⟩
    obtain ⟨dxt,fst,htb,hland,hways⟩:=hT.i
    unfold pdue at e1 e2 e3 e4 e5 q
    refine ⟨_,rfl,y,ys.yard,dy,_,_,rfl,hY.ins,Y.cl,Y.n1,rfl,tb,TC,dxt,fst,_,rfl,htb,W.cl,W.nl,hland,lx,c.land,ldx,_,_,rfl,hT.l.1,L.cl,L.np,rfl,_,_,rfl,rfl,?_⟩
    refine ⟨_,rfl,_,rfl,sv,0,(n:Int) - 1,rfl,cs,_,rfl,?_⟩
    cases h1:okv sv 0 ((n:Int) - 1) with
    | false =>
      refine iteT (iteT ⟨by show 1 ≤ sizeLine; decide,?_⟩)
      exact e1 (by rw [h1,Bool.false_and,if_pos rfl]) H (Same.refl H)
    | true =>
    refine iteF ⟨_,rfl,_,rfl,gv,0,(n:Int) - 1,rfl,cg,_,rfl,?_⟩
    cases h2:okv gv 0 ((n:Int) - 1) with
    | false =>
      refine iteT ⟨by show 1 ≤ sizeLine; decide,?_⟩
      exact e1 (by rw [h1,h2,Bool.and_false,if_pos rfl]) H (Same.refl H)
    | true =>
    rw [h1,h2,Bool.true_and,if_neg (by decide)] at e2 e3 e4 e5 q
    refine iteF ⟨_,rfl,lv,1,60,rfl,cl,_,rfl,?_⟩
    cases h3:okv lv 1 60 with
    | false =>
      refine iteT ⟨by show 1 ≤ sizeLine; decide,?_⟩
      exact e2 (by rw [h3,if_pos rfl]) H (Same.refl H)
    | true =>
    rw [h3,if_neg (by decide)] at e3 e4 e5 q
    refine iteF ⟨_,rfl,wv,rfl,cw,_,rfl,?_⟩
    cases h4:okW wv with
    | false =>
      refine iteT ⟨by show 1 ≤ sizeLine; decide,?_⟩
      exact e3 (by rw [h4,if_pos rfl]) H (Same.refl H)
    | true =>
    rw [h4,if_neg (by decide)] at e4 e5 q
    refine iteF ?_
    obtain ⟨a,rfl⟩:=okv_int h1
    obtain ⟨b,rfl⟩:=okv_int h2
    obtain ⟨l,rfl⟩:=okv_int h3
    obtain ⟨u,rfl⟩:∃ u,wv = .int u:=by
      cases wv <;> first | exact ⟨_,rfl⟩ | cases h4
    have ha:0 ≤ a∧a ≤ (n:Int) - 1:=of_decide_eq_true h1
    have hb:0 ≤ b∧b ≤ (n:Int) - 1:=of_decide_eq_true h2
    obtain ⟨a',rfl⟩:∃ a':Nat,a=(a':Int):=⟨a.toNat,by omega⟩
    obtain ⟨b',rfl⟩:∃ b':Nat,b=(b':Int):=⟨b.toNat,by omega⟩
    have ev:∀ z:Int,vI (.int z)=z:=fun _=>rfl
    rw [ev,ev,Int.toNat_natCast,Int.toNat_natCast] at e4 e5 q
    refine ⟨fun k H1=>Same H H1∧k=decide ((a':Int)=(b':Int)∨wy a' b' none=[]),?_,?_⟩
    · refine ⟨_,rfl,_,rfl,rfl,_,rfl,?_⟩
      rw [int_eq']
      by_cases hab:(a':Int)=(b':Int)
      · rw [decide_eq_true hab]
        exact iteT ⟨Same.refl H,by rw [decide_eq_true (Or.inl hab)]⟩
      · rw [decide_eq_false hab]
        refine iteF ⟨_,rfl,y,ys.yard,dy,_,_,rfl,hY.ins,Y.cl,Y.n1,rfl,tb,dxt,fst,rfl,htb,hways,_,rfl,_,rfl,tb,n,wy,a',b',none,rfl,hT.j,by omega,by omega,fun D H1 s1 hD gD=>⟨_, .inl ⟨_,SqL.of gD,rfl⟩,s1,?_⟩⟩
        cases hw:wy a' b' none with
        | nil=>rw [decide_eq_true (Or.inr rfl)]; rfl
        | cons z zs=>rw [decide_eq_false (fun z=>z.elim hab fun z=>by cases z)]; rfl
    rintro k H1 ⟨s1,rfl⟩
    have hY1:=hY.same s1
    by_cases hway:(a':Int)=(b':Int)∨wy a' b' none=[]
    · rw [decide_eq_true hway]
      refine iteT ⟨_,rfl,_,rfl,by show 2 ≤ sizeLine; decide,fun e tt he=>⟨e,_,tt,_,_,rfl,upd_same,X4.c,X4.n1,X4.n2,fun d H2 hd off he2 hd2=>⟨rfl,some d,he2,?_⟩⟩⟩
      have nde:d ≠ e:=fun z=>by rw [z,upd_same] at hd; cases hd
      refine e4 (by rw [if_pos hway]) _ d (fun z o ez=>?_) (by rw [del_ne nde]; exact hd2)
      have nze:z ≠ e:=ne_of_none (s1 _ _ ez) he
      rw [del_ne nze]
      exact off z o nze (by rw [upd_ne nze]; exact s1 _ _ ez)
    rw [decide_eq_false hway]
    rw [if_neg hway] at e5 q
    refine iteF ?_
    obtain ⟨tvs',gle,pl⟩:=hY1.hle
    have hll:tvs'.length=st.letters.length:=Paired.length pl
    refine ⟨_,rfl,y,ys.yard,dy,_,_,rfl,hY1.ins,Y.cl,Y.n4,rfl,le,_,rfl, .inl (SqL.of gle),_,_,rfl,rfl,_,rfl,?_⟩
    by_cases hfull:60 ≤ st.letters.length
    · rw [decide_eq_true (show (60:Int) ≤ (tvs'.length:Nat) by omega)]
      refine iteT ⟨by show 1 ≤ sizeLine; decide,?_⟩
      exact e5 (by rw [if_pos hfull]) H1 s1
    rw [decide_eq_false (show ¬ (60:Int) ≤ (tvs'.length:Nat) by omega)]
    rw [if_neg hfull] at q
    refine iteF ?_
    refine ⟨_,rfl,y,ys.yard,dy,_,_,rfl,hY1.ins,Y.cl,Y.n4,rfl, .inl ⟨rfl,_,SqL.of gle⟩,_,rfl,_,rfl,_,rfl,_,rfl,fun xl dxl nx ndx nex=>⟨xl,dxl,(a':Int),(b':Int),l,u,rfl,upd_same,fun wa H2 hwa off hx2 hw2=>⟨rfl,?_⟩⟩⟩
    have s12:Same H1 H2:=fun z o ez=>off z o (ne_of_none ez nx) (by rw [upd_ne (ne_of_none ez nx),upd_ne (ne_of_none ez ndx)]; exact ez)
    have hwa1:H1 wa=none:=by
      by_cases z1:wa=xl
      · rw [z1,upd_same] at hwa; cases hwa
      · by_cases z2:wa=dxl
        · rw [z2,upd_ne nex,upd_same] at hwa; cases hwa
        · rw [upd_ne z1,upd_ne z2] at hwa; exact hwa
    have hY2:=hY1.same s12
    have gle2:=s12 _ _ gle
    have hlv:LetV H2 ys.letter [la,le,li,dn] (.ref xl) ⟨(a':Int),(b':Int),l,u,0,[]⟩:=⟨xl,dxl,wa,rfl,hx2,hw2,fun z=>by obtain ⟨xs,hz⟩:=hY1.lsts wa z; rw [hwa1] at hz; cases hz⟩
    refine ⟨le,_,_,rfl,rfl,gle2,by rw [PySem.sizeLine_eq]; omega,?_⟩
    have hY3:=hY2.pushL gle2 hlv
    have o3:OffE [le,dn] H (upd H2 le (.lst (tvs' ++ [.ref xl]))):=(Same.offE (s1.trans s12)).trans (upd_off (by simp))
    generalize upd H2 le (.lst (tvs' ++ [.ref xl]))=H3 at hY3 o3 ⊢
    obtain ⟨dvs,gdn,pd⟩:=hY3.hdn
    have hdl:dvs.length=st.done.length:=Paired.length pd
    refine ⟨_,rfl,y,ys.yard,dy,_,_,rfl,hY3.ins,Y.cl,Y.n6,rfl, .inl ⟨rfl,_,SqL.of gdn⟩,_,rfl,_,rfl,_,rfl,_,rfl,by show 5 ≤ sizeLine; decide,fun t ht=>?_⟩
    have s34:=(Same.refl H3).new (o := .tup [.str "post", .int (a':Int), .int (b':Int), .int l, .int u]) ht
    have gt4:(upd H3 t (.tup [.str "post", .int (a':Int), .int (b':Int), .int l, .int u])) t=some (.tup [.str "post", .int (a':Int), .int (b':Int), .int l, .int u]):=upd_same
    generalize upd H3 t (.tup [.str "post", .int (a':Int), .int (b':Int), .int l, .int u])=H4 at s34 gt4 ⊢
    have hY4:=hY3.same s34
    have gdn4:=s34 _ _ gdn
    refine ⟨dn,_,_,rfl,rfl,gdn4,by rw [PySem.sizeLine_eq]; omega,?_⟩
    have hY5:=hY4.pushD gdn4 ⟨t,rfl,gt4⟩
    have o5:OffE [le,dn] H (upd H4 dn (.lst (dvs ++ [.ref t]))):=(o3.trans (Same.offE s34)).trans (upd_off (by simp))
    generalize upd H4 dn (.lst (dvs ++ [.ref t]))=H5 at hY5 o5 ⊢
    obtain ⟨tv5,gle5,pl5⟩:=hY5.hle
    have hl5:tv5.length=st.letters.length + 1:=by rw [Paired.length pl5,List.length_append]; rfl
    refine ⟨_,rfl,y,ys.yard,dy,_,_,rfl,hY5.ins,Y.cl,Y.n4,rfl,le,_,rfl, .inl (SqL.of gle5),_,_,rfl,rfl,?_⟩
    have er:((tv5.length:Nat):Int) - 1=(st.letters.length:Int):=by omega
    dsimp only
    rw [er]
    exact q rfl H5 o5 hY5
end
end K66
namespace K66
open PySem L2
theorem comp_lstI {K:PySem.W.Frag} {a:Addr} {xs:List V} {g:TG} {te:TE} {σ0:St} {H:Hp} {Q:VK} (f:Nat→V) (hn:xs.length < sizeLine) (ha:SqL K H a xs)
    (hs:∀ (i:Nat) (x:V) (N:V→Hp→Prop),xs[i]? = some x→N (f i) H→g x σ0 H fun σ2 H2=>te σ2 H2 N)
    (hq:∀ D,H D=none→Q (.ref D) (upd H D (.lst ((List.range xs.length).map f)))):CompR (Itl K a) g tYes te σ0 Q H:=by
  refine comp_gen xs.length hn (fun i acc H'=>H' = H∧acc=(List.range i).map f) ⟨rfl,rfl⟩ (fun i acc H' h=>by rw [h.2,List.length_map,List.length_range]; exact Nat.le_refl _) (fun i acc H' hi h=>?_) (fun acc H' h=>?_)
  · obtain ⟨rfl,rfl⟩:=h
    refine ⟨⟨xs,xs[i],ha,by simp [hi]⟩,fun v H2 y=>?_⟩
    obtain ⟨e,y⟩:=y
    subst e
    exact hs i v (fun y H4=>H4=H2∧(List.range i).map f ++ [y]=(List.range (i + 1)).map f) (y xs ha) ⟨rfl,by rw [List.range_succ,List.map_append]; rfl⟩
  · obtain ⟨rfl,rfl⟩:=h
    exact ⟨⟨xs,ha,Nat.le_refl _⟩,hq⟩
theorem range_getD {α β:Type} (xs:List α) (d:α) (f:α→β):(List.range xs.length).map (fun i=>f (xs.getD i d))=xs.map f:=by
  refine List.ext_getElem (by simp) fun i h1 h2=>?_
  simp only [List.getElem_map,List.getElem_range]
  rw [List.getD_eq_getElem?_getD,List.getElem?_eq_getElem (by simpa using h2)]; rfl
def rLen (K:PySem.W.Frag):List V→Hp→VK→Prop:=fun xs H Q=>∃ (p:Addr) (ys:List V),xs=[.ref p]∧(SqL K H p ys∨SqT K H p ys)∧Q (.int (ys.length:Nat)) H
def endB (s:YS):Bool:=decide ((s.letters.map (·.len)).sum=(s.lies.map fun q=>(q.length:Int)).sum)
def eqC1 (s:Stmt):Scope:=match s with
  | .Return (some (.Compare (.Call _ [.ListComp _ _ sc _] _ _) _ _ _)) _=>sc
  | _=>{ kind := .function,names:=[],isGenerator:=false,isCoroutine:=false }
def eqC2 (s:Stmt):Scope:=match s with
  | .Return (some (.Compare _ _ [.Call _ [.ListComp _ _ sc _] _ _] _)) _=>sc
  | _=>{ kind := .function,names:=[],isGenerator:=false,isCoroutine:=false }
def spEnded (K:PySem.W.Frag) (ys:Ys):Sp:=fun vs H Q _=>∃ (y dy tb ro la le li dn:Addr) (s:YS),vs=[.ref y]∧YardAt K ys H y dy tb ro la le li dn s∧s.letters.length ≤ 900∧s.lies.length ≤ 900∧∀ H',Same H H'→Q (.bl (endB s)) H'
def spLaneT (K:PySem.W.Frag) (ys:Ys):Sp:=fun vs H Q _=>∃ (y dy tb ro la le li dn:Addr) (s:YS) (k:Nat) (ln:LnS),vs=[.ref y, .int k]∧YardAt K ys H y dy tb ro la le li dn s∧s.lanes[k]? = some ln∧∀ (t ql:Addr) (pvs:List V) (H':Hp),Same H H'→H ql=none→H' t=some (.tup [.int ln.r, .int ln.b,hV ln.h, .ref ql])→H' ql=some (.lst pvs)→Lns H' pvs ln.qs→Q (.ref t) H'
def spLetT (K:PySem.W.Frag) (ys:Ys):Sp:=fun vs H Q _=>∃ (y dy tb ro la le li dn:Addr) (s:YS) (k:Nat) (lt:LtS),vs=[.ref y, .int k]∧YardAt K ys H y dy tb ro la le li dn s∧s.letters[k]? = some lt∧∀ (t:Addr) (H':Hp),Same H H'→H' t=some (.tup [.int lt.start, .int lt.goal, .int lt.len, .int lt.word])→Q (.ref t) H'
def spWayT (K:PySem.W.Frag) (ys:Ys):Sp:=fun vs H Q _=>∃ (y dy tb ro la le li dn:Addr) (s:YS) (k:Nat) (lt:LtS),vs=[.ref y, .int k]∧YardAt K ys H y dy tb ro la le li dn s∧s.letters[k]? = some lt∧∀ (t:Addr) (H':Hp),Same H H'→H t=none→H' t=some (.lst (nV lt.way))→Q (.ref t) H'
def spPosted (K:PySem.W.Frag) (ys:Ys):Sp:=fun vs H Q _=>∃ (y dy tb ro la le li dn:Addr) (s:YS),vs=[.ref y]∧YardAt K ys H y dy tb ro la le li dn s∧Q (.int s.letters.length) H
def spHist (K:PySem.W.Frag) (ys:Ys):Sp:=fun vs H Q _=>∃ (y dy tb ro la le li dn:Addr) (s:YS),vs=[.ref y]∧YardAt K ys H y dy tb ro la le li dn s∧∀ (t:Addr) (vs:List V) (H':Hp),Same H H'→H t=none→H' t=some (.lst vs)→Paired (MvV H') vs s.done→Q (.ref t) H'
section
variable {P:Program} {w:World} {K:PySem.W.Frag} {mg:Str→Option Value} {base:Heap}
theorem scEd:FnScope ["self"] ["self"] (defScope sEnded):=⟨rfl,rfl,rfl,by decide +kernel,rfl,by decide +kernel,by decide +kernel⟩
theorem bkE1:Blk ["self"] (defScope sEnded) (eqC1 ((defBody sEnded).getD 0 (.Pass ⟨0,0,0,0⟩))) [] []:=⟨rfl,by decide +kernel,by decide +kernel,by decide +kernel,rfl,by decide +kernel⟩
theorem bkE2:Blk ["self"] (defScope sEnded) (eqC2 ((defBody sEnded).getD 0 (.Pass ⟨0,0,0,0⟩))) [] []:=⟨rfl,by decide +kernel,by decide +kernel,by decide +kernel,rfl,by decide +kernel⟩
theorem ndE1:(["letter"]:List Str).Nodup:=by decide +kernel
theorem ndE2:(["pieces"]:List Str).Nodup:=by decide +kernel
theorem ok_ended {ys:Ys} {f:Addr} {fd:FuncData} (F:Fun K "ended" "Yard.ended" sEnded f fd) (T:Txt mg) (Y:Yrd K ys):FnOk P w K mg base CX0 1 f fd ["self"] (spEnded K ys):=by
  refine F.ok scEd (fun vs H Q E h=>?_) (fun cdv A outer s H vs Q E hr h=>?_)
  · obtain ⟨y,dy,tb,ro,la,le,li,dn,st,rfl,_⟩:=h
    rfl
  · obtain ⟨y,dy,tb,ro,la,le,li,dn,st,rfl,hY,h9,h92,q⟩:=h
    refine ⟨_,pss_one (ps_ret (pe_cmpR op_eq (pe_callB (call_sum rfl) rfl T.sum PyProof.Rows.boot_sum (pa_cons (pe_comp (own:=["letter"]) (capN:=[]) (cap:=[]) bkE1 rfl (pi_list (pe_fld (pv 0) rfl)) (fun C s' H' fp=>⟨pg_name (i:=0) ndE1 rfl (Or.inl rfl),pts_nil,(show PE _ _ (tFld K (tVar 0) "length") from pe_fld (pv 0) rfl)⟩)) pa_nil))
      (pe_callB (call_sum rfl) rfl T.sum PyProof.Rows.boot_sum (pa_cons (pe_comp (own:=["pieces"]) (capN:=[]) (cap:=[]) bkE2 rfl (pi_list (pe_fld (pv 0) rfl)) (fun C s' H' fp=>⟨pg_name (i:=0) ndE2 rfl (Or.inl rfl),pts_nil,pe_callB (show CallR _ (.builtin "len") (rLen K) from call_len_seq) rfl T.len PySem.boot_len (pa_cons (pv 0) pa_nil)⟩)) pa_nil)) (nomark _))),?_⟩
    obtain ⟨tvs,gle,pl⟩:=hY.hle
    have hll:=Paired.length pl
    refine ⟨_,rfl,y,ys.yard,dy,_,_,rfl,hY.ins,Y.cl,Y.n4,rfl,le,rfl,⟨_,SqL.of gle⟩,?_⟩
    refine comp_lstI (fun i => .int (st.letters.getD i ⟨0,0,0,0,0,[]⟩).len) (by rw [PySem.sizeLine_eq]; omega) (SqL.of gle) (fun i x N hx h=>?_) (fun D hD=>?_)
    · obtain ⟨lt,hlt,x',dx,wa,rfl,hx',_⟩:=Paired.at pl hx
      rw [List.getD_eq_getElem?_getD,hlt] at h
      exact ⟨_,rfl,x',ys.letter,dx,_,_,rfl,hx',Y.ct,Y.t3,rfl,h⟩
    have e1:(List.range tvs.length).map (fun i=>V.int (st.letters.getD i ⟨0,0,0,0,0,[]⟩).len)=(st.letters.map (·.len)).map V.int:=by
      rw [hll,List.map_map]
      exact range_getD st.letters _ fun s=>V.int s.len
    rw [e1]
    have s1:=(Same.refl H).new (o := .lst ((st.letters.map (·.len)).map V.int)) hD
    have gD:(upd H D (.lst ((st.letters.map (·.len)).map V.int))) D=some (.lst ((st.letters.map (·.len)).map V.int)):=upd_same
    generalize upd H D (.lst ((st.letters.map (·.len)).map V.int))=H1 at s1 gD ⊢
    refine ⟨D,_,rfl,SqL.of gD,?_⟩
    have hY1:=hY.same s1
    obtain ⟨hvs,gli,ph⟩:=hY1.hli
    have hhl:=Paired.length ph
    refine ⟨_,rfl,y,ys.yard,dy,_,_,rfl,hY1.ins,Y.cl,Y.n5,rfl,li,rfl,⟨_,SqL.of gli⟩,?_⟩
    refine comp_lstI (fun i => .int ((st.lies.getD i []).length:Nat)) (by rw [PySem.sizeLine_eq]; omega) (SqL.of gli) (fun i x N hx h=>?_) (fun D2 hD2=>?_)
    · obtain ⟨qs,hqs,t,vs,rfl,ht,hL⟩:=Paired.at ph hx
      rw [List.getD_eq_getElem?_getD,hqs] at h
      have hvl:vs.length=qs.length:=Paired.length hL
      refine ⟨_,rfl,t,vs,rfl, .inr (SqT.of ht),?_⟩
      rw [hvl]
      exact h
    have e2:(List.range hvs.length).map (fun i=>V.int ((st.lies.getD i []).length:Nat))=(st.lies.map fun q=>(q.length:Int)).map V.int:=by
      rw [hhl,List.map_map]
      exact range_getD st.lies _ fun q=>V.int (q.length:Nat)
    rw [e2]
    refine ⟨D2,_,rfl,SqL.of upd_same,rfl,?_⟩
    rw [int_eq']
    exact q _ (s1.new hD2)
theorem scLT:FnScope ["self", "lane"] ["self", "lane"] (defScope sLaneT):=⟨rfl,rfl,rfl,by decide +kernel,rfl,by decide +kernel,by decide +kernel⟩
theorem ok_laneT {ys:Ys} {f ft:Addr} {fd dt:FuncData} (F:Fun K "lane_told" "Yard.lane_told" sLaneT f fd) (Y:Yrd K ys) (mt:Meth K ys.lane "told" ft) (bt:Binds K dt ["self"] []) (Gt:FnOk P w K mg base CX0 1 ft dt ["self"] (spLnT ys.lane)) :
    FnOk P w K mg base CX0 2 f fd ["self", "lane"] (spLaneT K ys):=by
  refine F.ok scLT (fun vs H Q E h=>?_) (fun cdv A outer s H vs Q E hr h=>?_)
  · obtain ⟨y,dy,tb,ro,la,le,li,dn,st,k,ln,rfl,_⟩:=h
    rfl
  · obtain ⟨y,dy,tb,ro,la,le,li,dn,st,k,ln,rfl,hY,hk,q⟩:=h
    refine ⟨_,pss_one (ps_ret (pe_meth0 (pe_ix ix_list (pe_fld (pv 0) rfl) (pv 1) (fun _ _=>rfl)) Y.L.cl mt Gt hr bt .nil pass0)),?_⟩
    obtain ⟨lvs,gla,pl⟩:=hY.hla
    obtain ⟨v,hv,x,dx,pa,pvs,rfl,hL,_⟩:=Paired.at2 pl hk
    refine ⟨_,rfl,y,ys.yard,dy,_,_,rfl,hY.ins,Y.cl,Y.n3,rfl,_,rfl,la,lvs,(k:Int),_,rfl,rfl,SqL.of gla,atI_nat hv,x,dx,_,rfl,hL.ins,rfl,?_⟩
    exact ⟨x,dx,pa,ln.r,ln.b,ln.h,pvs,ln.qs,rfl,hL,fun t ql H' s' hql gt gql=>q t ql pvs H' s' hql gt gql (Lns.same s' hL.pcs)⟩
theorem scTT:FnScope ["self", "number", "letter"] ["self", "number"] (defScope sLetT):=⟨rfl,rfl,rfl,by decide +kernel,rfl,by decide +kernel,by decide +kernel⟩
theorem ok_letT {ys:Ys} {f:Addr} {fd:FuncData} (F:Fun K "letter_told" "Yard.letter_told" sLetT f fd) (Y:Yrd K ys):FnOk P w K mg base CX0 1 f fd ["self", "number"] (spLetT K ys):=by
  refine F.ok scTT (fun vs H Q E h=>?_) (fun cdv A outer s H vs Q E hr h=>?_)
  · obtain ⟨y,dy,tb,ro,la,le,li,dn,st,k,ln,rfl,_⟩:=h
    rfl
  · obtain ⟨y,dy,tb,ro,la,le,li,dn,st,k,lt,rfl,hY,hk,q⟩:=h
    refine ⟨_,pss_cons (ps_set (i:=2) scTT.nd rfl (Or.inl rfl) (pe_ix ix_list (pe_fld (pv 0) rfl) (pv 1) (fun _ _=>rfl))) (pss_one (ps_ret (pe_tup (pa_cons (pe_fld (pv 2) rfl) (pa_cons (pe_fld (pv 2) rfl) (pa_cons (pe_fld (pv 2) rfl) (pa_cons (pe_fld (pv 2) rfl) pa_nil))))))),?_⟩
    obtain ⟨tvs,gle,pl⟩:=hY.hle
    obtain ⟨v,hv,x,dx,wa,rfl,hx,_⟩:=Paired.at2 pl hk
    refine ⟨_,rfl,y,ys.yard,dy,_,_,rfl,hY.ins,Y.cl,Y.n4,rfl,_,rfl,le,tvs,(k:Int),_,rfl,rfl,SqL.of gle,atI_nat hv,?_⟩
    refine ⟨_,rfl,x,ys.letter,dx,_,_,rfl,hx,Y.ct,Y.t1,rfl,_,rfl,x,ys.letter,dx,_,_,rfl,hx,Y.ct,Y.t2,rfl,_,rfl,x,ys.letter,dx,_,_,rfl,hx,Y.ct,Y.t3,rfl,_,rfl,x,ys.letter,dx,_,_,rfl,hx,Y.ct,Y.t4,rfl,by show 4 ≤ sizeLine; decide,fun t ht=>?_⟩
    exact q t _ ((Same.refl H).new ht) upd_same
theorem scWT:FnScope ["self", "number"] ["self", "number"] (defScope sWayT):=⟨rfl,rfl,rfl,by decide +kernel,rfl,by decide +kernel,by decide +kernel⟩
theorem ok_wayT {ys:Ys} {f:Addr} {fd:FuncData} (F:Fun K "way_told" "Yard.way_told" sWayT f fd) (T:Txt mg) (Y:Yrd K ys):FnOk P w K mg base CX0 1 f fd ["self", "number"] (spWayT K ys):=by
  refine F.ok scWT (fun vs H Q E h=>?_) (fun cdv A outer s H vs Q E hr h=>?_)
  · obtain ⟨y,dy,tb,ro,la,le,li,dn,st,k,ln,rfl,_⟩:=h
    rfl
  · obtain ⟨y,dy,tb,ro,la,le,li,dn,st,k,lt,rfl,hY,hk,q⟩:=h
    refine ⟨_,pss_one (ps_ret (pe_callTy call_list_of rfl T.list PySem.Pv.boot_list (pa_cons (pe_fld (pe_ix ix_list (pe_fld (pv 0) rfl) (pv 1) (fun _ _=>rfl)) rfl) pa_nil))),?_⟩
    obtain ⟨tvs,gle,pl⟩:=hY.hle
    obtain ⟨v,hv,x,dx,wa,rfl,hx,hw,_⟩:=Paired.at2 pl hk
    refine ⟨_,rfl,y,ys.yard,dy,_,_,rfl,hY.ins,Y.cl,Y.n4,rfl,_,rfl,le,tvs,(k:Int),_,rfl,rfl,SqL.of gle,atI_nat hv,x,ys.letter,dx,_,_,rfl,hx,Y.ct,Y.t6,rfl,wa,_,rfl, .inl (SqL.of hw),fun t ht=>?_⟩
    exact q t _ ((Same.refl H).new ht) ht upd_same
theorem scPd:FnScope ["self"] ["self"] (defScope sPosted):=⟨rfl,rfl,rfl,by decide +kernel,rfl,by decide +kernel,by decide +kernel⟩
theorem ok_posted {ys:Ys} {f:Addr} {fd:FuncData} (F:Fun K "posted" "Yard.posted" sPosted f fd) (T:Txt mg) (Y:Yrd K ys):FnOk P w K mg base CX0 1 f fd ["self"] (spPosted K ys):=by
  refine F.ok scPd (fun vs H Q E h=>?_) (fun cdv A outer s H vs Q E hr h=>?_)
  · obtain ⟨y,dy,tb,ro,la,le,li,dn,st,rfl,_⟩:=h
    rfl
  · obtain ⟨y,dy,tb,ro,la,le,li,dn,st,rfl,hY,q⟩:=h
    refine ⟨_,pss_one (ps_ret (pe_callB call_len_seq rfl T.len PySem.boot_len (pa_cons (pe_fld (pv 0) rfl) pa_nil))),?_⟩
    obtain ⟨tvs,gle,pl⟩:=hY.hle
    refine ⟨_,rfl,y,ys.yard,dy,_,_,rfl,hY.ins,Y.cl,Y.n4,rfl,le,_,rfl, .inl (SqL.of gle),?_⟩
    rw [Paired.length pl]
    exact q
theorem scHi:FnScope ["self"] ["self"] (defScope sHist):=⟨rfl,rfl,rfl,by decide +kernel,rfl,by decide +kernel,by decide +kernel⟩
theorem ok_hist {ys:Ys} {f:Addr} {fd:FuncData} (F:Fun K "history" "Yard.history" sHist f fd) (T:Txt mg) (Y:Yrd K ys):FnOk P w K mg base CX0 1 f fd ["self"] (spHist K ys):=by
  refine F.ok scHi (fun vs H Q E h=>?_) (fun cdv A outer s H vs Q E hr h=>?_)
  · obtain ⟨y,dy,tb,ro,la,le,li,dn,st,rfl,_⟩:=h
    rfl
  · obtain ⟨y,dy,tb,ro,la,le,li,dn,st,rfl,hY,q⟩:=h
    refine ⟨_,pss_one (ps_ret (pe_callTy call_list_of rfl T.list PySem.Pv.boot_list (pa_cons (pe_fld (pv 0) rfl) pa_nil))),?_⟩
    obtain ⟨dvs,gdn,pd⟩:=hY.hdn
    refine ⟨_,rfl,y,ys.yard,dy,_,_,rfl,hY.ins,Y.cl,Y.n6,rfl,dn,_,rfl, .inl (SqL.of gdn),fun t ht=>?_⟩
    exact q t dvs _ ((Same.refl H).new ht) ht upd_same (Paired.mono (fun _ _ z=>z.keep (Same.keepN ((Same.refl H).new ht))) pd)
end
end K66
namespace K66
open PySem L2
theorem binds_ydI0 {K:PySem.W.Frag} {T:Addr} {o:Obj} {n:Nat} {kV doc pm cdv ct:Value} {an:Option Addr} (ho:K.lookup T=some o) (hs:o.data = .seq #[Value.none] n) :
    Binds K (PySem.W.fnOf "__init__" "Yard.__init__" (defArgs sYdI) (defBody sYdI) (defScope sYdI) (.ref T) kV doc pm an cdv ct) ["self", "table", "rooms"] []:=fun s us kin hl=>by
  match us,hl with
  | [a,b,c],_=>exact BindsTo.of_defaults rfl (kin _ _ ho) hs rfl rfl
theorem binds_post0 {K:PySem.W.Frag} {T:Addr} {o:Obj} {n:Nat} {tk:Tok} {kV doc pm cdv ct:Value} {an:Option Addr} (ho:K.lookup T=some o) (hs:o.data = .seq #[Value.int 0 tk] n) :
    Binds K (PySem.W.fnOf "post" "Yard.post" (defArgs sPost) (defBody sPost) (defScope sPost) (.ref T) kV doc pm an cdv ct) PPo []:=fun s us kin hl=>by
  match us,hl with
  | [a,b,c,d,e],_=>exact BindsTo.of_defaults rfl (kin _ _ ho) hs rfl rfl
end K66
namespace K66
open PySem L2
def spLnW (C:Addr):Sp:=fun vs H Q _=>∃ (x dx pa:Addr) (r b:Int) (h:Option Int) (pvs:List V) (qs:List (Int × Int)),vs=[.ref x]∧LaneAt H C x dx pa r b h pvs qs∧∀ (x' dx' pa':Addr) (H':Hp),Same H H'→H x' = none→H pa' = none→LaneAt H' C x' dx' pa' r b h pvs qs→Q (.ref x') H'
def spLtW (C:Addr):Sp:=fun vs H Q _=>∃ (x dx wa:Addr) (s:LtS),vs=[.ref x]∧H x=some (.ins C dx (ltF s wa))∧H wa=some (.lst (nV s.way))∧∀ (x' dx' wa':Addr) (H':Hp),Same H H'→H x' = none→H wa' = none→H' x' = some (.ins C dx' (ltF s wa'))→H' wa' = some (.lst (nV s.way))→Q (.ref x') H'
section
variable {P:Program} {w:World} {K:PySem.W.Frag} {mg:Str→Option Value} {base:Heap}
theorem scLnW:FnScope ["self", "other"] ["self"] (defScope sLnW):=⟨rfl,rfl,rfl,by decide +kernel,rfl,by decide +kernel,by decide +kernel⟩
theorem ok_lnW {C f fl:Addr} {fd dl:FuncData} (F:Fun K "twin" "Lane.twin" sLnW f fd) (T:Txt mg) (L:Lne K C) (ml:mg "Lane" = some (.ref C)) (Ml:Mk K C fl) (bl:Binds K dl ["self", "room"] []) (Gl:FnOk P w K mg base CX0 1 fl dl ["self", "room"] (spLnI C)) :
    FnOk P w K mg base CX0 3 f fd ["self"] (spLnW C):=by
  refine F.ok scLnW (fun vs H Q E h=>?_) (fun cdv A outer s H vs Q E hr h=>?_)
  · obtain ⟨x,dx,pa,r,b,h,pvs,qs,rfl,_⟩:=h
    rfl
  · obtain ⟨x,dx,pa,r,b,h,pvs,qs,rfl,hL,q⟩:=h
    refine ⟨_,pss_cons (ps_set (i:=1) scLnW.nd rfl (Or.inl rfl) (pe_make Ml Gl hr rfl ml bl .nil pass0 (pa_cons (pe_fld (pv 0) rfl) pa_nil)))
      (pss_cons (ps_fld (pv 1) (pe_fld (pv 0) rfl) rfl)
      (pss_cons (ps_fld (pv 1) (pe_fld (pv 0) rfl) rfl)
      (pss_cons (ps_fld (pv 1) (pe_callTy call_list_of rfl T.list PySem.Pv.boot_list (pa_cons (pe_fld (pv 0) rfl) pa_nil)) rfl)
      (pss_one (ps_ret (pv 1)))))),?_⟩
    refine ⟨_,rfl,x,C,dx,_,_,rfl,hL.ins,L.cl,L.n1,rfl,fun x' d' nx nd ne=>⟨x',d',r,rfl,upd_same,fun pa0 H1 hpa0 off hL1=>⟨rfl,?_⟩⟩⟩
    have s1:Same H H1:=fun z o ez=>off z o (ne_of_none ez nx) (by rw [upd_ne (ne_of_none ez nx),upd_ne (ne_of_none ez nd)]; exact ez)
    have hi1:=hL1.ins
    clear hpa0 off hL1
    refine ⟨_,rfl,x,C,dx,_,_,rfl,s1 _ _ hL.ins,L.cl,L.n2,rfl,_,rfl,x',C,d',_,rfl,hi1,L.cl,L.n2,by show 4 < 1000; decide,?_⟩
    have o2:∀ o',Same H (upd H1 x' o'):=fun o' z o ez=>by rw [upd_ne (ne_of_none ez nx)]; exact s1 _ _ ez
    refine ⟨_,rfl,x,C,dx,_,_,rfl,o2 _ _ _ hL.ins,L.cl,L.n3,rfl,_,rfl,x',C,d',_,rfl,upd_same,L.cl,L.n3,by show 4 < 1000; decide,?_⟩
    have o3:∀ o' o'',Same H (upd (upd H1 x' o') x' o''):=fun o' o'' z o ez=>by rw [upd_ne (ne_of_none ez nx)]; exact o2 _ _ _ ez
    have s3:=o3 (.ins C d' (putF "returning" (.int b) (fs4 r 0 (hV none) pa0))) (.ins C d' (putF "holder" (hV h) (putF "returning" (.int b) (fs4 r 0 (hV none) pa0))))
    have hi3:(upd (upd H1 x' (.ins C d' (putF "returning" (.int b) (fs4 r 0 (hV none) pa0)))) x' (.ins C d' (putF "holder" (hV h) (putF "returning" (.int b) (fs4 r 0 (hV none) pa0))))) x' = some (.ins C d' (fs4 r b (hV h) pa0)):=upd_same
    generalize upd (upd H1 x' (.ins C d' (putF "returning" (.int b) (fs4 r 0 (hV none) pa0)))) x' (.ins C d' (putF "holder" (hV h) (putF "returning" (.int b) (fs4 r 0 (hV none) pa0))))=H3 at s3 hi3 ⊢
    refine ⟨_,rfl,x,C,dx,_,_,rfl,s3 _ _ hL.ins,L.cl,L.n4,rfl,pa,_,rfl, .inl (SqL.of (s3 _ _ hL.lst)),fun pa' hpa'=>?_⟩
    have hpa:H pa' = none:=by
      cases e:H pa' with
      | none=>rfl
      | some o=>rw [s3 _ _ e] at hpa'; cases hpa'
    have nxp:x' ≠ pa':=ne_of_none hi3 hpa'
    refine ⟨_,rfl,x',C,d',_,rfl,by rw [upd_ne nxp]; exact hi3,L.cl,L.n4,by show 4 < 1000; decide,_,rfl,?_⟩
    have s4:∀ o',Same H (upd (upd H3 pa' (.lst pvs)) x' o'):=fun o' z o ez=>by rw [upd_ne (ne_of_none ez nx),upd_ne (ne_of_none ez hpa)]; exact s3 _ _ ez
    exact q x' d' pa' _ (s4 _) nx hpa ⟨upd_same,by rw [upd_ne (Ne.symm nxp)]; exact upd_same,Lns.same (s4 _) hL.pcs⟩
theorem scLtW:FnScope ["self", "other"] ["self"] (defScope sLetW):=⟨rfl,rfl,rfl,by decide +kernel,rfl,by decide +kernel,by decide +kernel⟩
theorem ok_ltW {ys:Ys} {f fl:Addr} {fd dl:FuncData} (F:Fun K "twin" "Letter.twin" sLetW f fd) (T:Txt mg) (Y:Yrd K ys) (ml:mg "Letter" = some (.ref ys.letter)) (Ml:Mk K ys.letter fl) (bl:Binds K dl ["self", "start", "goal", "length", "word"] []) (Gl:FnOk P w K mg base CX0 1 fl dl ["self", "start", "goal", "length", "word"] (spLtI ys.letter)) :
    FnOk P w K mg base CX0 3 f fd ["self"] (spLtW ys.letter):=by
  refine F.ok scLtW (fun vs H Q E h=>?_) (fun cdv A outer s H vs Q E hr h=>?_)
  · obtain ⟨x,dx,wa,s,rfl,_⟩:=h
    rfl
  · obtain ⟨x,dx,wa,t,rfl,hx,hw,q⟩:=h
    refine ⟨_,pss_cons (ps_set (i:=1) scLtW.nd rfl (Or.inl rfl) (pe_make Ml Gl hr rfl ml bl .nil pass0 (pa_cons (pe_fld (pv 0) rfl) (pa_cons (pe_fld (pv 0) rfl) (pa_cons (pe_fld (pv 0) rfl) (pa_cons (pe_fld (pv 0) rfl) pa_nil))))))
      (pss_cons (ps_fld (pv 1) (pe_fld (pv 0) rfl) rfl)
      (pss_cons (ps_fld (pv 1) (pe_callTy call_list_of rfl T.list PySem.Pv.boot_list (pa_cons (pe_fld (pv 0) rfl) pa_nil)) rfl)
      (pss_one (ps_ret (pv 1))))),?_⟩
    refine ⟨_,rfl,x,ys.letter,dx,_,_,rfl,hx,Y.ct,Y.t1,rfl,_,rfl,x,ys.letter,dx,_,_,rfl,hx,Y.ct,Y.t2,rfl,_,rfl,x,ys.letter,dx,_,_,rfl,hx,Y.ct,Y.t3,rfl,_,rfl,x,ys.letter,dx,_,_,rfl,hx,Y.ct,Y.t4,rfl,fun x' d' nx nd ne=>⟨x',d',t.start,t.goal,t.len,t.word,rfl,upd_same,fun w0 H1 hw0 off hx1 hw1=>⟨rfl,?_⟩⟩⟩
    have s1:Same H H1:=fun z o ez=>off z o (ne_of_none ez nx) (by rw [upd_ne (ne_of_none ez nx),upd_ne (ne_of_none ez nd)]; exact ez)
    clear hw0 off hw1
    refine ⟨_,rfl,x,ys.letter,dx,_,_,rfl,s1 _ _ hx,Y.ct,Y.t5,rfl,_,rfl,x',ys.letter,d',_,rfl,hx1,Y.ct,Y.t5,by show 6 < 1000; decide,?_⟩
    have s3:Same H (upd H1 x' (.ins ys.letter d' (putF "gone" (.int t.gone) (ltF ⟨t.start,t.goal,t.len,t.word,0,[]⟩ w0)))):=fun z o ez=>by rw [upd_ne (ne_of_none ez nx)]; exact s1 _ _ ez
    have hi3:(upd H1 x' (.ins ys.letter d' (putF "gone" (.int t.gone) (ltF ⟨t.start,t.goal,t.len,t.word,0,[]⟩ w0)))) x' = some (.ins ys.letter d' (ltF ⟨t.start,t.goal,t.len,t.word,t.gone,[]⟩ w0)):=upd_same
    show _
    generalize upd H1 x' (.ins ys.letter d' (putF "gone" (.int t.gone) (ltF ⟨t.start,t.goal,t.len,t.word,0,[]⟩ w0)))=H3 at s3 hi3 ⊢
    refine ⟨_,rfl,x,ys.letter,dx,_,_,rfl,s3 _ _ hx,Y.ct,Y.t6,rfl,wa,_,rfl, .inl (SqL.of (s3 _ _ hw)),fun wa' hwa'=>?_⟩
    have hwa:H wa' = none:=by
      cases e:H wa' with
      | none=>rfl
      | some o=>rw [s3 _ _ e] at hwa'; cases hwa'
    have nxp:x' ≠ wa':=ne_of_none hi3 hwa'
    refine ⟨_,rfl,x',ys.letter,d',_,rfl,by rw [upd_ne nxp]; exact hi3,Y.ct,Y.t6,by show 6 < 1000; decide,_,rfl,?_⟩
    have s4:∀ o',Same H (upd (upd H3 wa' (.lst (nV t.way))) x' o'):=fun o' z o ez=>by rw [upd_ne (ne_of_none ez nx),upd_ne (ne_of_none ez hwa)]; exact s3 _ _ ez
    exact q x' d' wa' _ (s4 _) nx hwa upd_same (by rw [upd_ne (Ne.symm nxp)]; exact upd_same)
end
end K66
namespace K66
open PySem L2
structure YA where
  y:Addr
  dy:Addr
  tb:Addr
  ro:Addr
  la:Addr
  le:Addr
  li:Addr
  dn:Addr
  lx:Addr
  ldx:Addr
  lt:Addr
  n:Nat
  tvs:List V
  ps:List (Int × Int)
  wy:Wf
abbrev YAt (K:PySem.W.Frag) (ys:Ys) (H:Hp) (a:YA) (s:YS):Prop:=YardAt K ys H a.y a.dy a.tb a.ro a.la a.le a.li a.dn s
abbrev TAt (c:Cs) (TC:Addr) (J:TJ) (H:Hp) (a:YA):Prop:=TbIn c TC J H a.tb a.lx a.ldx a.lt a.n a.tvs a.ps a.wy
abbrev YA.four (a:YA):List Addr:=[a.la,a.le,a.li,a.dn]
theorem Paired.set {α β:Type} {R:α→β→Prop} {v:α} {r:β} (h:R v r):∀ {vs:List α} {rs:List β} (i:Nat),Paired R vs rs→Paired R (vs.set i v) (rs.set i r)
  | _,_,_, .nil => .nil
  | _,_,0, .cons _ t => .cons h t
  | _,_,i + 1, .cons x t => .cons x (Paired.set h i t)
theorem OffE.mono {ex ex':List Addr} {H H':Hp} (h:∀ b ∈ ex,b ∈ ex') (o:OffE ex H H'):OffE ex' H H':=fun b u nb e=>o b u (fun z=>nb (h b z)) e
theorem not_four {K:PySem.W.Frag} {ys:Ys} {H:Hp} {a:YA} {s:YS} (h:YAt K ys H a s) {p:Addr} (hp:H p=none):p ∉ a.four:=fun z=>by obtain ⟨xs,hz⟩:=h.lsts p z; rw [hp] at hz; cases hz
theorem YAt.setLane {K:PySem.W.Frag} {ys:Ys} {H H2:Hp} {a:YA} {s:YS} (h:YAt K ys H a s) {vs:List V} (hv:H a.la=some (.lst vs)) (o:OffE [a.la] H H2) {k:Nat} {x dx pa:Addr} (hl:H2 a.la=some (.lst (vs.set k (.ref x)))) {ln:LnS} {pvs:List V}
    (L:LaneAt H2 ys.lane x dx pa ln.r ln.b ln.h pvs ln.qs) (np:H pa=none):YAt K ys H2 a { s with lanes:=s.lanes.set k ln }:=by
  obtain ⟨h1,h2,f1,f2,f3,f4⟩:=YardAt.off h (o.mono (by simp))
  obtain ⟨v1,a1,p1⟩:=h.hla
  obtain ⟨v2,a2,p2⟩:=h.hle
  obtain ⟨v3,a3,p3⟩:=h.hli
  obtain ⟨v4,a4,p4⟩:=h.hdn
  rw [hv] at a1
  cases a1
  have ne:=h.ne
  simp only [List.nodup_cons,List.mem_cons,List.not_mem_nil,or_false,not_or,not_false_eq_true,and_true,List.nodup_nil] at ne
  exact ⟨h1,h2,⟨_,hl,Paired.set ⟨x,dx,pa,pvs,rfl,L,not_four h np⟩ k (f1 _ _ p1)⟩,⟨v2,o _ _ (by simp; exact Ne.symm ne.1.1) a2,f2 _ _ p2⟩,⟨v3,o _ _ (by simp; exact Ne.symm ne.1.2.1) a3,f3 _ _ p3⟩,⟨v4,o _ _ (by simp; exact Ne.symm ne.1.2.2) a4,f4 _ _ p4⟩,h.ne⟩
theorem YAt.setLet {K:PySem.W.Frag} {ys:Ys} {H H2:Hp} {a:YA} {s:YS} (h:YAt K ys H a s) {vs:List V} (hv:H a.le=some (.lst vs)) (o:OffE [a.le] H H2) {k:Nat} {x dx wa:Addr} (hl:H2 a.le=some (.lst (vs.set k (.ref x)))) {t:LtS}
    (hx:H2 x=some (.ins ys.letter dx (ltF t wa))) (hw:H2 wa=some (.lst (nV t.way))) (np:H wa=none):YAt K ys H2 a { s with letters:=s.letters.set k t }:=by
  obtain ⟨h1,h2,f1,f2,f3,f4⟩:=YardAt.off h (o.mono (by simp))
  obtain ⟨v1,a1,p1⟩:=h.hla
  obtain ⟨v2,a2,p2⟩:=h.hle
  obtain ⟨v3,a3,p3⟩:=h.hli
  obtain ⟨v4,a4,p4⟩:=h.hdn
  rw [hv] at a2
  cases a2
  have ne:=h.ne
  simp only [List.nodup_cons,List.mem_cons,List.not_mem_nil,or_false,not_or,not_false_eq_true,and_true,List.nodup_nil] at ne
  exact ⟨h1,h2,⟨v1,o _ _ (by simp; exact ne.1.1) a1,f1 _ _ p1⟩,⟨_,hl,Paired.set ⟨x,dx,wa,rfl,hx,hw,not_four h np⟩ k (f2 _ _ p2)⟩,⟨v3,o _ _ (by simp; exact Ne.symm ne.2.1.1) a3,f3 _ _ p3⟩,⟨v4,o _ _ (by simp; exact Ne.symm ne.2.1.2) a4,f4 _ _ p4⟩,h.ne⟩
theorem YAt.setLie {K:PySem.W.Frag} {ys:Ys} {H H2:Hp} {a:YA} {s:YS} (h:YAt K ys H a s) {vs:List V} (hv:H a.li=some (.lst vs)) (o:OffE [a.li] H H2) {k:Nat} {v:V} (hl:H2 a.li=some (.lst (vs.set k v))) {qs:List (Int × Int)}
    (L:LieV H2 v qs):YAt K ys H2 a { s with lies:=s.lies.set k qs }:=by
  obtain ⟨h1,h2,f1,f2,f3,f4⟩:=YardAt.off h (o.mono (by simp))
  obtain ⟨v1,a1,p1⟩:=h.hla
  obtain ⟨v2,a2,p2⟩:=h.hle
  obtain ⟨v3,a3,p3⟩:=h.hli
  obtain ⟨v4,a4,p4⟩:=h.hdn
  rw [hv] at a3
  cases a3
  have ne:=h.ne
  simp only [List.nodup_cons,List.mem_cons,List.not_mem_nil,or_false,not_or,not_false_eq_true,and_true,List.nodup_nil] at ne
  exact ⟨h1,h2,⟨v1,o _ _ (by simp; exact ne.1.2.1) a1,f1 _ _ p1⟩,⟨v2,o _ _ (by simp; exact ne.2.1.1) a2,f2 _ _ p2⟩,⟨_,hl,Paired.set L k (f3 _ _ p3)⟩,⟨v4,o _ _ (by simp; exact Ne.symm ne.2.2) a4,f4 _ _ p4⟩,h.ne⟩
def spOwnL (K:PySem.W.Frag) (ys:Ys):Sp:=fun vs H Q _=>∃ (a:YA) (s:YS) (k:Nat) (ln:LnS) (lvs:List V),vs=[.ref a.y, .int k]∧YAt K ys H a s∧s.lanes[k]? = some ln∧H a.la=some (.lst lvs) ∧
  ∀ (x dx pa:Addr) (pvs:List V) (H':Hp),OffE [a.la] H H'→H x=none→H pa=none→H' a.la=some (.lst (lvs.set k (.ref x)))→LaneAt H' ys.lane x dx pa ln.r ln.b ln.h pvs ln.qs→Q (.ref x) H'
def spOwnT (K:PySem.W.Frag) (ys:Ys):Sp:=fun vs H Q _=>∃ (a:YA) (s:YS) (k:Nat) (t:LtS) (tvs:List V),vs=[.ref a.y, .int k]∧YAt K ys H a s∧s.letters[k]? = some t∧H a.le=some (.lst tvs) ∧
  ∀ (x dx wa:Addr) (H':Hp),OffE [a.le] H H'→H x=none→H wa=none→H' a.le=some (.lst (tvs.set k (.ref x)))→H' x=some (.ins ys.letter dx (ltF t wa))→H' wa=some (.lst (nV t.way))→Q (.ref x) H'
def spLay (K:PySem.W.Frag) (ys:Ys):Sp:=fun vs H Q _=>∃ (a:YA) (s:YS) (v:V) (q:Int × Int) (p:Nat) (qs:List (Int × Int)),vs=[.ref a.y,v, .int p]∧YAt K ys H a s∧LnV H v q∧s.lies[p]? = some qs∧qs.length ≤ 100000 ∧
  ∀ H',OffE [a.li] H H'→YAt K ys H' a { s with lies:=s.lies.set p (qs ++ [q]) }→Q .non H'
def spLying (K:PySem.W.Frag) (ys:Ys):Sp:=fun vs H Q _=>∃ (a:YA) (s:YS) (p:Nat) (qs:List (Int × Int)),vs=[.ref a.y, .int p]∧YAt K ys H a s∧s.lies[p]? = some qs ∧
  ∀ (D:Addr) (pvs:List V) (H':Hp),Same H H'→H D=none→H' D=some (.lst pvs)→Lns H' pvs qs→Q (.ref D) H'
section
variable {P:Program} {w:World} {K:PySem.W.Frag} {mg:Str→Option Value} {base:Heap}
theorem scOwnL:FnScope ["self", "lane"] ["self", "lane"] (defScope sOwnL):=⟨rfl,rfl,rfl,by decide +kernel,rfl,by decide +kernel,by decide +kernel⟩
theorem ok_ownL {ys:Ys} {f ft:Addr} {fd dt:FuncData} (F:Fun K "own_lane" "Yard.own_lane" sOwnL f fd) (Y:Yrd K ys) (mt:Meth K ys.lane "twin" ft) (bt:Binds K dt ["self"] []) (Gt:FnOk P w K mg base CX0 3 ft dt ["self"] (spLnW ys.lane)) :
    FnOk P w K mg base CX0 4 f fd ["self", "lane"] (spOwnL K ys):=by
  refine F.ok scOwnL (fun vs H Q E h=>?_) (fun cdv A outer s H vs Q E hr h=>?_)
  · obtain ⟨a,s,k,ln,lvs,rfl,_⟩:=h
    rfl
  · obtain ⟨a,st,k,ln,lvs,rfl,hY,hk,gla,q⟩:=h
    refine ⟨_,pss_cons (ps_asg (pe_meth0 (pe_ix ix_list (pe_fld (pv 0) rfl) (pv 1) (fun _ _=>rfl)) Y.L.cl mt Gt hr bt .nil pass0) (pg_sub (pe_fld (pv 0) rfl) (pv 1) set_list))
      (pss_one (ps_ret (pe_ix ix_list (pe_fld (pv 0) rfl) (pv 1) (fun _ _=>rfl)))),?_⟩
    obtain ⟨lvs',gla',pl⟩:=hY.hla
    rw [gla] at gla'
    cases gla'
    obtain ⟨v,hv,x,dx,pa,pvs,rfl,hL,_⟩:=Paired.at2 pl hk
    have hkl:k < lvs.length:=(List.getElem?_eq_some_iff.mp hv).1
    refine ⟨_,rfl,a.y,ys.yard,a.dy,_,_,rfl,hY.ins,Y.cl,Y.n3,rfl,_,rfl,a.la,lvs,(k:Int),_,rfl,rfl,SqL.of gla,atI_nat hv,x,dx,_,rfl,hL.ins,rfl,?_⟩
    refine ⟨x,dx,pa,ln.r,ln.b,ln.h,pvs,ln.qs,rfl,hL,fun x' dx' pa' H1 s1 nx npa hL1=>?_⟩
    refine ⟨_,rfl,a.y,ys.yard,a.dy,_,_,rfl,s1 _ _ hY.ins,Y.cl,Y.n3,rfl,_,rfl,a.la,lvs,(k:Int),k,rfl,rfl,s1 _ _ gla,ixN_nat hkl,?_⟩
    have o1:OffE [a.la] H (upd H1 a.la (.lst (lvs.set k (.ref x')))):=(Same.offE s1).trans (upd_off (by simp))
    have g1:(upd H1 a.la (.lst (lvs.set k (.ref x')))) a.la=some (.lst (lvs.set k (.ref x'))):=upd_same
    have hL2:LaneAt (upd H1 a.la (.lst (lvs.set k (.ref x')))) ys.lane x' dx' pa' ln.r ln.b ln.h pvs ln.qs:=by
      have n1:x' ≠ a.la:=ne_of hL1.ins (s1 _ _ gla) (by intro z; cases z)
      have n2:pa' ≠ a.la:=fun z=>by rw [z,gla] at npa; cases npa
      exact ⟨by rw [upd_ne n1]; exact hL1.ins,by rw [upd_ne n2]; exact hL1.lst,Lns.offE (ex:=[a.la]) (fun b hb=>by simp at hb; subst hb; exact ⟨_,s1 _ _ gla⟩) (upd_off (by simp)) hL1.pcs⟩
    generalize upd H1 a.la (.lst (lvs.set k (.ref x')))=H2 at o1 g1 hL2 ⊢
    have hy2:H2 a.y=some (.ins ys.yard a.dy (ydF a.tb a.ro a.la a.le a.li a.dn)):=o1 _ _ (by simp; exact ne_of hY.ins gla (by intro z; cases z)) hY.ins
    exact ⟨_,rfl,a.y,ys.yard,a.dy,_,_,rfl,hy2,Y.cl,Y.n3,rfl,_,rfl,a.la,_,(k:Int), .ref x',rfl,rfl,SqL.of g1,atI_nat (by simp [hkl]),q x' dx' pa' pvs H2 o1 nx npa g1 hL2⟩
theorem scOwnT:FnScope ["self", "number"] ["self", "number"] (defScope sOwnT):=⟨rfl,rfl,rfl,by decide +kernel,rfl,by decide +kernel,by decide +kernel⟩
theorem ok_ownT {ys:Ys} {f ft:Addr} {fd dt:FuncData} (F:Fun K "own_letter" "Yard.own_letter" sOwnT f fd) (Y:Yrd K ys) (mt:Meth K ys.letter "twin" ft) (bt:Binds K dt ["self"] []) (Gt:FnOk P w K mg base CX0 3 ft dt ["self"] (spLtW ys.letter)) :
    FnOk P w K mg base CX0 4 f fd ["self", "number"] (spOwnT K ys):=by
  refine F.ok scOwnT (fun vs H Q E h=>?_) (fun cdv A outer s H vs Q E hr h=>?_)
  · obtain ⟨a,s,k,ln,lvs,rfl,_⟩:=h
    rfl
  · obtain ⟨a,st,k,t,tvs,rfl,hY,hk,gle,q⟩:=h
    refine ⟨_,pss_cons (ps_asg (pe_meth0 (pe_ix ix_list (pe_fld (pv 0) rfl) (pv 1) (fun _ _=>rfl)) Y.ct mt Gt hr bt .nil pass0) (pg_sub (pe_fld (pv 0) rfl) (pv 1) set_list))
      (pss_one (ps_ret (pe_ix ix_list (pe_fld (pv 0) rfl) (pv 1) (fun _ _=>rfl)))),?_⟩
    obtain ⟨tvs',gle',pl⟩:=hY.hle
    rw [gle] at gle'
    cases gle'
    obtain ⟨v,hv,x,dx,wa,rfl,hx,hw,_⟩:=Paired.at2 pl hk
    have hkl:k < tvs.length:=(List.getElem?_eq_some_iff.mp hv).1
    refine ⟨_,rfl,a.y,ys.yard,a.dy,_,_,rfl,hY.ins,Y.cl,Y.n4,rfl,_,rfl,a.le,tvs,(k:Int),_,rfl,rfl,SqL.of gle,atI_nat hv,x,dx,_,rfl,hx,rfl,?_⟩
    refine ⟨x,dx,wa,t,rfl,hx,hw,fun x' dx' wa' H1 s1 nx npa hx1 hw1=>?_⟩
    refine ⟨_,rfl,a.y,ys.yard,a.dy,_,_,rfl,s1 _ _ hY.ins,Y.cl,Y.n4,rfl,_,rfl,a.le,tvs,(k:Int),k,rfl,rfl,s1 _ _ gle,ixN_nat hkl,?_⟩
    have o1:OffE [a.le] H (upd H1 a.le (.lst (tvs.set k (.ref x')))):=(Same.offE s1).trans (upd_off (by simp))
    have g1:(upd H1 a.le (.lst (tvs.set k (.ref x')))) a.le=some (.lst (tvs.set k (.ref x'))):=upd_same
    have n1:x' ≠ a.le:=ne_of hx1 (s1 _ _ gle) (by intro z; cases z)
    have n2:wa' ≠ a.le:=fun z=>by rw [z,gle] at npa; cases npa
    have hx2:(upd H1 a.le (.lst (tvs.set k (.ref x')))) x' = some (.ins ys.letter dx' (ltF t wa')):=by rw [upd_ne n1]; exact hx1
    have hw2:(upd H1 a.le (.lst (tvs.set k (.ref x')))) wa' = some (.lst (nV t.way)):=by rw [upd_ne n2]; exact hw1
    generalize upd H1 a.le (.lst (tvs.set k (.ref x')))=H2 at o1 g1 hx2 hw2 ⊢
    have hy2:H2 a.y=some (.ins ys.yard a.dy (ydF a.tb a.ro a.la a.le a.li a.dn)):=o1 _ _ (by simp; exact ne_of hY.ins gle (by intro z; cases z)) hY.ins
    exact ⟨_,rfl,a.y,ys.yard,a.dy,_,_,rfl,hy2,Y.cl,Y.n4,rfl,_,rfl,a.le,_,(k:Int), .ref x',rfl,rfl,SqL.of g1,atI_nat (by simp [hkl]),q x' dx' wa' H2 o1 nx npa g1 hx2 hw2⟩
theorem scLay:FnScope ["self", "piece", "place"] ["self", "piece", "place"] (defScope sLay):=⟨rfl,rfl,rfl,by decide +kernel,rfl,by decide +kernel,by decide +kernel⟩
theorem ok_lay {ys:Ys} {f:Addr} {fd:FuncData} (F:Fun K "lay" "Yard.lay" sLay f fd) (Y:Yrd K ys):FnOk P w K mg base CX0 1 f fd ["self", "piece", "place"] (spLay K ys):=by
  refine F.ok scLay (fun vs H Q E h=>?_) (fun cdv A outer s H vs Q E hr h=>?_)
  · obtain ⟨a,s,v,q,p,qs,rfl,_⟩:=h
    rfl
  · obtain ⟨a,st,v,qp,p,qs,rfl,hY,hv,hp,hlen,q⟩:=h
    refine ⟨_,pss_one (ps_asg (pe_op op_catE (pe_ix ix_list (pe_fld (pv 0) rfl) (pv 2) (fun _ _=>rfl)) (pe_tup (pa_cons (pv 1) pa_nil))) (pg_sub (pe_fld (pv 0) rfl) (pv 2) set_list)),?_⟩
    obtain ⟨lvs,gli,pl⟩:=hY.hli
    obtain ⟨v0,hv0,t0,vs0,rfl,ht0,hL0⟩:=Paired.at2 pl hp
    have hkl:p < lvs.length:=(List.getElem?_eq_some_iff.mp hv0).1
    have hl0:vs0.length=qs.length:=Paired.length hL0
    refine ⟨_,rfl,a.y,ys.yard,a.dy,_,_,rfl,hY.ins,Y.cl,Y.n5,rfl,_,rfl,a.li,lvs,(p:Int),_,rfl,rfl,SqL.of gli,atI_nat hv0,_,rfl,by show 1 ≤ sizeLine; decide,fun t ht=>?_⟩
    have s1:=(Same.refl H).new (o := .tup [v]) ht
    have g1:(upd H t (.tup [v])) t=some (.tup [v]):=upd_same
    generalize upd H t (.tup [v])=H1 at s1 g1 ⊢
    have fin:∀ (z:Addr) (H2:Hp),Same H H2→LieV H2 (.ref z) (qs ++ [qp])→Q .non (upd H2 a.li (.lst (lvs.set p (.ref z)))):=fun z H2 s2 hz=>by
      have o2:OffE [a.li] H (upd H2 a.li (.lst (lvs.set p (.ref z)))):=(Same.offE s2).trans (upd_off (by simp))
      refine q _ o2 (YAt.setLie hY gli o2 upd_same ?_)
      obtain ⟨tz,vz,ez,hz1,hz2⟩:=hz
      cases ez
      have nz:z ≠ a.li:=ne_of hz1 (s2 _ _ gli) (by intro y; cases y)
      exact ⟨z,vz,rfl,by rw [upd_ne nz]; exact hz1,Lns.offE (ex:=[a.li]) (fun b hb=>by simp at hb; subst hb; exact ⟨_,s2 _ _ gli⟩) (upd_off (by simp)) hz2⟩
    refine ⟨t0,t,vs0,[v],rfl,rfl,SqT.of (s1 _ _ ht0),SqT.of g1,by simp,by rw [PySem.sizeLine_eq]; simp; omega,fun e0=>?_,fun e0 p2 hp2=>?_⟩
    · subst e0
      cases hL0
      refine ⟨_,rfl,a.y,ys.yard,a.dy,_,_,rfl,s1 _ _ hY.ins,Y.cl,Y.n5,rfl,_,rfl,a.li,lvs,(p:Int),p,rfl,rfl,s1 _ _ gli,ixN_nat hkl,?_⟩
      exact fin t H1 s1 ⟨t,[v],rfl,g1, .cons (let ⟨u,e,hu⟩:=hv; ⟨u,e,s1 _ _ hu⟩) .nil⟩
    · have s2:=s1.new (o := .tup (vs0 ++ [v])) hp2
      have g2:(upd H1 p2 (.tup (vs0 ++ [v]))) p2=some (.tup (vs0 ++ [v])):=upd_same
      generalize upd H1 p2 (.tup (vs0 ++ [v]))=H2 at s2 g2 ⊢
      refine ⟨_,rfl,a.y,ys.yard,a.dy,_,_,rfl,s2 _ _ hY.ins,Y.cl,Y.n5,rfl,_,rfl,a.li,lvs,(p:Int),p,rfl,rfl,s2 _ _ gli,ixN_nat hkl,?_⟩
      exact fin p2 H2 s2 ⟨p2,_,rfl,g2,Lns.snoc (let ⟨u,e,hu⟩:=hv; ⟨u,e,s2 _ _ hu⟩) (Lns.same s2 hL0)⟩
theorem scLyi:FnScope ["self", "place"] ["self", "place"] (defScope sLying):=⟨rfl,rfl,rfl,by decide +kernel,rfl,by decide +kernel,by decide +kernel⟩
theorem ok_lying {ys:Ys} {f:Addr} {fd:FuncData} (F:Fun K "lying" "Yard.lying" sLying f fd) (T:Txt mg) (Y:Yrd K ys):FnOk P w K mg base CX0 1 f fd ["self", "place"] (spLying K ys):=by
  refine F.ok scLyi (fun vs H Q E h=>?_) (fun cdv A outer s H vs Q E hr h=>?_)
  · obtain ⟨a,s,p,qs,rfl,_⟩:=h
    rfl
  · obtain ⟨a,st,p,qs,rfl,hY,hp,q⟩:=h
    refine ⟨_,pss_one (ps_ret (pe_callTy call_list_of rfl T.list PySem.Pv.boot_list (pa_cons (pe_ix ix_list (pe_fld (pv 0) rfl) (pv 1) (fun _ _=>rfl)) pa_nil))),?_⟩
    obtain ⟨lvs,gli,pl⟩:=hY.hli
    obtain ⟨v0,hv0,t0,vs0,rfl,ht0,hL0⟩:=Paired.at2 pl hp
    refine ⟨_,rfl,a.y,ys.yard,a.dy,_,_,rfl,hY.ins,Y.cl,Y.n5,rfl,_,rfl,a.li,lvs,(p:Int),_,rfl,rfl,SqL.of gli,atI_nat hv0,t0,_,rfl, .inr (SqT.of ht0),fun D hD=>?_⟩
    have s1:=(Same.refl H).new (o := .lst vs0) hD
    exact q D vs0 _ s1 hD upd_same (Lns.same s1 hL0)
end
end K66
namespace K66
open PySem L2
def laneIn (ln:LnS) (m c len:Int):LnS:={ ln with r:=ln.r - 1,h:=if decide (c=len - 1)=true then none else some m,qs:=ln.qs ++ [(m,c)] }
def enterS (s:YS) (m:Nat) (c:Int) (l:Nat) (t:LtS) (ln:LnS):YS:={ s with letters:=if c=0 then s.letters.set m { t with way:=t.way ++ [l] } else s.letters,lanes:=s.lanes.set l (laneIn ln m c t.len) }
def spEnter (K:PySem.W.Frag) (ys:Ys):Sp:=fun vs H Q _=>∃ (a:YA) (s:YS) (v:V) (m:Nat) (c:Int) (l:Nat) (t:LtS) (ln:LnS),vs=[.ref a.y,v, .int l]∧YAt K ys H a s∧LnV H v ((m:Int),c)∧s.letters[m]? = some t∧s.lanes[l]? = some ln∧openB ln.r ln.h m c=true∧t.way.length ≤ 1000∧ln.qs.length < 100000 ∧
  ∀ H',OffE [a.la,a.le] H H'→YAt K ys H' a (enterS s m c l t ln)→Q .non H'
def goneS (s:YS) (m:Nat) (t:LtS):YS:={ s with letters:=s.letters.set m { t with gone:=t.gone + 1 } }
def spGoIn (K:PySem.W.Frag) (ys:Ys):Sp:=fun vs H Q _=>∃ (a:YA) (s:YS) (m l:Nat) (t:LtS) (ln:LnS),vs=[.ref a.y, .int m, .int l]∧YAt K ys H a s∧s.letters[m]? = some t∧s.lanes[l]? = some ln∧openB ln.r ln.h m t.gone=true∧t.way.length ≤ 1000∧ln.qs.length < 100000 ∧
  ∀ H',OffE [a.la,a.le] H H'→YAt K ys H' a (enterS (goneS s m t) m t.gone l { t with gone:=t.gone + 1 } ln)→Q .non H'
structure Own (P:Program) (w:World) (K:PySem.W.Frag) (mg:Str→Option Value) (base:Heap) (ys:Ys) (nm:Addr) (fl ft fp:Addr) (dl dt dp:FuncData):Prop where
  ml:Meth K ys.yard "own_lane" fl
  bl:Binds K dl ["self", "lane"] []
  Gl:FnOk P w K mg base CX0 4 fl dl ["self", "lane"] (spOwnL K ys)
  mt:Meth K ys.yard "own_letter" ft
  bt:Binds K dt ["self", "number"] []
  Gt:FnOk P w K mg base CX0 4 ft dt ["self", "number"] (spOwnT K ys)
  mp:Meth K ys.lane "put" fp
  bp:Binds K dp ["self", "letter", "count", "last"] []
  Gp:FnOk P w K mg base (CXe P w) 2 fp dp ["self", "letter", "count", "last"] (spPut ys.lane nm)
abbrev NEn:List Str:=["self", "piece", "lane", "last"]
abbrev NGi:List Str:=["self", "number", "lane", "letter"]
section
variable {P:Program} {w:World} {K:PySem.W.Frag} {mg:Str→Option Value} {base:Heap}
theorem scEn:FnScope NEn ["self", "piece", "lane"] (defScope sEnter):=⟨rfl,rfl,rfl,by decide +kernel,rfl,by decide +kernel,by decide +kernel⟩
theorem ok_enter {ys:Ys} {nm f fl ft fp:Addr} {fd dl dt dp:FuncData} (F:Fun K "enter" "Yard.enter" sEnter f fd) (Y:Yrd K ys) (O:Own P w K mg base ys nm fl ft fp dl dt dp) :
    FnOk P w K mg base CX0 5 f fd ["self", "piece", "lane"] (spEnter K ys):=by
  refine F.ok scEn (fun vs H Q E h=>?_) (fun cdv A outer s H vs Q E hr h=>?_)
  · obtain ⟨a,s,v,m,c,l,t,ln,rfl,_⟩:=h
    rfl
  · obtain ⟨a,st,v,m,c,l,t,ln,rfl,hY,⟨pt,rfl,hpt⟩,hm,hl,hop,hwl,hql,q⟩:=h
    have hr2:Room 2 _:=hr.mono (by decide)
    refine ⟨_,pss_cons (ps_post (ps_if (pt_cmpR op_eq (pe_ix ix_tup (pv 1) pe_int (fun _ _=>rfl)) pe_int (nomark _))
        (pss_one (ps_expr (pe_bm PySem.F.plainAttrs_list PySem.F.slot_list_append PySem.F.type_list_append mt_append (pe_fld (pe_meth (pv 0) Y.cl O.mt O.Gt hr O.bt .nil pass0 (pa_cons (pe_ix ix_tup (pv 1) pe_int (fun _ _=>rfl)) pa_nil)) rfl) (pa_cons (pv 2) pa_nil)))) pss_nil))
      (pss_cons (ps_set (i:=3) scEn.nd rfl (Or.inl rfl) (pe_cmpR op_eq (pe_ix ix_tup (pv 1) pe_int (fun _ _=>rfl)) (pe_op op_sub (pe_fld (pe_ix ix_list (pe_fld (pv 0) rfl) (pe_ix ix_tup (pv 1) pe_int (fun _ _=>rfl)) (fun _ _=>rfl)) rfl) pe_int) (nomark _)))
      (pss_one (ps_expr (pe_meth (pe_meth (pv 0) Y.cl O.ml O.Gl hr O.bl .nil pass0 (pa_cons (pv 2) pa_nil)) Y.L.cl O.mp O.Gp hr2 O.bp .nil passE0 (pa_cons (pe_ix ix_tup (pv 1) pe_int (fun _ _=>rfl)) (pa_cons (pe_ix ix_tup (pv 1) pe_int (fun _ _=>rfl)) (pa_cons (pv 3) pa_nil))))))),?_⟩
    refine ⟨fun σ' H'=>σ' = start NEn [.ref a.y, .ref pt, .int l]∧OffE [a.le] H H'∧∃ t1:LtS,t1.len=t.len∧YAt K ys H' a { st with letters:=if c=0 then st.letters.set m { t with way:=t.way ++ [l] } else st.letters }∧(if c=0 then st.letters.set m { t with way:=t.way ++ [l] } else st.letters)[m]? = some t1,?_,?_⟩
    · refine ⟨_,rfl,pt,_,1,_,rfl,rfl,SqT.of hpt,atI_nat (j:=1) rfl,rfl,_,rfl,?_⟩
      rw [int_eq']
      by_cases hc:c=0
      · rw [decide_eq_true hc]
        obtain ⟨tvs,gle,pl⟩:=hY.hle
        refine iteT ⟨_,rfl,a.y,a.dy,_,rfl,hY.ins,rfl,_,rfl,pt,_,0,_,rfl,rfl,SqT.of hpt,atI_nat (j:=0) rfl,a,st,m,t,tvs,rfl,hY,hm,gle,fun x dx wa H1 o1 nx nw g1 hx1 hw1=>?_⟩
        refine ⟨x,ys.letter,dx,_,_,rfl,hx1,Y.ct,Y.t6,rfl, .inl ⟨rfl,_,SqL.of hw1⟩,_,rfl,wa,_,_,rfl,rfl,hw1,by rw [nV_len,PySem.sizeLine_eq]; omega,?_⟩
        have nxw:x ≠ wa:=ne_of hx1 hw1 (by intro z; cases z)
        have nlw:a.le ≠ wa:=ne_of_none gle nw
        have o2:OffE [a.le] H (upd H1 wa (.lst (nV t.way ++ [.int l]))):=fun b o nb e=>by rw [upd_ne (ne_of_none e nw)]; exact o1 b o nb e
        have hY2:=YAt.setLet hY gle o2 (k:=m) (x:=x) (dx:=dx) (wa:=wa) (by rw [upd_ne nlw]; exact g1) (t:={ t with way:=t.way ++ [l] }) (by rw [upd_ne nxw]; exact hx1) (by rw [upd_same,nV_app]; rfl) nw
        have hml:m < st.letters.length:=(List.getElem?_eq_some_iff.mp hm).1
        refine ⟨rfl,o2,{ t with way:=t.way ++ [l] },rfl,?_,?_⟩
        · rw [if_pos hc]; exact hY2
        · rw [if_pos hc]; simp [hml]
      · rw [decide_eq_false hc]
        refine iteF ⟨rfl,Same.offE (Same.refl H),t,rfl,?_,?_⟩
        · rw [if_neg hc]; exact hY
        · rw [if_neg hc]; exact hm
    · rintro σ' H1 ⟨rfl,o1,t1,hlen,hY1,hm1⟩
      have hpt1:H1 pt=some (.tup [.int m, .int c]):=by
        obtain ⟨tvs,gle,_⟩:=hY.hle
        exact o1 _ _ (by simp; exact ne_of hpt gle (by intro z; cases z)) hpt
      obtain ⟨tvs1,gle1,pl1⟩:=hY1.hle
      obtain ⟨v1,hv1,x1,dx1,wa1,rfl,hx1,_⟩:=Paired.at2 pl1 hm1
      refine ⟨_,rfl,pt,_,1,_,rfl,rfl,SqT.of hpt1,atI_nat (j:=1) rfl,_,rfl,a.y,ys.yard,a.dy,_,_,rfl,hY1.ins,Y.cl,Y.n4,rfl,_,rfl,pt,_,0,_,rfl,rfl,SqT.of hpt1,atI_nat (j:=0) rfl,a.le,tvs1,(m:Int),_,rfl,rfl,SqL.of gle1,atI_nat hv1,x1,ys.letter,dx1,_,_,rfl,hx1,Y.ct,Y.t3,rfl,_,_,rfl,rfl,rfl,?_⟩
      obtain ⟨lvs,gla,pla⟩:=hY1.hla
      refine ⟨_,rfl,a.y,a.dy,_,rfl,hY1.ins,rfl,_,rfl,a,_,l,ln,lvs,rfl,hY1,hl,gla,fun x dx pa pvs H2 o2 nx np g2 hL2=>?_⟩
      have hpt2:H2 pt=some (.tup [.int m, .int c]):=o2 _ _ (by simp; exact ne_of hpt1 gla (by intro z; cases z)) hpt1
      have hpl:pvs.length=ln.qs.length:=Paired.length hL2.pcs
      refine ⟨x,dx,_,rfl,hL2.ins,rfl,_,rfl,pt,_,0,_,rfl,rfl,SqT.of hpt2,atI_nat (j:=0) rfl,_,rfl,pt,_,1,_,rfl,rfl,SqT.of hpt2,atI_nat (j:=1) rfl,_,rfl,x,dx,pa,ln.r,ln.b,ln.h,pvs,ln.qs,(m:Int),c,decide (c=t.len - 1),?_,hL2,by omega,(fun ho=>by rw [hop] at ho; cases ho),fun _ t3 H3 o3 hL3=>?_⟩
      · rw [int_eq',hlen]; rfl
      have nxl:a.la ≠ x:=ne_of_none gla nx
      have npl:a.la ≠ pa:=ne_of_none gla np
      have o4:OffE [a.la] H1 H3:=fun b o nb e=>o3 b o (ne_of_none e nx) (ne_of_none e np) (o2 b o nb e)
      have hY3:=YAt.setLane hY1 gla o4 (k:=l) (x:=x) (dx:=dx) (pa:=pa) (o3 _ _ nxl npl g2) (ln:=laneIn ln m c t.len) hL3 np
      exact q H3 ((o1.mono (by simp)).trans (o4.mono (by simp))) hY3
theorem scGi:FnScope NGi ["self", "number", "lane"] (defScope sGoIn):=⟨rfl,rfl,rfl,by decide +kernel,rfl,by decide +kernel,by decide +kernel⟩
theorem ok_goIn {ys:Ys} {nm f fl ft fp fe:Addr} {fd dl dt dp de:FuncData} (F:Fun K "go_in" "Yard.go_in" sGoIn f fd) (Y:Yrd K ys) (O:Own P w K mg base ys nm fl ft fp dl dt dp) (me:Meth K ys.yard "enter" fe) (be:Binds K de ["self", "piece", "lane"] []) (Ge:FnOk P w K mg base CX0 5 fe de ["self", "piece", "lane"] (spEnter K ys)) :
    FnOk P w K mg base CX0 6 f fd ["self", "number", "lane"] (spGoIn K ys):=by
  refine F.ok scGi (fun vs H Q E h=>?_) (fun cdv A outer s H vs Q E hr h=>?_)
  · obtain ⟨a,s,m,l,t,ln,rfl,_⟩:=h
    rfl
  · obtain ⟨a,st,m,l,t,ln,rfl,hY,hm,hl,hop,hwl,hql,q⟩:=h
    have hr4:Room 4 _:=hr.mono (by decide)
    refine ⟨_,pss_cons (ps_set (i:=3) scGi.nd rfl (Or.inl rfl) (pe_meth (pv 0) Y.cl O.mt O.Gt hr4 O.bt .nil pass0 (pa_cons (pv 1) pa_nil)))
      (pss_cons (ps_fldaug (pv 3) pe_int iop_add)
      (pss_one (ps_expr (pe_meth (pv 0) Y.cl me Ge hr be .nil pass0 (pa_cons (pe_tup (pa_cons (pv 1) (pa_cons (pe_op op_sub (pe_fld (pv 3) rfl) pe_int) pa_nil))) (pa_cons (pv 2) pa_nil)))))),?_⟩
    obtain ⟨tvs,gle,pl⟩:=hY.hle
    refine ⟨_,rfl,a.y,a.dy,_,rfl,hY.ins,rfl,_,rfl,a,st,m,t,tvs,rfl,hY,hm,gle,fun x dx wa H1 o1 nx nw g1 hx1 hw1=>?_⟩
    refine ⟨_,rfl,x,ys.letter,dx,_,_,rfl,hx1,Y.ct,Y.t5,rfl,_,_,rfl,rfl,dx,_,hx1,by show 6 < 1000; decide,?_⟩
    have nlx:a.le ≠ x:=ne_of_none gle nx
    have nwx:wa ≠ x:=ne_of hw1 hx1 (by intro z; cases z)
    have o2:OffE [a.le] H (upd H1 x (.ins ys.letter dx (putF "gone" (.int (t.gone + 1)) (ltF t wa)))):=fun b o nb e=>by rw [upd_ne (ne_of_none e nx)]; exact o1 b o nb e
    have hx2:(upd H1 x (.ins ys.letter dx (putF "gone" (.int (t.gone + 1)) (ltF t wa)))) x=some (.ins ys.letter dx (ltF { t with gone:=t.gone + 1 } wa)):=upd_same
    have hY2:=YAt.setLet hY gle o2 (k:=m) (x:=x) (dx:=dx) (wa:=wa) (by rw [upd_ne nlx]; exact g1) (t:={ t with gone:=t.gone + 1 }) hx2 (by rw [upd_ne nwx]; exact hw1) nw
    show _
    generalize upd H1 x (.ins ys.letter dx (putF "gone" (.int (t.gone + 1)) (ltF t wa)))=H2 at o2 hx2 hY2 ⊢
    refine ⟨_,rfl,a.y,a.dy,_,rfl,hY2.ins,rfl,_,rfl,_,rfl,x,ys.letter,dx,_,_,rfl,hx2,Y.ct,Y.t5,rfl,_,_,rfl,rfl,by show 2 ≤ sizeLine; decide,fun pt hpt=>?_⟩
    have eg:t.gone + 1 - 1=t.gone:=by omega
    have s3:=(Same.refl H2).new (o := .tup [.int m, .int t.gone]) hpt
    have g3:(upd H2 pt (.tup [.int m, .int t.gone])) pt=some (.tup [.int m, .int t.gone]):=upd_same
    dsimp only
    rw [eg]
    generalize upd H2 pt (.tup [.int m, .int t.gone])=H3 at s3 g3 ⊢
    have hml:m < st.letters.length:=(List.getElem?_eq_some_iff.mp hm).1
    refine ⟨_,rfl,a,goneS st m t,_,m,t.gone,l,{ t with gone:=t.gone + 1 },ln,rfl,YardAt.same hY2 s3,⟨pt,rfl,g3⟩,by unfold goneS; simp [hml],hl,hop,hwl,hql,fun H' o' hY'=>?_⟩
    exact q H' ((o2.mono (by simp)).trans ((Same.offE s3).trans o')) hY'
end
end K66
namespace K66
open PySem L2
theorem cut_to (us:List Nat) (i:Nat):cutV (nV us) none (some (i:Int))=nV (us.take i):=by
  unfold cutV
  have e0:HT.sIx (nV us).length 0 none=0:=rfl
  rw [e0,show HT.sIx (nV us).length (nV us).length (some (i:Int))=min i (nV us).length from HT.sIx_nat _ _ i,List.drop_zero,Nat.sub_zero]
  unfold nV
  rw [List.map_take,List.length_map]
  refine List.ext_getElem? fun j=>?_
  simp only [List.getElem?_take,List.getElem?_map]
  by_cases h1:j < i
  · by_cases h2:j < us.length
    · rw [if_pos (by omega),if_pos h1]
    · rw [if_neg (by omega),if_pos h1,List.getElem?_eq_none (by omega)]; rfl
  · rw [if_neg (by omega),if_neg h1]
theorem cut_mid (us:List Nat) (i:Nat):cutV (nV us) (some (i:Int)) (some ((i:Int) + 1))=nV ((us.drop i).take 1):=by
  unfold cutV
  rw [show HT.sIx (nV us).length 0 (some (i:Int))=min i (nV us).length from HT.sIx_nat _ _ i,show ((i:Int) + 1)=((i + 1:Nat):Int) by omega,show HT.sIx (nV us).length (nV us).length (some ((i + 1:Nat):Int))=min (i + 1) (nV us).length from HT.sIx_nat _ _ (i + 1),nV_len]
  by_cases h:i < us.length
  · rw [Nat.min_eq_left (by omega),Nat.min_eq_left (by omega),show i + 1 - i=1 by omega]
    unfold nV
    rw [List.map_take,List.map_drop]
  · rw [Nat.min_eq_right (by omega),Nat.min_eq_right (by omega),Nat.sub_self,List.take_zero,List.drop_eq_nil_of_le (by omega)]; rfl
theorem nV_iz (us:List Nat):nV us=(iz us).map V.int:=(iz_V us).symm
theorem idx_iz (k:Nat):∀ us:List Nat,(iz us).idxOf (k:Int)=us.idxOf k
  | []=>rfl
  | u :: us=>by
    have ih:=idx_iz k us
    unfold iz at ih ⊢
    rw [List.map_cons,List.idxOf_cons,List.idxOf_cons,ih]
    by_cases h:u=k
    · subst h; simp
    · have h':((u:Int) == (k:Int))=false:=by simp; omega
      have h2:(u == k)=false:=by simp; exact h
      rw [h',h2]
inductive Mv
  | inn (k l:Nat) | on (k l:Nat) | lie (k:Nat) | back (k:Nat)
def mvV:Mv→List V
  | .inn k l=>[.str "in", .int k, .int l]
  | .on k l=>[.str "on", .int k, .int l]
  | .lie k=>[.str "lie", .int k]
  | .back k=>[.str "back", .int k]
def openL (s:YS) (l:Nat) (m c:Int):Bool:=match s.lanes[l]? with
  | some ln=>openB ln.r ln.h m c
  | none=>false
def frontQ (s:YS) (k:Nat):Option (Int × Int):=match s.lanes[k]? with
  | some ln=>ln.qs.head?
  | none=>none
def onw (a:YA) (l g:Nat):List Nat:=if (a.ps.getD l (0,0)).2=(g:Int) then [] else a.wy (a.ps.getD l (0,0)).2.toNat g (some l)
def wantS (a:YA) (s:YS) (k:Nat):List Nat:=match frontQ s k with
  | none=>[]
  | some q=>match s.letters[q.1.toNat]? with
    | none=>[]
    | some t=>if q.2=0 then (onw a k t.goal.toNat).filter fun l=>!decide (l ∈ t.way) else (t.way.drop (t.way.idxOf k + 1)).take 1
def firstL (a:YA) (t:LtS):List Nat:=if t.gone=0 then a.wy t.start.toNat t.goal.toNat none else t.way.take 1
def mvIn (a:YA) (s:YS) (k:Nat):List Mv:=match s.letters[k]? with
  | none=>[]
  | some t=>if t.gone=t.len then [] else ((firstL a t).filter fun l=>openL s l k t.gone).map (Mv.inn k)
def mvOn (a:YA) (s:YS) (k:Nat):List Mv:=match frontQ s k with
  | none=>[]
  | some q=>((wantS a s k).filter fun l=>openL s l q.1 q.2).map (Mv.on k)
def mvLie (a:YA) (s:YS) (k:Nat):List Mv:=match frontQ s k with
  | none=>[]
  | some q=>match s.letters[q.1.toNat]? with
    | none=>[]
    | some t=>if t.goal=(a.ps.getD k (0,0)).2 then [.lie k] else []
def mvBack (s:YS) (k:Nat):List Mv:=match s.lanes[k]? with
  | some ln=>if 0 < ln.b then [.back k] else []
  | none=>[]
structure TOk (a:YA):Prop where
  ends:∀ (l:Nat) (pr:Int × Int),a.ps[l]? = some pr→∃ e:Nat,pr.2=(e:Int)∧e < a.n
  few:∀ p g k,(a.wy p g k).length ≤ 400
structure YOk (a:YA) (s:YS):Prop where
  lanes:s.lanes.length=a.ps.length
  lies:s.lies.length=a.n
  lets:∀ (m:Nat) (t:LtS),s.letters[m]? = some t→∃ x y:Nat,t.start=(x:Int)∧t.goal=(y:Int)∧x < a.n∧y < a.n
  ways:∀ (m:Nat) (t:LtS),s.letters[m]? = some t→(∀ l ∈ t.way,l < a.ps.length)∧t.way.length ≤ 1000
  pcs:∀ (k:Nat) (ln:LnS),s.lanes[k]? = some ln→∀ q ∈ ln.qs,∃ (m:Nat) (t:LtS),q.1=(m:Int)∧s.letters[m]? = some t∧k ∈ t.way
  few:s.letters.length ≤ 60
structure YIn (K:PySem.W.Frag) (c:Cs) (TC:Addr) (J:TJ) (ys:Ys) (H:Hp) (a:YA) (s:YS):Prop where
  Y:YAt K ys H a s
  T:TAt c TC J H a
  O:TOk a
  G:YOk a s
theorem YIn.same {K:PySem.W.Frag} {c:Cs} {TC fw:Addr} {dw:FuncData} {J:TJ} {ys:Ys} {H H':Hp} {a:YA} {s:YS} (W:Wy K TC fw dw J) (h:YIn K c TC J ys H a s) (e:Same H H'):YIn K c TC J ys H' a s:=⟨YardAt.same h.Y e,TbIn.keep W h.T (Same.keepN e),h.O,h.G⟩
abbrev spMvs (K:PySem.W.Frag) (c:Cs) (TC:Addr) (J:TJ) (ys:Ys) (f:YA→YS→Nat→List Mv) (len:YS→Nat):Sp:=fun vs H Q _=>∃ (a:YA) (s:YS) (k:Nat),vs=[.ref a.y, .int k]∧YIn K c TC J ys H a s∧k < len s ∧
  ∀ (D:Addr) (mvs:List V) (H':Hp),Same H H'→H D=none→H' D=some (.lst mvs)→Paired (MvV H') mvs ((f a s k).map mvV)→Q (.ref D) H'
def spMvIn (K:PySem.W.Frag) (c:Cs) (TC:Addr) (J:TJ) (ys:Ys):Sp:=spMvs K c TC J ys mvIn (fun s=>s.letters.length)
def spMvOn (K:PySem.W.Frag) (c:Cs) (TC:Addr) (J:TJ) (ys:Ys):Sp:=spMvs K c TC J ys mvOn (fun s=>s.lanes.length)
def spMvLie (K:PySem.W.Frag) (c:Cs) (TC:Addr) (J:TJ) (ys:Ys):Sp:=spMvs K c TC J ys mvLie (fun s=>s.lanes.length)
def spMvBack (K:PySem.W.Frag) (c:Cs) (TC:Addr) (J:TJ) (ys:Ys):Sp:=spMvs K c TC J ys (fun _ s k=>mvBack s k) (fun s=>s.lanes.length)
def spWanted (K:PySem.W.Frag) (c:Cs) (TC:Addr) (J:TJ) (ys:Ys):Sp:=fun vs H Q _=>∃ (a:YA) (s:YS) (k:Nat),vs=[.ref a.y, .int k]∧YIn K c TC J ys H a s∧k < s.lanes.length ∧
  ∀ (D:Addr) (H':Hp),Same H H'→H D=none→H' D=some (.lst (nV (wantS a s k)))→Q (.ref D) H'
def spOnA (c:Cs) (C:Addr) (J:TJ):Sp:=fun vs H Q _=>∃ (a:YA) (l g:Nat),vs=[.ref a.tb, .int l, .int g]∧TAt c C J H a∧TOk a∧l < a.ps.length∧g < a.n ∧
  ∀ (D:Addr) (H':Hp),Same H H'→H D=none→H' D=some (.lst (nV (onw a l g)))→Q (.ref D) H'
theorem comp_mv {K:PySem.W.Frag} {p:Addr} {us:List Nat} {g:TG} {tt:TT} {te:TE} {σ0:St} {H:Hp} {Q:VK} (b:Nat→Bool) (f:Nat→Mv) (hn:us.length < sizeLine) (ha:H p=some (.lst (nV us)))
    (hs:∀ (u:Nat) (H1:Hp) (acc:List V) (N:List V→Hp→Prop),u ∈ us→Same H H1→(b u=true→∀ v H2,Same H1 H2→MvV H2 v (mvV (f u))→N (acc ++ [v]) H2)→(b u=false→N acc H1) →
      g (.int u) σ0 H1 fun σ2 H2=>tt σ2 H2 fun b H3=>if b=true then te σ2 H3 fun y H4=>N (acc ++ [y]) H4 else N acc H3)
    (hq:∀ D vs H1,Same H H1→H1 D=none→Paired (MvV H1) vs (((us.filter b).map f).map mvV)→Q (.ref D) (upd H1 D (.lst vs))):CompR (Itl K p) g tt te σ0 Q H:=by
  refine comp_gen us.length hn (fun i acc H'=>Same H H'∧Paired (MvV H') acc ((((us.take i).filter b).map f).map mvV)) ⟨Same.refl _, .nil⟩ (fun i acc H' h=>by
      rw [Paired.length h.2,List.length_map,List.length_map]
      have h1:=List.length_filter_le b (us.take i)
      have h2:=List.length_take_le i us
      omega) (fun i acc H' hi h=>?_) (fun acc H' h=>?_)
  · obtain ⟨s,hL⟩:=h
    have hu:us[i]? = some us[i]:=List.getElem?_eq_getElem hi
    refine ⟨⟨_,_,SqL.of (s _ _ ha),nV_get hu⟩,fun v H2 y=>?_⟩
    obtain ⟨rfl,y⟩:=y
    have hv:=y _ (SqL.of (s _ _ ha))
    rw [nV_get hu] at hv
    cases hv
    refine hs us[i] H2 acc (fun acc' H4=>Same H H4∧Paired (MvV H4) acc' ((((us.take (i + 1)).filter b).map f).map mvV)) (List.getElem_mem hi) s (fun hb v H3 s3 hv=>⟨s.trans s3,?_⟩) (fun hb=>⟨s,?_⟩)
    · rw [List.take_succ,hu,List.filter_append]
      have e:(some us[i]).toList.filter b=[us[i]]:=by simp [hb]
      rw [e,List.map_append,List.map_append]
      exact Paired.snoc hv (Paired.mono (fun _ _ z=>z.keep (Same.keepN s3)) hL)
    · rw [List.take_succ,hu,List.filter_append]
      have e:(some us[i]).toList.filter b=[]:=by simp [hb]
      rw [e,List.append_nil]
      exact hL
  · obtain ⟨s,hL⟩:=h
    rw [List.take_length] at hL
    exact ⟨⟨_,SqL.of (s _ _ ha),by rw [nV_len]; exact Nat.le_refl _⟩,fun D hD=>hq D acc H' s hD hL⟩
def retC (s:Stmt):Scope:=match s with
  | .Return (some (.ListComp _ _ sc _)) _=>sc
  | _=>{ kind := .function,names:=[],isGenerator:=false,isCoroutine:=false }
def ifRetL (s:Stmt):Scope:=match s with
  | .If _ [s'] _ _=>retC s'
  | _=>{ kind := .function,names:=[],isGenerator:=false,isCoroutine:=false }
abbrev NMi:List Str:=["self", "number", "letter", "wanted"]
abbrev NWa:List Str:=["self", "lane", "piece", "letter", "behind"]
abbrev NMo:List Str:=["self", "lane", "piece", "wanted"]
section
variable {P:Program} {w:World} {K:PySem.W.Frag} {mg:Str→Option Value} {base:Heap}
theorem scMi:FnScope NMi ["self", "number"] (defScope sMvIn):=⟨rfl,rfl,rfl,by decide +kernel,rfl,by decide +kernel,by decide +kernel⟩
theorem bkMi:Blk NMi (defScope sMvIn) (retC ((defBody sMvIn).getD 3 (.Pass ⟨0,0,0,0⟩))) ["self", "number", "letter"] [0,1,2]:=⟨rfl,by decide +kernel,by decide +kernel,by decide +kernel,rfl,by decide +kernel⟩
theorem ndMi:(["lane", "self", "number", "letter"]:List Str).Nodup:=by decide +kernel
theorem ok_mvIn {c:Cs} {ys:Ys} {J:TJ} {TC f fw fo:Addr} {fd dw d_o:FuncData} (F:Fun K "moves_in" "Yard.moves_in" sMvIn f fd) (Y:Yrd K ys) (W:Wy K TC fw dw J) (Gway:FnOk P w K mg base CX0 3 fw dw ["self", "place", "goal", "came"] (spWaysA J))
    (mo:Meth K ys.lane "open_to" fo) (bo:Binds K d_o ["self", "letter", "count"] []) (Go:FnOk P w K mg base CX0 1 fo d_o ["self", "letter", "count"] (spOpen ys.lane)) :
    FnOk P w K mg base CX0 4 f fd ["self", "number"] (spMvIn K c TC J ys):=by
  refine F.ok scMi (fun vs H Q E h=>?_) (fun cdv A outer s H vs Q E hr h=>?_)
  · obtain ⟨a,s,k,rfl,_⟩:=h
    rfl
  · obtain ⟨a,st,k,rfl,hI,hk,q⟩:=h
    have hr1:Room 1 _:=hr.mono (by decide)
    refine ⟨_,pss_cons (ps_set (i:=2) scMi.nd rfl (Or.inr rfl) (pe_ix ix_list (pe_fld (pv 0) rfl) (pv 1) (fun _ _=>rfl)))
      (pss_cons (ps_if (pt_cmpR op_eq (pe_fld (pv 2) rfl) (pe_fld (pv 2) rfl) (nomark _)) (pss_one (ps_ret (pe_lst pa_nil))) pss_nil)
      (pss_cons (ps_set (i:=3) scMi.nd rfl (Or.inl rfl) (pe_post (pe_ifExp (pt_cmpR op_eq (pe_fld (pv 2) rfl) pe_int (nomark _)) (pe_meth (pe_fld (pv 0) rfl) W.cl W.m Gway hr W.b .nil pass0 (pa_cons (pe_fld (pv 2) rfl) (pa_cons (pe_fld (pv 2) rfl) (pa_cons pe_non pa_nil)))) (pe_slice sl_list (pe_fld (pv 2) rfl) po_none (po_some pe_int)))))
      (pss_one (ps_ret (pe_comp (own:=["lane"]) (capN:=["self", "number", "letter"]) (cap:=[0,1,2]) bkMi rfl (pi_list (pv 3)) (fun C s' H' fp=>⟨pg_name (i:=0) ndMi rfl (Or.inl rfl),pts_one (pt_val (pe_meth (pe_ix (show IxR _ (rIxL K) from ix_list) (show PE _ _ (tFld K (tVar 1) "lanes") from pe_fld (pv 1) rfl) (pv 0) (fun _ _=>rfl)) Y.L.cl mo Go hr1 bo .nil pass0 (pa_cons (pv 2) (pa_cons (show PE _ _ (tFld K (tVar 3) "gone") from pe_fld (pv 3) rfl) pa_nil)))),pe_tup (pa_cons pe_str (pa_cons (pv 2) (pa_cons (pv 0) pa_nil)))⟩)))))),?_⟩
    have hY:=hI.Y
    obtain ⟨tvs,gle,pl⟩:=hY.hle
    obtain ⟨t,ht⟩:∃ t,st.letters[k]? = some t:=⟨_,List.getElem?_eq_getElem hk⟩
    obtain ⟨v,hv,x,dx,wa,rfl,hx,hw,_⟩:=Paired.at2 pl ht
    obtain ⟨x0,y0,e1,e2,hx0,hy0⟩:=hI.G.lets k t ht
    obtain ⟨hwl,hw9⟩:=hI.G.ways k t ht
    unfold mvIn at q
    rw [ht] at q
    refine ⟨_,rfl,a.y,ys.yard,a.dy,_,_,rfl,hY.ins,Y.cl,Y.n4,rfl,_,rfl,a.le,tvs,(k:Int),_,rfl,rfl,SqL.of gle,atI_nat hv,?_⟩
    refine ⟨_,rfl,x,ys.letter,dx,_,_,rfl,hx,Y.ct,Y.t5,rfl,_,rfl,x,ys.letter,dx,_,_,rfl,hx,Y.ct,Y.t3,rfl,rfl,_,rfl,?_⟩
    rw [int_eq']
    by_cases hg:t.gone=t.len
    · rw [decide_eq_true hg]
      dsimp only at q
      rw [if_pos hg] at q
      exact iteT ⟨Nat.zero_le _,fun D hD=>q D [] _ ((Same.refl H).new hD) hD upd_same .nil⟩
    rw [decide_eq_false hg]
    dsimp only at q
    rw [if_neg hg] at q
    refine iteF ⟨fun v H1=>∃ D,v = .ref D∧Same H H1∧H1 D=some (.lst (nV (firstL a t))),?_,?_⟩
    · refine ⟨_,rfl,x,ys.letter,dx,_,_,rfl,hx,Y.ct,Y.t5,rfl,rfl,_,rfl,?_⟩
      rw [int_eq']
      unfold firstL
      by_cases h0:t.gone=0
      · rw [decide_eq_true h0,if_pos h0]
        obtain ⟨dxt,fst,htb,hland,hways⟩:=hI.T.i
        refine iteT ⟨_,rfl,a.y,ys.yard,a.dy,_,_,rfl,hY.ins,Y.cl,Y.n1,rfl,a.tb,dxt,fst,rfl,htb,hways,_,rfl,x,ys.letter,dx,_,_,rfl,hx,Y.ct,Y.t1,rfl,_,rfl,x,ys.letter,dx,_,_,rfl,hx,Y.ct,Y.t2,rfl,?_⟩
        rw [e1,e2,Int.toNat_natCast,Int.toNat_natCast]
        exact ⟨a.tb,a.n,a.wy,x0,y0,none,rfl,hI.T.j,hx0,hy0,fun D H1 s1 hD gD=>⟨D,rfl,s1,gD⟩⟩
      · rw [decide_eq_false h0,if_neg h0]
        refine iteF ⟨_,rfl,x,ys.letter,dx,_,_,rfl,hx,Y.ct,Y.t6,rfl,_,rfl,wa,_,rfl,SqL.of hw,fun D hD=>⟨D,rfl,(Same.refl H).new hD,?_⟩⟩
        rw [upd_same,show ((1:Int))=((1:Nat):Int) from rfl,cut_to]
    rintro v H1 ⟨D,rfl,s1,gD⟩
    have hI1:=hI.same W s1
    have hY1:=hI1.Y
    have hx1:=s1 _ _ hx
    obtain ⟨lvs,gla,pla⟩:=hY1.hla
    have hfl:(firstL a t).length ≤ 1000:=by
      unfold firstL
      by_cases h0:t.gone=0
      · rw [if_pos h0]; exact Nat.le_trans (hI.O.few _ _ _) (by decide)
      · rw [if_neg h0]; rw [List.length_take]; omega
    have hin:∀ u ∈ firstL a t,u < a.ps.length:=fun u hu=>by
      unfold firstL at hu
      by_cases h0:t.gone=0
      · rw [if_pos h0,e1,e2,Int.toNat_natCast,Int.toNat_natCast] at hu; exact hI.T.ok _ _ _ hx0 hy0 u hu
      · rw [if_neg h0] at hu; exact hwl u (List.mem_of_mem_take hu)
    refine ⟨_,rfl,D,rfl,⟨_,SqL.of gD⟩,?_⟩
    refine comp_mv (fun l=>openL st l k t.gone) (Mv.inn k) (by rw [PySem.sizeLine_eq]; omega) gD (fun u H2 acc N hu s2 hyes hno=>?_) (fun D2 vs2 H2 s2 hD2 hp=>?_)
    · have hI2:=hI1.same W s2
      obtain ⟨lvs2,gla2,pla2⟩:=hI2.Y.hla
      have hul:u < st.lanes.length:=by rw [hI.G.lanes]; exact hin u hu
      obtain ⟨ln,hln⟩:∃ ln,st.lanes[u]? = some ln:=⟨_,List.getElem?_eq_getElem hul⟩
      obtain ⟨vl,hvl,xl,dxl,pal,pvl,rfl,hL,_⟩:=Paired.at2 pla2 hln
      refine ⟨_,rfl,a.y,ys.yard,a.dy,_,_,rfl,hI2.Y.ins,Y.cl,Y.n3,rfl,_,rfl,a.la,lvs2,(u:Int),_,rfl,rfl,SqL.of gla2,atI_nat hvl,xl,dxl,_,rfl,hL.ins,rfl,_,rfl,_,rfl,x,ys.letter,dx,_,_,rfl,s2 _ _ hx1,Y.ct,Y.t5,rfl,xl,dxl,pal,ln.r,ln.b,ln.h,(k:Int),t.gone,rfl,hL.ins,_,rfl,?_⟩
      have eo:openL st u k t.gone=openB ln.r ln.h k t.gone:=by unfold openL; rw [hln]
      cases ho:openB ln.r ln.h k t.gone with
      | false=>exact iteF (hno (by rw [eo,ho]))
      | true=>exact iteT ⟨_,rfl,_,rfl,by show 3 ≤ sizeLine; decide,fun z hz=>hyes (by rw [eo,ho]) _ _ ((Same.refl H2).new hz) ⟨z,rfl,upd_same⟩⟩
    · exact q D2 vs2 _ ((s1.trans s2).new hD2) (s1.free (s2.free hD2)) upd_same (Paired.mono (fun _ _ z=>z.keep (Same.keepN ((Same.refl H2).new hD2))) hp)
end
end K66
namespace K66
open PySem L2
theorem front_of {H:Hp} {pvs:List V} {qs:List (Int × Int)} (h:Lns H pvs qs):(qs.head? = none∧frontV pvs = .non)∨∃ q pt,qs.head? = some q∧frontV pvs = .ref pt∧H pt=some (.tup [.int q.1, .int q.2]):=by
  cases h with
  | nil=>exact .inl ⟨rfl,rfl⟩
  | cons x r=>obtain ⟨t,rfl,ht⟩:=x; exact .inr ⟨_,t,rfl,rfl,ht⟩
section
variable {P:Program} {w:World} {K:PySem.W.Frag} {mg:Str→Option Value} {base:Heap}
theorem scOn:FnScope ["table", "lane", "goal", "end"] ["table", "lane", "goal"] (defScope sOn):=⟨rfl,rfl,rfl,by decide +kernel,rfl,by decide +kernel,by decide +kernel⟩
theorem ok_onA {c:Cs} {J:TJ} {C f fw fe:Addr} {fd dw de:FuncData} (F:Fun K "onward" "onward" sOn f fd) (L:Lnd K c) (W:Wy K C fw dw J) (Gw:FnOk P w K mg base CX0 3 fw dw ["self", "place", "goal", "came"] (spWaysA J))
    (M:EndM K c fe de) (Ge:FnOk P w K mg base CX0 1 fe de ["self", "lane"] (spAt c Prod.snd)):FnOk P w K mg base CX0 4 f fd ["table", "lane", "goal"] (spOnA c C J):=by
  refine F.ok scOn (fun vs H Q E h=>?_) (fun cdv A outer s H vs Q E hr h=>?_)
  · obtain ⟨a,l,g,rfl,_⟩:=h
    rfl
  · obtain ⟨a,l,g,rfl,hT,hO,hl,hg,q⟩:=h
    have hr1:Room 1 _:=hr.mono (by decide)
    refine ⟨_,pss_cons (ps_set (i:=3) scOn.nd rfl (Or.inl rfl) (pe_meth (pe_fld (pv 0) rfl) L.cl M.m Ge hr1 M.b .nil pass0 (pa_cons (pv 1) pa_nil)))
      (pss_one (ps_ret (pe_ifExp (pt_cmpR op_eq (pv 3) (pv 2) (nomark _)) (pe_lst pa_nil) (pe_meth (pv 0) W.cl W.m Gw hr W.b .nil pass0 (pa_cons (pv 3) (pa_cons (pv 2) (pa_cons (pv 1) pa_nil))))))),?_⟩
    obtain ⟨dx,fs,hx,hf,hw'⟩:=hT.i
    have he:=List.getElem?_eq_getElem hl
    have heD:a.ps.getD l (0,0)=a.ps[l]:=by rw [List.getD_eq_getElem?_getD,he]; rfl
    unfold onw at q
    rw [heD] at q
    obtain ⟨e,ee,hen⟩:=hO.ends l _ he
    refine ⟨_,rfl,a.tb,C,dx,fs,_,rfl,hx,W.cl,W.nl,hf,a.lx,a.ldx,_,rfl,hT.l.1,rfl,_,rfl,a.lx,a.ldx,a.lt,(a.n:Int),a.tvs,a.ps,l,_,rfl,hT.l,he,?_⟩
    rw [ee] at q ⊢
    rw [Int.toNat_natCast] at q
    refine ⟨_,rfl,_,rfl,rfl,_,rfl,?_⟩
    rw [int_eq']
    by_cases h1:(e:Int)=(g:Int)
    · rw [decide_eq_true h1]
      rw [if_pos h1] at q
      exact iteT ⟨Nat.zero_le _,fun D hD=>q D _ ((Same.refl H).new hD) hD upd_same⟩
    · rw [decide_eq_false h1]
      rw [if_neg h1] at q
      exact iteF ⟨_,rfl,a.tb,dx,fs,rfl,hx,hw',_,rfl,_,rfl,_,rfl,a.tb,a.n,a.wy,e,g,some l,rfl,hT.j,hen,hg,fun D H' s' hD gD=>q D _ s' hD gD⟩
theorem scWa:FnScope NWa ["self", "lane"] (defScope sWanted):=⟨rfl,rfl,rfl,by decide +kernel,rfl,by decide +kernel,by decide +kernel⟩
theorem bkWa:Blk NWa (defScope sWanted) (ifRetL ((defBody sWanted).getD 3 (.Pass ⟨0,0,0,0⟩))) ["letter"] [3]:=⟨rfl,by decide +kernel,by decide +kernel,by decide +kernel,rfl,by decide +kernel⟩
theorem ndWa:(["way", "letter"]:List Str).Nodup:=by decide +kernel
theorem ok_wanted {c:Cs} {ys:Ys} {J:TJ} {TC f fw ff fo:Addr} {fd dw df d_o:FuncData} (F:Fun K "wanted" "Yard.wanted" sWanted f fd) (Y:Yrd K ys) (W:Wy K TC fw dw J)
    (mf:Meth K ys.lane "front" ff) (bf:Binds K df ["self"] []) (Gf:FnOk P w K mg base CX0 1 ff df ["self"] (spFront ys.lane))
    (mo:mg "onward" = some (.ref fo)) (ko:PySem.W.keepIn K (.ref fo)=true) (bo:Binds K d_o ["table", "lane", "goal"] []) (Go:FnOk P w K mg base CX0 4 fo d_o ["table", "lane", "goal"] (spOnA c TC J)) :
    FnOk P w K mg base CX0 5 f fd ["self", "lane"] (spWanted K c TC J ys):=by
  refine F.ok scWa (fun vs H Q E h=>?_) (fun cdv A outer s H vs Q E hr h=>?_)
  · obtain ⟨a,s,k,rfl,_⟩:=h
    rfl
  · obtain ⟨a,st,k,rfl,hI,hk,q⟩:=h
    have hr1:Room 1 _:=hr.mono (by decide)
    refine ⟨_,pss_cons (ps_set (i:=2) scWa.nd rfl (Or.inl rfl) (pe_meth0 (pe_ix ix_list (pe_fld (pv 0) rfl) (pv 1) (fun _ _=>rfl)) Y.L.cl mf Gf hr1 bf .nil pass0))
      (pss_cons (ps_if (pt_cmpR op_isN (pv 2) pe_non (nomark _)) (pss_one (ps_ret (pe_lst pa_nil))) pss_nil)
      (pss_cons (ps_set (i:=3) scWa.nd rfl (Or.inr rfl) (pe_ix ix_list (pe_fld (pv 0) rfl) (pe_ix ix_tup (pv 2) pe_int (fun _ _=>rfl)) (fun _ _=>rfl)))
      (pss_cons (ps_if (pt_cmpR op_eq (pe_ix ix_tup (pv 2) pe_int (fun _ _=>rfl)) pe_int (nomark _))
        (pss_one (ps_ret (pe_comp (own:=["way"]) (capN:=["letter"]) (cap:=[3]) bkWa rfl (pi_list (pe_call Go hr rfl mo ko bo .nil pass0 (pa_cons (pe_fld (pv 0) rfl) (pa_cons (pv 1) (pa_cons (pe_fld (pv 3) rfl) pa_nil))))) (fun C s' H' fp=>⟨pg_name (i:=0) ndWa rfl (Or.inl rfl),pts_one (pt_cmpR (show OpR _ (compareOp .NotIn) (rIn K true) from op_notIn_seq) (pv 0) (show PE _ _ (tFld K (tVar 1) "way") from pe_fld (pv 1) rfl) (by with_unfolding_all rfl)),pv 0⟩)))) pss_nil)
      (pss_cons (ps_set (i:=4) scWa.nd rfl (Or.inl rfl) (pe_op op_add (pe_bm PySem.F.plainAttrs_list PySem.F.slot_list_index PySem.F.type_list_index mt_lindex (pe_fld (pv 3) rfl) (pa_cons (pv 1) pa_nil)) pe_int))
      (pss_one (ps_ret (pe_slice sl_list (pe_fld (pv 3) rfl) (po_some (pv 4)) (po_some (pe_op op_add (pv 4) pe_int))))))))),?_⟩
    have hY:=hI.Y
    obtain ⟨lvs,gla,pla⟩:=hY.hla
    obtain ⟨ln,hln⟩:∃ ln,st.lanes[k]? = some ln:=⟨_,List.getElem?_eq_getElem hk⟩
    obtain ⟨vl,hvl,xl,dxl,pal,pvl,rfl,hL,_⟩:=Paired.at2 pla hln
    refine ⟨_,rfl,a.y,ys.yard,a.dy,_,_,rfl,hY.ins,Y.cl,Y.n3,rfl,_,rfl,a.la,lvs,(k:Int),_,rfl,rfl,SqL.of gla,atI_nat hvl,xl,dxl,_,rfl,hL.ins,rfl,xl,dxl,pal,ln.r,ln.b,ln.h,pvl,ln.qs,rfl,hL,?_⟩
    unfold wantS frontQ at q
    rw [hln] at q
    dsimp only at q
    rcases front_of hL.pcs with ⟨hf,ef⟩ | ⟨pq,pt,hf,ef,hpt⟩
    · rw [hf] at q
      rw [ef]
      exact ⟨_,rfl,rfl,_,rfl,iteT ⟨Nat.zero_le _,fun D hD=>q D _ ((Same.refl H).new hD) hD upd_same⟩⟩
    rw [hf] at q
    rw [ef]
    have hqm:pq ∈ ln.qs:=List.mem_of_head? hf
    obtain ⟨m,t,em,hm,hkw⟩:=hI.G.pcs k ln hln pq hqm
    obtain ⟨x0,y0,e1,e2,hx0,hy0⟩:=hI.G.lets m t hm
    obtain ⟨hwl,hw9⟩:=hI.G.ways m t hm
    rw [em] at hpt
    dsimp only at q
    rw [em,Int.toNat_natCast,hm] at q
    dsimp only at q
    refine ⟨_,rfl,rfl,_,rfl,iteF ?_⟩
    obtain ⟨tvs,gle,pl⟩:=hY.hle
    obtain ⟨v,hv,x,dx,wa,rfl,hx,hw,_⟩:=Paired.at2 pl hm
    refine ⟨_,rfl,a.y,ys.yard,a.dy,_,_,rfl,hY.ins,Y.cl,Y.n4,rfl,_,rfl,pt,_,0,_,rfl,rfl,SqT.of hpt,atI_nat (j:=0) rfl,a.le,tvs,(m:Int),_,rfl,rfl,SqL.of gle,atI_nat hv,?_⟩
    refine ⟨_,rfl,pt,_,1,_,rfl,rfl,SqT.of hpt,atI_nat (j:=1) rfl,rfl,_,rfl,?_⟩
    rw [int_eq']
    by_cases h0:pq.2=0
    · rw [decide_eq_true h0]
      rw [if_pos h0,e2,Int.toNat_natCast] at q
      refine iteT ⟨_,rfl,a.y,ys.yard,a.dy,_,_,rfl,hY.ins,Y.cl,Y.n1,rfl,_,rfl,_,rfl,x,ys.letter,dx,_,_,rfl,hx,Y.ct,Y.t2,rfl,?_⟩
      rw [e2]
      refine ⟨a,k,y0,rfl,hI.T,hI.O,by rw [← hI.G.lanes]; exact hk,hy0,fun D H1 s1 hD gD=>⟨D,rfl,⟨_,SqL.of gD⟩,?_⟩⟩
      have hol:(onw a k y0).length ≤ 400:=by
        unfold onw
        by_cases z:(a.ps.getD k (0,0)).2=(y0:Int)
        · rw [if_pos z]; exact Nat.zero_le _
        · rw [if_neg z]; exact hI.O.few _ _ _
      refine comp_lst (fun v=>match v with | .int i=>!decide (i ∈ iz t.way) | _=>false) (fun v=>v) (by rw [nV_len,PySem.sizeLine_eq]; omega) (SqL.of gD) (fun y acc N hy h=>?_) (fun D2 hD2=>?_)
      · obtain ⟨u,hu,rfl⟩:=nV_mem hy
        refine ⟨_,rfl,_,rfl,x,ys.letter,dx,_,_,rfl,s1 _ _ hx,Y.ct,Y.t6,rfl,wa,_,rfl, .inl (SqL.of (s1 _ _ hw)),rfl,by rw [nV_iz]; exact flat_ints _,_,rfl,?_⟩
        rw [nV_iz,inV_int]
        have h:N (if (!decide ((u:Int) ∈ iz t.way))=true then acc ++ [V.int u] else acc) H1:=h
        cases hb:decide ((u:Int) ∈ iz t.way) with
        | true =>
          rw [hb] at h
          exact iteF h
        | false =>
          rw [hb] at h
          exact iteT ⟨_,rfl,h⟩
      · have e:((nV (onw a k y0)).filter (fun v=>match v with | .int i=>!decide (i ∈ iz t.way) | _=>false)).map (fun v=>v)=nV ((onw a k y0).filter fun l=>!decide (l ∈ t.way)):=by
          rw [List.map_id']
          unfold nV
          rw [List.filter_map]
          congr 1
          refine List.filter_congr fun u _=>?_
          show (!decide ((u:Int) ∈ iz t.way))=_
          rw [iz_dec]
        rw [e]
        exact q D2 _ (s1.new hD2) (s1.free hD2) upd_same
    · rw [decide_eq_false h0]
      rw [if_neg h0] at q
      refine iteF ⟨_,rfl,x,ys.letter,dx,_,_,rfl,hx,Y.ct,Y.t6,rfl, .inl ⟨rfl,_,SqL.of hw⟩,_,rfl,wa,iz t.way,(k:Int),rfl,rfl,by rw [← nV_iz]; exact hw,iz_mem.mpr ⟨k,hkw,rfl⟩,by unfold iz; rw [List.length_map]; omega,_,_,rfl,rfl,?_⟩
      rw [idx_iz]
      refine ⟨_,rfl,x,ys.letter,dx,_,_,rfl,hx,Y.ct,Y.t6,rfl,_,rfl,_,rfl,_,rfl,_,_,rfl,rfl,_,rfl,wa,_,rfl,SqL.of hw,fun D hD=>?_⟩
      have e:cutV (nV t.way) (some (((t.way.idxOf k:Nat):Int) + 1)) (some (((t.way.idxOf k:Nat):Int) + 1 + 1))=nV ((t.way.drop (t.way.idxOf k + 1)).take 1):=by
        have:=cut_mid t.way (t.way.idxOf k + 1)
        rw [← this]
        rfl
      dsimp only
      rw [e]
      exact q D _ ((Same.refl H).new hD) hD upd_same
theorem scMo:FnScope NMo ["self", "lane"] (defScope sMvOn):=⟨rfl,rfl,rfl,by decide +kernel,rfl,by decide +kernel,by decide +kernel⟩
theorem bkMo:Blk NMo (defScope sMvOn) (retC ((defBody sMvOn).getD 2 (.Pass ⟨0,0,0,0⟩))) ["self", "lane", "piece"] [0,1,2]:=⟨rfl,by decide +kernel,by decide +kernel,by decide +kernel,rfl,by decide +kernel⟩
theorem ndMo:(["other", "self", "lane", "piece"]:List Str).Nodup:=by decide +kernel
theorem ok_mvOn {c:Cs} {ys:Ys} {J:TJ} {TC f fw ff fa fo:Addr} {fd dw df da d_o:FuncData} (F:Fun K "moves_on" "Yard.moves_on" sMvOn f fd) (Y:Yrd K ys) (W:Wy K TC fw dw J)
    (mf:Meth K ys.lane "front" ff) (bf:Binds K df ["self"] []) (Gf:FnOk P w K mg base CX0 1 ff df ["self"] (spFront ys.lane))
    (ma:Meth K ys.yard "wanted" fa) (ba:Binds K da ["self", "lane"] []) (Ga:FnOk P w K mg base CX0 5 fa da ["self", "lane"] (spWanted K c TC J ys))
    (mo:Meth K ys.lane "open_to" fo) (bo:Binds K d_o ["self", "letter", "count"] []) (Go:FnOk P w K mg base CX0 1 fo d_o ["self", "letter", "count"] (spOpen ys.lane)) :
    FnOk P w K mg base CX0 6 f fd ["self", "lane"] (spMvOn K c TC J ys):=by
  refine F.ok scMo (fun vs H Q E h=>?_) (fun cdv A outer s H vs Q E hr h=>?_)
  · obtain ⟨a,s,k,rfl,_⟩:=h
    rfl
  · obtain ⟨a,st,k,rfl,hI,hk,q⟩:=h
    have hr1:Room 1 _:=hr.mono (by decide)
    refine ⟨_,pss_cons (ps_set (i:=2) scMo.nd rfl (Or.inr rfl) (pe_meth0 (pe_ix ix_list (pe_fld (pv 0) rfl) (pv 1) (fun _ _=>rfl)) Y.L.cl mf Gf hr1 bf .nil pass0))
      (pss_cons (ps_set (i:=3) scMo.nd rfl (Or.inl rfl) (pe_meth (pv 0) Y.cl ma Ga hr ba .nil pass0 (pa_cons (pv 1) pa_nil)))
      (pss_one (ps_ret (pe_comp (own:=["other"]) (capN:=["self", "lane", "piece"]) (cap:=[0,1,2]) bkMo rfl (pi_list (pv 3)) (fun C s' H' fp=>⟨pg_name (i:=0) ndMo rfl (Or.inl rfl),pts_one (pt_val (pe_meth (pe_ix (show IxR _ (rIxL K) from ix_list) (show PE _ _ (tFld K (tVar 1) "lanes") from pe_fld (pv 1) rfl) (pv 0) (fun _ _=>rfl)) Y.L.cl mo Go hr1 bo .nil pass0 (pa_cons (pe_ix (show IxR _ (rIxT K) from ix_tup) (pv 3) pe_int (fun _ _=>rfl)) (pa_cons (pe_ix (show IxR _ (rIxT K) from ix_tup) (pv 3) pe_int (fun _ _=>rfl)) pa_nil)))),pe_tup (pa_cons pe_str (pa_cons (pv 2) (pa_cons (pv 0) pa_nil)))⟩))))),?_⟩
    have hY:=hI.Y
    obtain ⟨lvs,gla,pla⟩:=hY.hla
    obtain ⟨ln,hln⟩:∃ ln,st.lanes[k]? = some ln:=⟨_,List.getElem?_eq_getElem hk⟩
    obtain ⟨vl,hvl,xl,dxl,pal,pvl,rfl,hL,_⟩:=Paired.at2 pla hln
    refine ⟨_,rfl,a.y,ys.yard,a.dy,_,_,rfl,hY.ins,Y.cl,Y.n3,rfl,_,rfl,a.la,lvs,(k:Int),_,rfl,rfl,SqL.of gla,atI_nat hvl,xl,dxl,_,rfl,hL.ins,rfl,xl,dxl,pal,ln.r,ln.b,ln.h,pvl,ln.qs,rfl,hL,?_⟩
    refine ⟨_,rfl,a.y,a.dy,_,rfl,hY.ins,rfl,_,rfl,a,st,k,rfl,hI,hk,fun D H1 s1 hD gD=>?_⟩
    refine ⟨_,rfl,D,rfl,⟨_,SqL.of gD⟩,?_⟩
    have hI1:=hI.same W s1
    have eF:frontQ st k=ln.qs.head?:=by unfold frontQ; rw [hln]
    have hin:∀ u ∈ wantS a st k,u < a.ps.length:=fun u hu=>by
      unfold wantS at hu
      rw [eF] at hu
      cases hq:ln.qs.head? with
      | none=>rw [hq] at hu; cases hu
      | some pq =>
        rw [hq] at hu
        obtain ⟨m,t,em,hm,hkw⟩:=hI.G.pcs k ln hln pq (List.mem_of_head? hq)
        obtain ⟨x0,y0,e1,e2,hx0,hy0⟩:=hI.G.lets m t hm
        dsimp only at hu
        rw [em,Int.toNat_natCast,hm] at hu
        dsimp only at hu
        by_cases h0:pq.2=0
        · rw [if_pos h0,e2,Int.toNat_natCast] at hu
          have hu:=(List.mem_filter.mp hu).1
          unfold onw at hu
          by_cases z:(a.ps.getD k (0,0)).2=(y0:Int)
          · rw [if_pos z] at hu; cases hu
          · rw [if_neg z] at hu
            have hkp:k < a.ps.length:=by rw [← hI.G.lanes]; exact hk
            obtain ⟨e,ee,hen⟩:=hI.O.ends k _ (List.getElem?_eq_getElem hkp)
            have heD:a.ps.getD k (0,0)=a.ps[k]:=by rw [List.getD_eq_getElem?_getD,List.getElem?_eq_getElem hkp]; rfl
            rw [heD,ee,Int.toNat_natCast] at hu
            exact hI.T.ok _ _ _ hen hy0 u hu
        · rw [if_neg h0] at hu
          exact (hI.G.ways m t hm).1 u (List.mem_of_mem_drop (List.mem_of_mem_take hu))
    have hwl:(wantS a st k).length ≤ 1000:=by
      unfold wantS
      cases frontQ st k with
      | none=>exact Nat.zero_le _
      | some pq =>
        dsimp only
        cases st.letters[pq.1.toNat]? with
        | none=>exact Nat.zero_le _
        | some t =>
          dsimp only
          by_cases h0:pq.2=0
          · rw [if_pos h0]
            refine Nat.le_trans (List.length_filter_le _ _) ?_
            unfold onw
            by_cases z:(a.ps.getD k (0,0)).2=((t.goal.toNat:Nat):Int)
            · rw [if_pos z]; exact Nat.zero_le _
            · rw [if_neg z]; exact Nat.le_trans (hI.O.few _ _ _) (by decide)
          · rw [if_neg h0,List.length_take]; omega
    unfold mvOn at q
    rw [eF] at q
    rcases front_of hL.pcs with ⟨hf,ef⟩ | ⟨pq,pt,hf,ef,hpt⟩
    · have e0:wantS a st k=[]:=by unfold wantS; rw [eF,hf]
      rw [hf] at q
      rw [e0] at gD
      refine comp_mv (fun l=>false) (Mv.on k) (by rw [PySem.sizeLine_eq]; decide) gD (fun u H2 acc N hu s2 hyes hno=>by cases hu) (fun D2 vs2 H2 s2 hD2 hp=>?_)
      exact q D2 vs2 _ ((s1.trans s2).new hD2) (s1.free (s2.free hD2)) upd_same (Paired.mono (fun _ _ z=>z.keep (Same.keepN ((Same.refl H2).new hD2))) hp)
    rw [hf] at q
    dsimp only at q
    rw [ef]
    refine comp_mv (fun l=>openL st l pq.1 pq.2) (Mv.on k) (by rw [PySem.sizeLine_eq]; omega) gD (fun u H2 acc N hu s2 hyes hno=>?_) (fun D2 vs2 H2 s2 hD2 hp=>?_)
    · have hI2:=hI1.same W s2
      obtain ⟨lvs2,gla2,pla2⟩:=hI2.Y.hla
      have hul:u < st.lanes.length:=by rw [hI.G.lanes]; exact hin u hu
      obtain ⟨ln',hln'⟩:∃ ln,st.lanes[u]? = some ln:=⟨_,List.getElem?_eq_getElem hul⟩
      obtain ⟨vu,hvu,xu,dxu,pau,pvu,rfl,hLu,_⟩:=Paired.at2 pla2 hln'
      have hpt2:=s2 _ _ (s1 _ _ hpt)
      refine ⟨_,rfl,a.y,ys.yard,a.dy,_,_,rfl,hI2.Y.ins,Y.cl,Y.n3,rfl,_,rfl,a.la,lvs2,(u:Int),_,rfl,rfl,SqL.of gla2,atI_nat hvu,xu,dxu,_,rfl,hLu.ins,rfl,_,rfl,pt,_,0,_,rfl,rfl,SqT.of hpt2,atI_nat (j:=0) rfl,_,rfl,pt,_,1,_,rfl,rfl,SqT.of hpt2,atI_nat (j:=1) rfl,xu,dxu,pau,ln'.r,ln'.b,ln'.h,pq.1,pq.2,rfl,hLu.ins,_,rfl,?_⟩
      have eo:openL st u pq.1 pq.2=openB ln'.r ln'.h pq.1 pq.2:=by unfold openL; rw [hln']
      cases ho:openB ln'.r ln'.h pq.1 pq.2 with
      | false=>exact iteF (hno (by rw [eo,ho]))
      | true=>exact iteT ⟨_,rfl,_,rfl,by show 3 ≤ sizeLine; decide,fun z hz=>hyes (by rw [eo,ho]) _ _ ((Same.refl H2).new hz) ⟨z,rfl,upd_same⟩⟩
    · exact q D2 vs2 _ ((s1.trans s2).new hD2) (s1.free (s2.free hD2)) upd_same (Paired.mono (fun _ _ z=>z.keep (Same.keepN ((Same.refl H2).new hD2))) hp)
theorem scMl:FnScope ["self", "lane", "piece"] ["self", "lane"] (defScope sMvLie):=⟨rfl,rfl,rfl,by decide +kernel,rfl,by decide +kernel,by decide +kernel⟩
theorem ok_mvLie {c:Cs} {ys:Ys} {J:TJ} {TC f fw ff fe:Addr} {fd dw df de:FuncData} (F:Fun K "moves_lie" "Yard.moves_lie" sMvLie f fd) (Y:Yrd K ys) (L:Lnd K c) (W:Wy K TC fw dw J)
    (mf:Meth K ys.lane "front" ff) (bf:Binds K df ["self"] []) (Gf:FnOk P w K mg base CX0 1 ff df ["self"] (spFront ys.lane)) (M:EndM K c fe de) (Ge:FnOk P w K mg base CX0 1 fe de ["self", "lane"] (spAt c Prod.snd)) :
    FnOk P w K mg base CX0 2 f fd ["self", "lane"] (spMvLie K c TC J ys):=by
  refine F.ok scMl (fun vs H Q E h=>?_) (fun cdv A outer s H vs Q E hr h=>?_)
  · obtain ⟨a,s,k,rfl,_⟩:=h
    rfl
  · obtain ⟨a,st,k,rfl,hI,hk,q⟩:=h
    refine ⟨_,pss_cons (ps_set (i:=2) scMl.nd rfl (Or.inl rfl) (pe_meth0 (pe_ix ix_list (pe_fld (pv 0) rfl) (pv 1) (fun _ _=>rfl)) Y.L.cl mf Gf hr bf .nil pass0))
      (pss_cons (ps_if (PW.pt (pw_or (pt_cmpR op_isN (pv 2) pe_non (nomark _)) (pw_or1 (pt_cmpR op_ne (pe_fld (pe_ix ix_list (pe_fld (pv 0) rfl) (pe_ix ix_tup (pv 2) pe_int (fun _ _=>rfl)) (fun _ _=>rfl)) rfl) (pe_meth (pe_fld (pe_fld (pv 0) rfl) rfl) L.cl M.m Ge hr M.b .nil pass0 (pa_cons (pv 1) pa_nil)) (nomark _))))) (pss_one (ps_ret (pe_lst pa_nil))) pss_nil)
      (pss_one (ps_ret (pe_lst (pa_cons (pe_tup (pa_cons pe_str (pa_cons (pv 1) pa_nil))) pa_nil))))),?_⟩
    have hY:=hI.Y
    obtain ⟨lvs,gla,pla⟩:=hY.hla
    obtain ⟨ln,hln⟩:∃ ln,st.lanes[k]? = some ln:=⟨_,List.getElem?_eq_getElem hk⟩
    obtain ⟨vl,hvl,xl,dxl,pal,pvl,rfl,hL,_⟩:=Paired.at2 pla hln
    refine ⟨_,rfl,a.y,ys.yard,a.dy,_,_,rfl,hY.ins,Y.cl,Y.n3,rfl,_,rfl,a.la,lvs,(k:Int),_,rfl,rfl,SqL.of gla,atI_nat hvl,xl,dxl,_,rfl,hL.ins,rfl,xl,dxl,pal,ln.r,ln.b,ln.h,pvl,ln.qs,rfl,hL,?_⟩
    have eF:frontQ st k=ln.qs.head?:=by unfold frontQ; rw [hln]
    unfold mvLie at q
    rw [eF] at q
    rcases front_of hL.pcs with ⟨hf,ef⟩ | ⟨pq,pt,hf,ef,hpt⟩
    · rw [hf] at q
      rw [ef]
      exact ⟨_,rfl,rfl,_,rfl,iteT (iteT ⟨Nat.zero_le _,fun D hD=>q D [] _ ((Same.refl H).new hD) hD upd_same .nil⟩)⟩
    rw [hf] at q
    rw [ef]
    obtain ⟨m,t,em,hm,hkw⟩:=hI.G.pcs k ln hln pq (List.mem_of_head? hf)
    rw [em] at hpt
    dsimp only at q
    rw [em,Int.toNat_natCast,hm] at q
    dsimp only at q
    obtain ⟨tvs,gle,pl⟩:=hY.hle
    obtain ⟨v,hv,x,dx,wa,rfl,hx,hw,_⟩:=Paired.at2 pl hm
    obtain ⟨dxt,fst,htb,hland,hways⟩:=hI.T.i
    have hkp:k < a.ps.length:=by rw [← hI.G.lanes]; exact hk
    have he:=List.getElem?_eq_getElem hkp
    have heD:a.ps.getD k (0,0)=a.ps[k]:=by rw [List.getD_eq_getElem?_getD,he]; rfl
    rw [heD] at q
    refine ⟨_,rfl,rfl,_,rfl,iteF ⟨_,rfl,a.y,ys.yard,a.dy,_,_,rfl,hY.ins,Y.cl,Y.n4,rfl,_,rfl,pt,_,0,_,rfl,rfl,SqT.of hpt,atI_nat (j:=0) rfl,a.le,tvs,(m:Int),_,rfl,rfl,SqL.of gle,atI_nat hv,x,ys.letter,dx,_,_,rfl,hx,Y.ct,Y.t2,rfl,_,rfl,a.y,ys.yard,a.dy,_,_,rfl,hY.ins,Y.cl,Y.n1,rfl,a.tb,TC,dxt,fst,_,rfl,htb,W.cl,W.nl,hland,a.lx,a.ldx,_,rfl,hI.T.l.1,rfl,_,rfl,a.lx,a.ldx,a.lt,(a.n:Int),a.tvs,a.ps,k,_,rfl,hI.T.l,he,rfl,_,rfl,?_⟩⟩
    rw [int_eq']
    by_cases hg:t.goal=a.ps[k].2
    · rw [decide_eq_true hg]
      rw [if_pos hg] at q
      refine iteF ⟨_,rfl,by show 2 ≤ sizeLine; decide,fun z hz=>⟨by show 1 ≤ sizeLine; decide,fun D hD=>?_⟩⟩
      have s2:=(Same.refl H).new (o := .tup [.str "lie", .int k]) hz
      have gz:(upd H z (.tup [.str "lie", .int k])) z=some (.tup [.str "lie", .int k]):=upd_same
      exact q D [.ref z] _ (s2.new hD) (s2.free hD) upd_same (.cons ⟨z,rfl,by rw [upd_ne (ne_of_none gz hD)]; exact gz⟩ .nil)
    · rw [decide_eq_false hg]
      rw [if_neg hg] at q
      exact iteT ⟨Nat.zero_le _,fun D hD=>q D [] _ ((Same.refl H).new hD) hD upd_same .nil⟩
theorem scMb:FnScope ["self", "lane"] ["self", "lane"] (defScope sMvBack):=⟨rfl,rfl,rfl,by decide +kernel,rfl,by decide +kernel,by decide +kernel⟩
theorem ok_mvBack {c:Cs} {ys:Ys} {J:TJ} {TC f:Addr} {fd:FuncData} (F:Fun K "moves_back" "Yard.moves_back" sMvBack f fd) (Y:Yrd K ys):FnOk P w K mg base CX0 1 f fd ["self", "lane"] (spMvBack K c TC J ys):=by
  refine F.ok scMb (fun vs H Q E h=>?_) (fun cdv A outer s H vs Q E hr h=>?_)
  · obtain ⟨a,s,k,rfl,_⟩:=h
    rfl
  · obtain ⟨a,st,k,rfl,hI,hk,q⟩:=h
    refine ⟨_,pss_one (ps_ret (pe_ifExp (pt_cmpR op_gt (pe_fld (pe_ix ix_list (pe_fld (pv 0) rfl) (pv 1) (fun _ _=>rfl)) rfl) pe_int (nomark _)) (pe_lst (pa_cons (pe_tup (pa_cons pe_str (pa_cons (pv 1) pa_nil))) pa_nil)) (pe_lst pa_nil))),?_⟩
    have hY:=hI.Y
    obtain ⟨lvs,gla,pla⟩:=hY.hla
    obtain ⟨ln,hln⟩:∃ ln,st.lanes[k]? = some ln:=⟨_,List.getElem?_eq_getElem hk⟩
    obtain ⟨vl,hvl,xl,dxl,pal,pvl,rfl,hL,_⟩:=Paired.at2 pla hln
    unfold mvBack at q
    dsimp only at q
    rw [hln] at q
    dsimp only at q
    refine ⟨_,rfl,a.y,ys.yard,a.dy,_,_,rfl,hY.ins,Y.cl,Y.n3,rfl,_,rfl,a.la,lvs,(k:Int),_,rfl,rfl,SqL.of gla,atI_nat hvl,xl,ys.lane,dxl,_,_,rfl,hL.ins,Y.L.cl,Y.L.n2,rfl,_,_,rfl,rfl,_,rfl,?_⟩
    by_cases hb:0 < ln.b
    · rw [decide_eq_true hb]
      rw [if_pos hb] at q
      refine iteT ⟨_,rfl,by show 2 ≤ sizeLine; decide,fun z hz=>⟨by show 1 ≤ sizeLine; decide,fun D hD=>?_⟩⟩
      have s2:=(Same.refl H).new (o := .tup [.str "back", .int k]) hz
      have gz:(upd H z (.tup [.str "back", .int k])) z=some (.tup [.str "back", .int k]):=upd_same
      exact q D [.ref z] _ (s2.new hD) (s2.free hD) upd_same (.cons ⟨z,rfl,by rw [upd_ne (ne_of_none gz hD)]; exact gz⟩ .nil)
    · rw [decide_eq_false hb]
      rw [if_neg hb] at q
      exact iteF ⟨Nat.zero_le _,fun D hD=>q D [] _ ((Same.refl H).new hD) hD upd_same .nil⟩
end
end K66
namespace K66
open PySem L2
theorem lst_keep {H:Hp} {F:Addr} {xs:List V} {o:HO} (h:H F=some (.lst xs)):KeepN H (upd H F o):=fun b u e n=>by
  have nb:b ≠ F:=fun z=>by rw [z,h] at e; cases e; exact n
  rw [upd_ne nb]; exact e
theorem flat_succ {α:Type} (f:Nat→List α) (i:Nat):(List.range (i + 1)).flatMap f=(List.range i).flatMap f ++ f i:=by
  rw [List.range_succ,List.flatMap_append]; simp
theorem flat_len {α:Type} {f:Nat→List α} (h:∀ i,(f i).length ≤ 1000):∀ i,((List.range i).flatMap f).length ≤ 1000 * i
  | 0=>by simp
  | i + 1=>by rw [flat_succ,List.length_append]; have:=flat_len h i; have:=h i; omega
theorem mvIn_len {a:YA} {s:YS} (O:TOk a) (G:YOk a s) (k:Nat):(mvIn a s k).length ≤ 1000:=by
  unfold mvIn
  cases ht:s.letters[k]? with
  | none=>exact Nat.zero_le _
  | some t =>
    dsimp only
    by_cases hg:t.gone=t.len
    · rw [if_pos hg]; exact Nat.zero_le _
    rw [if_neg hg,List.length_map]
    refine Nat.le_trans (List.length_filter_le _ _) ?_
    unfold firstL
    by_cases h0:t.gone=0
    · rw [if_pos h0]; exact Nat.le_trans (O.few _ _ _) (by decide)
    · rw [if_neg h0,List.length_take]; omega
theorem mvOn_len {a:YA} {s:YS} (O:TOk a) (k:Nat):(mvOn a s k).length ≤ 1000:=by
  unfold mvOn
  cases hq:frontQ s k with
  | none=>exact Nat.zero_le _
  | some pq =>
    dsimp only
    rw [List.length_map]
    refine Nat.le_trans (List.length_filter_le _ _) ?_
    unfold wantS
    rw [hq]
    dsimp only
    cases s.letters[pq.1.toNat]? with
    | none=>exact Nat.zero_le _
    | some t =>
      dsimp only
      by_cases h0:pq.2=0
      · rw [if_pos h0]
        refine Nat.le_trans (List.length_filter_le _ _) ?_
        unfold onw
        by_cases z:(a.ps.getD k (0,0)).2=((t.goal.toNat:Nat):Int)
        · rw [if_pos z]; exact Nat.zero_le _
        · rw [if_neg z]; exact Nat.le_trans (O.few _ _ _) (by decide)
      · rw [if_neg h0,List.length_take]; omega
theorem mvLie_len (a:YA) (s:YS) (k:Nat):(mvLie a s k).length ≤ 1000:=by
  unfold mvLie
  cases frontQ s k with
  | none=>exact Nat.zero_le _
  | some pq =>
    dsimp only
    cases s.letters[pq.1.toNat]? with
    | none=>exact Nat.zero_le _
    | some t =>
      dsimp only
      by_cases h0:t.goal=(a.ps.getD k (0,0)).2
      · rw [if_pos h0]; show 1 ≤ 1000; decide
      · rw [if_neg h0]; exact Nat.zero_le _
theorem mvBack_len (s:YS) (k:Nat):(mvBack s k).length ≤ 1000:=by
  unfold mvBack
  cases s.lanes[k]? with
  | none=>exact Nat.zero_le _
  | some ln =>
    dsimp only
    by_cases h0:0 < ln.b
    · rw [if_pos h0]; show 1 ≤ 1000; decide
    · rw [if_neg h0]; exact Nat.zero_le _
def movesS (a:YA) (s:YS):List Mv:=(List.range s.letters.length).flatMap (mvIn a s) ++ (List.range s.lanes.length).flatMap (mvOn a s) ++ (List.range s.lanes.length).flatMap (mvLie a s) ++ (List.range s.lanes.length).flatMap (mvBack s)
def spMoves (K:PySem.W.Frag) (c:Cs) (TC:Addr) (J:TJ) (ys:Ys):Sp:=fun vs H Q _=>∃ (a:YA) (s:YS),vs=[.ref a.y]∧YIn K c TC J ys H a s ∧
  ∀ (D:Addr) (mvs:List V) (H':Hp),Same H H'→H D=none→H' D=some (.lst mvs)→Paired (MvV H') mvs ((movesS a s).map mvV)→Q (.ref D) H'
theorem Paired.app {α β:Type} {R:α→β→Prop} {cs:List α} {ds:List β} (h:Paired R cs ds):∀ {as:List α} {bs:List β},Paired R as bs→Paired R (as ++ cs) (bs ++ ds)
  | _,_, .nil=>h
  | _,_, .cons x r => .cons x (Paired.app h r)
theorem mv_push {H H2 H3:Hp} {F:Addr} {vs mvs:List V} {xs ys:List Mv} (nF:H F=none) (s2:Same H H2) (g2:H2 F=some (.lst vs)) (p2:Paired (MvV H2) vs (xs.map mvV)) (s3:Same H2 H3) (p3:Paired (MvV H3) mvs (ys.map mvV)) :
    Same H (upd H3 F (.lst (vs ++ mvs)))∧(upd H3 F (.lst (vs ++ mvs))) F=some (.lst (vs ++ mvs))∧Paired (MvV (upd H3 F (.lst (vs ++ mvs)))) (vs ++ mvs) ((xs ++ ys).map mvV):=by
  refine ⟨fun b o e=>by rw [upd_ne (ne_of_none e nF)]; exact s3 _ _ (s2 _ _ e),upd_same,?_⟩
  have kk:KeepN H3 (upd H3 F (.lst (vs ++ mvs))):=lst_keep (s3 _ _ g2)
  rw [List.map_append]
  have q2:=Paired.mono (fun _ _ z=>z.keep (KeepN.trans (Same.keepN s3) kk)) p2
  have q3:=Paired.mono (fun _ _ z=>z.keep kk) p3
  exact Paired.app q3 q2
section
variable {P:Program} {w:World} {K:PySem.W.Frag} {mg:Str→Option Value} {base:Heap}
abbrev NMs:List Str:=["self", "found", "number", "lane"]
theorem scMs:FnScope NMs ["self"] (defScope sMoves):=⟨rfl,rfl,rfl,by decide +kernel,rfl,by decide +kernel,by decide +kernel⟩
structure MvM (P:Program) (w:World) (K:PySem.W.Frag) (mg:Str→Option Value) (base:Heap) (c:Cs) (TC:Addr) (J:TJ) (ys:Ys) (fi fo fl fb:Addr) (di d_o dl db:FuncData):Prop where
  mi:Meth K ys.yard "moves_in" fi
  bi:Binds K di ["self", "number"] []
  Gi:FnOk P w K mg base CX0 4 fi di ["self", "number"] (spMvIn K c TC J ys)
  mo:Meth K ys.yard "moves_on" fo
  bo:Binds K d_o ["self", "lane"] []
  Go:FnOk P w K mg base CX0 6 fo d_o ["self", "lane"] (spMvOn K c TC J ys)
  ml:Meth K ys.yard "moves_lie" fl
  bl:Binds K dl ["self", "lane"] []
  Gl:FnOk P w K mg base CX0 2 fl dl ["self", "lane"] (spMvLie K c TC J ys)
  mb:Meth K ys.yard "moves_back" fb
  bb:Binds K db ["self", "lane"] []
  Gb:FnOk P w K mg base CX0 1 fb db ["self", "lane"] (spMvBack K c TC J ys)
theorem ok_moves {c:Cs} {ys:Ys} {J:TJ} {TC f fw fi fo fl fb:Addr} {fd dw di d_o dl db:FuncData} (F:Fun K "moves" "Yard.moves" sMoves f fd) (T:Txt mg) (Y:Yrd K ys) (W:Wy K TC fw dw J) (M:MvM P w K mg base c TC J ys fi fo fl fb di d_o dl db) :
    FnOk P w K mg base CX0 7 f fd ["self"] (spMoves K c TC J ys):=by
  refine F.ok scMs (fun vs H Q E h=>?_) (fun cdv A outer s H vs Q E hr h=>?_)
  · obtain ⟨a,s,rfl,_⟩:=h
    rfl
  · obtain ⟨a,st,rfl,hI,q⟩:=h
    have hr1:Room 1 _:=hr.mono (by decide)
    have hr2:Room 2 _:=hr.mono (by decide)
    have hr4:Room 4 _:=hr.mono (by decide)
    refine ⟨_,pss_cons (ps_set (i:=1) scMs.nd rfl (Or.inl rfl) (pe_lst pa_nil))
      (pss_cons (ps_for PassesOwn.never rfl (pi_range1 rfl T.range (pa_cons (pe_callB call_len_seq rfl T.len PySem.boot_len (pa_cons (pe_fld (pv 0) rfl) pa_nil)) pa_nil)) (pg_name (i:=2) scMs.nd rfl (Or.inl rfl)) (pss_one (ps_expr (pe_bm PySem.F.plainAttrs_list PySem.F.slot_list_extend PySem.F.type_list_extend mt_extend (pv 1) (pa_cons (pe_meth (pv 0) Y.cl M.mi M.Gi hr4 M.bi .nil pass0 (pa_cons (pv 2) pa_nil)) pa_nil)))))
      (pss_cons (ps_for PassesOwn.never rfl (pi_range1 rfl T.range (pa_cons (pe_callB call_len_seq rfl T.len PySem.boot_len (pa_cons (pe_fld (pv 0) rfl) pa_nil)) pa_nil)) (pg_name (i:=3) scMs.nd rfl (Or.inl rfl)) (pss_one (ps_expr (pe_bm PySem.F.plainAttrs_list PySem.F.slot_list_extend PySem.F.type_list_extend mt_extend (pv 1) (pa_cons (pe_meth (pv 0) Y.cl M.mo M.Go hr M.bo .nil pass0 (pa_cons (pv 3) pa_nil)) pa_nil)))))
      (pss_cons (ps_for PassesOwn.never rfl (pi_range1 rfl T.range (pa_cons (pe_callB call_len_seq rfl T.len PySem.boot_len (pa_cons (pe_fld (pv 0) rfl) pa_nil)) pa_nil)) (pg_name (i:=3) scMs.nd rfl (Or.inl rfl)) (pss_one (ps_expr (pe_bm PySem.F.plainAttrs_list PySem.F.slot_list_extend PySem.F.type_list_extend mt_extend (pv 1) (pa_cons (pe_meth (pv 0) Y.cl M.ml M.Gl hr2 M.bl .nil pass0 (pa_cons (pv 3) pa_nil)) pa_nil)))))
      (pss_cons (ps_for PassesOwn.never rfl (pi_range1 rfl T.range (pa_cons (pe_callB call_len_seq rfl T.len PySem.boot_len (pa_cons (pe_fld (pv 0) rfl) pa_nil)) pa_nil)) (pg_name (i:=3) scMs.nd rfl (Or.inl rfl)) (pss_one (ps_expr (pe_bm PySem.F.plainAttrs_list PySem.F.slot_list_extend PySem.F.type_list_extend mt_extend (pv 1) (pa_cons (pe_meth (pv 0) Y.cl M.mb M.Gb hr1 M.bb .nil pass0 (pa_cons (pv 3) pa_nil)) pa_nil)))))
      (pss_one (ps_ret (pv 1))))))),?_⟩
    have hlet:=hI.G.few
    have hlan:st.lanes.length ≤ 40:=by rw [hI.G.lanes]; exact hI.T.few
    refine ⟨Nat.zero_le _,fun Fd hFd=>?_⟩
    have s0:=(Same.refl H).new (o := .lst []) hFd
    have g0:(upd H Fd (.lst [])) Fd=some (.lst []):=upd_same
    show gName 1 (V.ref Fd) _ _ _
    generalize upd H Fd (.lst [])=H0 at s0 g0 ⊢
    have inv0:∃ vs,Same H H0∧H0 Fd=some (.lst vs)∧Paired (MvV H0) vs (([]:List Mv).map mvV):=⟨[],s0,g0, .nil⟩
    obtain ⟨vs0,s0',g0',p0'⟩:=inv0
    have hY0:=(hI.same W s0').Y
    obtain ⟨tv0,gl0,pl0⟩:=hY0.hle
    have hll0:tv0.length=st.letters.length:=Paired.length pl0
    refine ⟨_,rfl,a.y,ys.yard,a.dy,_,_,rfl,hY0.ins,Y.cl,Y.n4,rfl,a.le,_,rfl, .inl (SqL.of gl0),((tv0.length:Nat):Int),rfl,by omega,by omega,?_⟩
    rw [Int.toNat_natCast,hll0]
    refine for_range (n:=st.letters.length) (fun i σ H2=>∃ a2 a3:Option V,(∃ vs,Same H H2∧H2 Fd=some (.lst vs)∧Paired (MvV H2) vs (((List.range i).flatMap (mvIn a st)).map mvV))∧σ=[some (.ref a.y),some (.ref Fd),a2,a3]) ?_ ?_ ?_
    · exact ⟨_,_,⟨vs0,s0',g0',by simpa using p0'⟩,rfl⟩
    · rintro i σ H2 hi ⟨a2,a3,⟨vs,s2,g2,p2⟩,rfl⟩
      rw [Int.zero_add]
      have hI2:=hI.same W s2
      refine ⟨_,rfl, .inl ⟨rfl,_,SqL.of g2⟩,_,rfl,a.y,a.dy,_,rfl,hI2.Y.ins,rfl,_,rfl,a,st,i,rfl,hI2,hi,fun D mvs H3 s3 hD gD hp=>?_⟩
      have l1:vs.length ≤ 1000000:=by
        rw [Paired.length p2,List.length_map]
        have h0:=flat_len (mvIn_len hI.O hI.G) st.letters.length
        have h1:=flat_len (mvOn_len (s:=st) hI.O) st.lanes.length
        have h2:=flat_len (mvLie_len a st) st.lanes.length
        have hh:=flat_len (mvIn_len hI.O hI.G) i
        try simp only [List.length_append]
        omega
      have l2:mvs.length ≤ 1000:=by rw [Paired.length hp,List.length_map]; exact (mvIn_len hI.O hI.G) i
      obtain ⟨q1,q2,q3⟩:=mv_push hFd s2 g2 p2 s3 hp
      refine ⟨Fd,D,vs,mvs,rfl,rfl,s3 _ _ g2,gD,by rw [PySem.sizeLine_eq]; omega,?_⟩
      refine ⟨_,_,⟨vs ++ mvs,q1,q2,?_⟩,rfl⟩
      rw [flat_succ]
      exact q3
    rintro σ0 H1 ⟨a20,a30,inv1,rfl⟩
    obtain ⟨vs1,s1',g1',p1'⟩:=inv1
    have hY1:=(hI.same W s1').Y
    obtain ⟨tv1,gl1,pl1⟩:=hY1.hla
    have hll1:tv1.length=st.lanes.length:=Paired.length pl1
    refine ⟨_,rfl,a.y,ys.yard,a.dy,_,_,rfl,hY1.ins,Y.cl,Y.n3,rfl,a.la,_,rfl, .inl (SqL.of gl1),((tv1.length:Nat):Int),rfl,by omega,by omega,?_⟩
    rw [Int.toNat_natCast,hll1]
    refine for_range (n:=st.lanes.length) (fun i σ H2=>∃ a2 a3:Option V,(∃ vs,Same H H2∧H2 Fd=some (.lst vs)∧Paired (MvV H2) vs ((((List.range st.letters.length).flatMap (mvIn a st)) ++ (List.range i).flatMap (mvOn a st)).map mvV))∧σ=[some (.ref a.y),some (.ref Fd),a2,a3]) ?_ ?_ ?_
    · exact ⟨_,_,⟨vs1,s1',g1',by simpa using p1'⟩,rfl⟩
    · rintro i σ H2 hi ⟨a2,a3,⟨vs,s2,g2,p2⟩,rfl⟩
      rw [Int.zero_add]
      have hI2:=hI.same W s2
      refine ⟨_,rfl, .inl ⟨rfl,_,SqL.of g2⟩,_,rfl,a.y,a.dy,_,rfl,hI2.Y.ins,rfl,_,rfl,a,st,i,rfl,hI2,hi,fun D mvs H3 s3 hD gD hp=>?_⟩
      have l1:vs.length ≤ 1000000:=by
        rw [Paired.length p2,List.length_map]
        have h0:=flat_len (mvIn_len hI.O hI.G) st.letters.length
        have h1:=flat_len (mvOn_len (s:=st) hI.O) st.lanes.length
        have h2:=flat_len (mvLie_len a st) st.lanes.length
        have hh:=flat_len (mvOn_len (s:=st) hI.O) i
        try simp only [List.length_append]
        omega
      have l2:mvs.length ≤ 1000:=by rw [Paired.length hp,List.length_map]; exact (mvOn_len (s:=st) hI.O) i
      obtain ⟨q1,q2,q3⟩:=mv_push hFd s2 g2 p2 s3 hp
      refine ⟨Fd,D,vs,mvs,rfl,rfl,s3 _ _ g2,gD,by rw [PySem.sizeLine_eq]; omega,?_⟩
      refine ⟨_,_,⟨vs ++ mvs,q1,q2,?_⟩,rfl⟩
      rw [flat_succ]
      rw [← List.append_assoc]; exact q3
    rintro σ1 H2 ⟨a21,a31,inv2,rfl⟩
    obtain ⟨vs2,s2',g2',p2'⟩:=inv2
    have hY2:=(hI.same W s2').Y
    obtain ⟨tv2,gl2,pl2⟩:=hY2.hla
    have hll2:tv2.length=st.lanes.length:=Paired.length pl2
    refine ⟨_,rfl,a.y,ys.yard,a.dy,_,_,rfl,hY2.ins,Y.cl,Y.n3,rfl,a.la,_,rfl, .inl (SqL.of gl2),((tv2.length:Nat):Int),rfl,by omega,by omega,?_⟩
    rw [Int.toNat_natCast,hll2]
    refine for_range (n:=st.lanes.length) (fun i σ H2=>∃ a2 a3:Option V,(∃ vs,Same H H2∧H2 Fd=some (.lst vs)∧Paired (MvV H2) vs ((((List.range st.letters.length).flatMap (mvIn a st) ++ (List.range st.lanes.length).flatMap (mvOn a st)) ++ (List.range i).flatMap (mvLie a st)).map mvV))∧σ=[some (.ref a.y),some (.ref Fd),a2,a3]) ?_ ?_ ?_
    · exact ⟨_,_,⟨vs2,s2',g2',by simpa using p2'⟩,rfl⟩
    · rintro i σ H2 hi ⟨a2,a3,⟨vs,s2,g2,p2⟩,rfl⟩
      rw [Int.zero_add]
      have hI2:=hI.same W s2
      refine ⟨_,rfl, .inl ⟨rfl,_,SqL.of g2⟩,_,rfl,a.y,a.dy,_,rfl,hI2.Y.ins,rfl,_,rfl,a,st,i,rfl,hI2,hi,fun D mvs H3 s3 hD gD hp=>?_⟩
      have l1:vs.length ≤ 1000000:=by
        rw [Paired.length p2,List.length_map]
        have h0:=flat_len (mvIn_len hI.O hI.G) st.letters.length
        have h1:=flat_len (mvOn_len (s:=st) hI.O) st.lanes.length
        have h2:=flat_len (mvLie_len a st) st.lanes.length
        have hh:=flat_len (mvLie_len a st) i
        try simp only [List.length_append]
        omega
      have l2:mvs.length ≤ 1000:=by rw [Paired.length hp,List.length_map]; exact (mvLie_len a st) i
      obtain ⟨q1,q2,q3⟩:=mv_push hFd s2 g2 p2 s3 hp
      refine ⟨Fd,D,vs,mvs,rfl,rfl,s3 _ _ g2,gD,by rw [PySem.sizeLine_eq]; omega,?_⟩
      refine ⟨_,_,⟨vs ++ mvs,q1,q2,?_⟩,rfl⟩
      rw [flat_succ]
      rw [← List.append_assoc]; exact q3
    rintro σ2 H3 ⟨a22,a32,inv3,rfl⟩
    obtain ⟨vs3,s3',g3',p3'⟩:=inv3
    have hY3:=(hI.same W s3').Y
    obtain ⟨tv3,gl3,pl3⟩:=hY3.hla
    have hll3:tv3.length=st.lanes.length:=Paired.length pl3
    refine ⟨_,rfl,a.y,ys.yard,a.dy,_,_,rfl,hY3.ins,Y.cl,Y.n3,rfl,a.la,_,rfl, .inl (SqL.of gl3),((tv3.length:Nat):Int),rfl,by omega,by omega,?_⟩
    rw [Int.toNat_natCast,hll3]
    refine for_range (n:=st.lanes.length) (fun i σ H2=>∃ a2 a3:Option V,(∃ vs,Same H H2∧H2 Fd=some (.lst vs)∧Paired (MvV H2) vs ((((List.range st.letters.length).flatMap (mvIn a st) ++ (List.range st.lanes.length).flatMap (mvOn a st) ++ (List.range st.lanes.length).flatMap (mvLie a st)) ++ (List.range i).flatMap (mvBack st)).map mvV))∧σ=[some (.ref a.y),some (.ref Fd),a2,a3]) ?_ ?_ ?_
    · exact ⟨_,_,⟨vs3,s3',g3',by simpa using p3'⟩,rfl⟩
    · rintro i σ H2 hi ⟨a2,a3,⟨vs,s2,g2,p2⟩,rfl⟩
      rw [Int.zero_add]
      have hI2:=hI.same W s2
      refine ⟨_,rfl, .inl ⟨rfl,_,SqL.of g2⟩,_,rfl,a.y,a.dy,_,rfl,hI2.Y.ins,rfl,_,rfl,a,st,i,rfl,hI2,hi,fun D mvs H3 s3 hD gD hp=>?_⟩
      have l1:vs.length ≤ 1000000:=by
        rw [Paired.length p2,List.length_map]
        have h0:=flat_len (mvIn_len hI.O hI.G) st.letters.length
        have h1:=flat_len (mvOn_len (s:=st) hI.O) st.lanes.length
        have h2:=flat_len (mvLie_len a st) st.lanes.length
        have hh:=flat_len (mvBack_len st) i
        try simp only [List.length_append]
        omega
      have l2:mvs.length ≤ 1000:=by rw [Paired.length hp,List.length_map]; exact (mvBack_len st) i
      obtain ⟨q1,q2,q3⟩:=mv_push hFd s2 g2 p2 s3 hp
      refine ⟨Fd,D,vs,mvs,rfl,rfl,s3 _ _ g2,gD,by rw [PySem.sizeLine_eq]; omega,?_⟩
      refine ⟨_,_,⟨vs ++ mvs,q1,q2,?_⟩,rfl⟩
      rw [flat_succ]
      rw [← List.append_assoc]; exact q3
    rintro σ3 H4 ⟨a23,a33,inv4,rfl⟩
    obtain ⟨vs,s2,g2,p2⟩:=inv4
    exact ⟨_,rfl,q Fd vs _ s2 hFd g2 p2⟩
end
end K66
namespace K66
open PySem L2
structure KStr (K:PySem.W.Frag):Prop where
  ss:PySem.W.kitOne K (.type "str") (.type "str")=some true
  ns:PySem.W.kitOne K (.type "int") (.type "str")=some false
  tt:PySem.W.kitOne K (.type "tuple") (.type "tuple")=some true
theorem sdec {a b:Str} (h:a ≠ b):decide (V.str a=V.str b)=false:=decide_eq_false fun z=>h (by injection z)
theorem sdecT (a:Str):decide (V.str a=V.str a)=true:=decide_eq_true rfl
def spIsMv:Sp:=fun vs H Q _=>∃ (p:Addr) (xs:List V),vs=[.ref p]∧H p=some (.tup xs)∧xs.length ≤ 100∧(∀ x ∈ xs,(∃ t,x = .str t)∨∃ i,x = .int i)∧∀ H',Same H H'→Q (.bl true) H'
def andAllC (s:Stmt):Scope:=match s with
  | .Return (some (.BoolOp _ [_, .Call _ [.ListComp _ _ sc _] _ _] _)) _=>sc
  | _=>{ kind := .function,names:=[],isGenerator:=false,isCoroutine:=false }
theorem mvV_kind (m:Mv):(mvV m).length ≤ 100∧∀ x ∈ mvV m,(∃ t,x=V.str t)∨∃ i,x=V.int i:=by
  cases m <;> refine ⟨by simp [mvV],fun x hx=>?_⟩ <;> simp only [mvV,List.mem_cons,List.not_mem_nil,or_false] at hx
  · rcases hx with rfl | rfl | rfl
    · exact .inl ⟨_,rfl⟩
    · exact .inr ⟨_,rfl⟩
    · exact .inr ⟨_,rfl⟩
  · rcases hx with rfl | rfl | rfl
    · exact .inl ⟨_,rfl⟩
    · exact .inr ⟨_,rfl⟩
    · exact .inr ⟨_,rfl⟩
  · rcases hx with rfl | rfl
    · exact .inl ⟨_,rfl⟩
    · exact .inr ⟨_,rfl⟩
  · rcases hx with rfl | rfl
    · exact .inl ⟨_,rfl⟩
    · exact .inr ⟨_,rfl⟩
def likeS (a:YA) (s:YS):Mv→List Mv
  | .inn k _=>mvIn a s k
  | .on k _=>mvOn a s k
  | .lie k=>mvLie a s k
  | .back k=>mvBack s k
def idxOk (s:YS):Mv→Prop
  | .inn k _=>k < s.letters.length
  | .on k _=>k < s.lanes.length
  | .lie k=>k < s.lanes.length
  | .back k=>k < s.lanes.length
def spLike (K:PySem.W.Frag) (c:Cs) (TC:Addr) (J:TJ) (ys:Ys):Sp:=fun vs H Q _=>∃ (a:YA) (s:YS) (p:Addr) (m:Mv),vs=[.ref a.y, .ref p]∧YIn K c TC J ys H a s∧H p=some (.tup (mvV m))∧idxOk s m ∧
  ∀ (D:Addr) (mvs:List V) (H':Hp),Same H H'→H D=none→H' D=some (.lst mvs)→Paired (MvV H') mvs ((likeS a s m).map mvV)→Q (.ref D) H'
section
variable {P:Program} {w:World} {K:PySem.W.Frag} {mg:Str→Option Value} {base:Heap}
theorem scIm:FnScope ["move"] ["move"] (defScope sIsMv):=⟨rfl,rfl,rfl,by decide +kernel,rfl,by decide +kernel,by decide +kernel⟩
theorem bkIm:Blk ["move"] (defScope sIsMv) (andAllC ((defBody sIsMv).getD 0 (.Pass ⟨0,0,0,0⟩))) [] []:=⟨rfl,by decide +kernel,by decide +kernel,by decide +kernel,rfl,by decide +kernel⟩
theorem ndIm:(["thing"]:List Str).Nodup:=by decide +kernel
theorem ok_isMv {f fh:Addr} {fd dh:FuncData} (F:Fun K "is_move" "is_move" sIsMv f fd) (T:Txt mg) (Z:KStr K) (mh:mg "is_whole" = some (.ref fh)) (kh:PySem.W.keepIn K (.ref fh)=true) (bh:Binds K dh ["value"] []) (G:FnOk P w K mg base CX0 1 fh dh ["value"] spWholeV) :
    FnOk P w K mg base CX0 2 f fd ["move"] spIsMv:=by
  refine F.ok scIm (fun vs H Q E h=>?_) (fun cdv A outer s H vs Q E hr h=>?_)
  · obtain ⟨p,xs,rfl,_⟩:=h
    rfl
  · obtain ⟨p,xs,rfl,hp,hl,hx,q⟩:=h
    refine ⟨_,pss_one (ps_ret (pe_and (pe_callB call_isV rfl T.isi PyProof.Rows.boot_isinstance (pa_cons (pv 0) (pa_cons (pe_bltn (v := .ty "tuple") rfl T.tuple PySem.Pv.boot_tuple rfl) pa_nil)))
      (pe_one (pe_callB (call_all rfl) rfl T.all PyProof.Rows.boot_all (pa_cons (pe_comp (own:=["thing"]) (capN:=[]) (cap:=[]) bkIm rfl (pi_tup (pv 0)) (fun C s' H' fp=>⟨pg_name (i:=0) ndIm rfl (Or.inl rfl),pts_nil,
        pe_or (pe_callB (show CallR _ (.builtin "isinstance") (rIsV K) from call_isV) rfl T.isi PyProof.Rows.boot_isinstance (pa_cons (pv 0) (pa_cons (pe_bltn (v := .ty "str") rfl T.str PySem.Pv.boot_str rfl) pa_nil))) (pe_one (pe_call G hr rfl mh kh bh .nil pass0 (pa_cons (pv 0) pa_nil)))⟩)) pa_nil))))),?_⟩
    refine ⟨_,rfl, .ref p,_, "tuple",true,rfl, .tup hp,Z.tt,true,rfl,iteT ⟨_,rfl,p,rfl,⟨_,SqT.of hp⟩,?_⟩⟩
    refine comp_gen xs.length (by rw [PySem.sizeLine_eq]; omega) (fun i acc H'=>H' = H∧acc=(List.replicate i true).map V.bl) ⟨rfl,rfl⟩ (fun i acc H' h=>by rw [h.2]; simp) (fun i acc H' hi h=>?_) (fun acc H' h=>?_)
    · obtain ⟨rfl,rfl⟩:=h
      refine ⟨⟨xs,xs[i],SqT.of hp,List.getElem?_eq_getElem hi⟩,fun v H2 y=>?_⟩
      obtain ⟨rfl,y⟩:=y
      have hv:=y xs (SqT.of hp)
      have e:(List.replicate i true).map V.bl ++ [V.bl true]=(List.replicate (i + 1) true).map V.bl:=by rw [List.replicate_succ',List.map_append]; rfl
      rcases hx v (List.mem_of_getElem? hv) with ⟨t,rfl⟩ | ⟨z,rfl⟩
      · exact ⟨_,rfl, .str t,_, "str",true,rfl, .str t,Z.ss,true,rfl,iteT ⟨rfl,e⟩⟩
      · exact ⟨_,rfl, .int z,_, "str",false,rfl, .int z,Z.ns,false,rfl,iteF ⟨_,rfl, .int z,rfl, .int z,rfl,e⟩⟩
    · obtain ⟨rfl,rfl⟩:=h
      refine ⟨⟨xs,SqT.of hp,Nat.le_refl _⟩,fun D hD=>⟨D,List.replicate xs.length true,rfl,SqL.of upd_same,?_⟩⟩
      have e:(List.replicate xs.length true).all id=true:=by rw [List.all_eq_true]; intro b hb; rw [List.eq_of_mem_replicate hb]; rfl
      rw [e]
      exact q _ ((Same.refl H').new hD)
theorem scLk:FnScope ["self", "move"] ["self", "move"] (defScope sLike):=⟨rfl,rfl,rfl,by decide +kernel,rfl,by decide +kernel,by decide +kernel⟩
theorem ok_like {c:Cs} {ys:Ys} {J:TJ} {TC f fw fi fo fl fb fm fn:Addr} {fd dw di d_o dl db dm dn:FuncData} (F:Fun K "moves_like" "Yard.moves_like" sLike f fd) (T:Txt mg) (Y:Yrd K ys) (W:Wy K TC fw dw J) (M:MvM P w K mg base c TC J ys fi fo fl fb di d_o dl db)
    (mm:mg "is_move" = some (.ref fm)) (km:PySem.W.keepIn K (.ref fm)=true) (bm:Binds K dm ["move"] []) (Gm:FnOk P w K mg base CX0 2 fm dm ["move"] spIsMv)
    (mn:mg "is_within" = some (.ref fn)) (kn:PySem.W.keepIn K (.ref fn)=true) (bn:Binds K dn ["value", "least", "most"] []) (Gn:FnOk P w K mg base CX0 2 fn dn ["value", "least", "most"] spWithinV) :
    FnOk P w K mg base CX0 7 f fd ["self", "move"] (spLike K c TC J ys):=by
  refine F.ok scLk (fun vs H Q E h=>?_) (fun cdv A outer s H vs Q E hr h=>?_)
  · obtain ⟨a,s,p,m,rfl,_⟩:=h
    rfl
  · obtain ⟨a,st,p,m,rfl,hI,hp,hok,q⟩:=h
    have hr1:Room 1 _:=hr.mono (by decide)
    have hr2:Room 2 _:=hr.mono (by decide)
    have hr4:Room 4 _:=hr.mono (by decide)
    refine ⟨_,pss_cons (ps_if (pt_post (PW.pt (pw_or (pt_not (pt_val (pe_call Gm hr2 rfl mm km bm .nil pass0 (pa_cons (pv 1) pa_nil)))) (pw_or1 (pt_cmpR op_lt (pe_callB call_len_seq rfl T.len PySem.boot_len (pa_cons (pv 1) pa_nil)) pe_int (nomark _)))))) (pss_one (ps_ret (pe_lst pa_nil))) pss_nil)
      (pss_cons (ps_if (pt_cmpR op_eq (pe_ix ix_tup (pv 1) pe_int (fun _ _=>rfl)) pe_str (nomark _))
        (pss_one (ps_ret (pe_ifExp (pt_val (pe_call Gn hr2 rfl mn kn bn .nil pass0 (pa_cons (pe_ix ix_tup (pv 1) pe_int (fun _ _=>rfl)) (pa_cons pe_int (pa_cons (pe_op op_sub (pe_callB call_len_seq rfl T.len PySem.boot_len (pa_cons (pe_fld (pv 0) rfl) pa_nil)) pe_int) pa_nil)))))
          (pe_meth (pv 0) Y.cl M.mi M.Gi hr4 M.bi .nil pass0 (pa_cons (pe_ix ix_tup (pv 1) pe_int (fun _ _=>rfl)) pa_nil)) (pe_lst pa_nil)))) pss_nil)
      (pss_cons (ps_if (pt_not (pt_val (pe_call Gn hr2 rfl mn kn bn .nil pass0 (pa_cons (pe_ix ix_tup (pv 1) pe_int (fun _ _=>rfl)) (pa_cons pe_int (pa_cons (pe_op op_sub (pe_callB call_len_seq rfl T.len PySem.boot_len (pa_cons (pe_fld (pv 0) rfl) pa_nil)) pe_int) pa_nil)))))) (pss_one (ps_ret (pe_lst pa_nil))) pss_nil)
      (pss_cons (ps_if (pt_cmpR op_eq (pe_ix ix_tup (pv 1) pe_int (fun _ _=>rfl)) pe_str (nomark _)) (pss_one (ps_ret (pe_meth (pv 0) Y.cl M.mo M.Go hr M.bo .nil pass0 (pa_cons (pe_ix ix_tup (pv 1) pe_int (fun _ _=>rfl)) pa_nil)))) pss_nil)
      (pss_cons (ps_if (pt_cmpR op_eq (pe_ix ix_tup (pv 1) pe_int (fun _ _=>rfl)) pe_str (nomark _)) (pss_one (ps_ret (pe_meth (pv 0) Y.cl M.ml M.Gl hr2 M.bl .nil pass0 (pa_cons (pe_ix ix_tup (pv 1) pe_int (fun _ _=>rfl)) pa_nil)))) pss_nil)
      (pss_one (ps_ret (pe_ifExp (pt_cmpR op_eq (pe_ix ix_tup (pv 1) pe_int (fun _ _=>rfl)) pe_str (nomark _)) (pe_meth (pv 0) Y.cl M.mb M.Gb hr1 M.bb .nil pass0 (pa_cons (pe_ix ix_tup (pv 1) pe_int (fun _ _=>rfl)) pa_nil)) (pe_lst pa_nil)))))))),?_⟩
    refine ⟨fun b H1=>b=false∧Same H H1,?_,?_⟩
    · refine ⟨_,rfl,p,mvV m,rfl,hp,(mvV_kind m).1,(mvV_kind m).2,fun H1 s1=>⟨_,rfl,iteF ?_⟩⟩
      refine ⟨_,rfl,p,_,rfl, .inr (SqT.of (s1 _ _ hp)),_,_,rfl,rfl,_,rfl,?_,s1⟩
      cases m <;> rfl
    rintro b H1 ⟨rfl,s1⟩
    refine iteF ?_
    have hI1:=hI.same W s1
    have hp1:=s1 _ _ hp
    have q1:∀ (D:Addr) (mvs:List V) (H':Hp),Same H1 H'→H1 D=none→H' D=some (.lst mvs)→Paired (MvV H') mvs ((likeS a st m).map mvV)→Q (.ref D) H':=fun D mvs H' s' hD g' hp'=>q D mvs H' (s1.trans s') (s1.free hD) g' hp'
    have hY:=hI1.Y
    obtain ⟨tvs,gle,ple⟩:=hY.hle
    have hle:tvs.length=st.letters.length:=Paired.length ple
    obtain ⟨lvs,gla,pla⟩:=hY.hla
    have hla:lvs.length=st.lanes.length:=Paired.length pla
    clear s1 q hp hI
    have inl:∀ k:Nat,k < st.lanes.length→okv (.int k) 0 (((lvs.length:Nat):Int) - 1)=true:=fun k hk=>decide_eq_true (by omega)
    cases m with
    | inn k l =>
      have hp1:H1 p=some (.tup [.str "in", .int k, .int l]):=hp1
      have hok:k < st.letters.length:=hok
      refine ⟨_,rfl,p,_,0,_,rfl,rfl,SqT.of hp1,atI_nat (j:=0) rfl,rfl,_,rfl,?_⟩
      rw [sdecT]
      refine iteT ⟨_,rfl,p,_,1,_,rfl,rfl,SqT.of hp1,atI_nat (j:=1) rfl,_,rfl,a.y,ys.yard,a.dy,_,_,rfl,hY.ins,Y.cl,Y.n4,rfl,a.le,_,rfl, .inl (SqL.of gle),_,_,rfl,rfl, .int k,0,((tvs.length:Nat):Int) - 1,rfl, .int _,_,rfl,?_⟩
      rw [show okv (.int k) 0 (((tvs.length:Nat):Int) - 1)=true from decide_eq_true (by omega)]
      exact iteT ⟨_,rfl,a.y,a.dy,_,rfl,hY.ins,rfl,_,rfl,p,_,1,_,rfl,rfl,SqT.of hp1,atI_nat (j:=1) rfl,a,st,k,rfl,hI1,hok,fun D mvs H' s' hD g' hp'=>q1 D mvs H' s' hD g' hp'⟩
    | on k l =>
      have hp1:H1 p=some (.tup [.str "on", .int k, .int l]):=hp1
      have hok:k < st.lanes.length:=hok
      refine ⟨_,rfl,p,_,0,_,rfl,rfl,SqT.of hp1,atI_nat (j:=0) rfl,rfl,_,rfl,?_⟩
      rw [sdec (by decide +kernel)]
      refine iteF ⟨_,rfl,p,_,1,_,rfl,rfl,SqT.of hp1,atI_nat (j:=1) rfl,_,rfl,a.y,ys.yard,a.dy,_,_,rfl,hY.ins,Y.cl,Y.n3,rfl,a.la,_,rfl, .inl (SqL.of gla),_,_,rfl,rfl, .int k,0,((lvs.length:Nat):Int) - 1,rfl, .int _,_,rfl,?_⟩
      rw [inl k hok]
      refine iteF ⟨_,rfl,p,_,0,_,rfl,rfl,SqT.of hp1,atI_nat (j:=0) rfl,rfl,_,rfl,?_⟩
      rw [sdecT]
      exact iteT ⟨_,rfl,a.y,a.dy,_,rfl,hY.ins,rfl,_,rfl,p,_,1,_,rfl,rfl,SqT.of hp1,atI_nat (j:=1) rfl,a,st,k,rfl,hI1,hok,fun D mvs H' s' hD g' hp'=>q1 D mvs H' s' hD g' hp'⟩
    | lie k =>
      have hp1:H1 p=some (.tup [.str "lie", .int k]):=hp1
      have hok:k < st.lanes.length:=hok
      refine ⟨_,rfl,p,_,0,_,rfl,rfl,SqT.of hp1,atI_nat (j:=0) rfl,rfl,_,rfl,?_⟩
      rw [sdec (by decide +kernel)]
      refine iteF ⟨_,rfl,p,_,1,_,rfl,rfl,SqT.of hp1,atI_nat (j:=1) rfl,_,rfl,a.y,ys.yard,a.dy,_,_,rfl,hY.ins,Y.cl,Y.n3,rfl,a.la,_,rfl, .inl (SqL.of gla),_,_,rfl,rfl, .int k,0,((lvs.length:Nat):Int) - 1,rfl, .int _,_,rfl,?_⟩
      rw [inl k hok]
      refine iteF ⟨_,rfl,p,_,0,_,rfl,rfl,SqT.of hp1,atI_nat (j:=0) rfl,rfl,_,rfl,?_⟩
      rw [sdec (by decide +kernel)]
      refine iteF ⟨_,rfl,p,_,0,_,rfl,rfl,SqT.of hp1,atI_nat (j:=0) rfl,rfl,_,rfl,?_⟩
      rw [sdecT]
      exact iteT ⟨_,rfl,a.y,a.dy,_,rfl,hY.ins,rfl,_,rfl,p,_,1,_,rfl,rfl,SqT.of hp1,atI_nat (j:=1) rfl,a,st,k,rfl,hI1,hok,fun D mvs H' s' hD g' hp'=>q1 D mvs H' s' hD g' hp'⟩
    | back k =>
      have hp1:H1 p=some (.tup [.str "back", .int k]):=hp1
      have hok:k < st.lanes.length:=hok
      refine ⟨_,rfl,p,_,0,_,rfl,rfl,SqT.of hp1,atI_nat (j:=0) rfl,rfl,_,rfl,?_⟩
      rw [sdec (by decide +kernel)]
      refine iteF ⟨_,rfl,p,_,1,_,rfl,rfl,SqT.of hp1,atI_nat (j:=1) rfl,_,rfl,a.y,ys.yard,a.dy,_,_,rfl,hY.ins,Y.cl,Y.n3,rfl,a.la,_,rfl, .inl (SqL.of gla),_,_,rfl,rfl, .int k,0,((lvs.length:Nat):Int) - 1,rfl, .int _,_,rfl,?_⟩
      rw [inl k hok]
      refine iteF ⟨_,rfl,p,_,0,_,rfl,rfl,SqT.of hp1,atI_nat (j:=0) rfl,rfl,_,rfl,?_⟩
      rw [sdec (by decide +kernel)]
      refine iteF ⟨_,rfl,p,_,0,_,rfl,rfl,SqT.of hp1,atI_nat (j:=0) rfl,rfl,_,rfl,?_⟩
      rw [sdec (by decide +kernel)]
      refine iteF ⟨_,rfl,p,_,0,_,rfl,rfl,SqT.of hp1,atI_nat (j:=0) rfl,rfl,_,rfl,?_⟩
      rw [sdecT]
      exact iteT ⟨_,rfl,a.y,a.dy,_,rfl,hY.ins,rfl,_,rfl,p,_,1,_,rfl,rfl,SqT.of hp1,atI_nat (j:=1) rfl,a,st,k,rfl,hI1,hok,fun D mvs H' s' hD g' hp'=>q1 D mvs H' s' hD g' hp'⟩
end
end K66
namespace K66
open PySem L2
def laneP (ln:LnS):LnS:={ ln with b:=ln.b + 1,qs:=ln.qs.tail }
def laneB (ln:LnS):LnS:={ ln with r:=ln.r + 1,b:=ln.b - 1 }
inductive Stp (a:YA) (s:YS):Mv→YS→Prop
  | inn {k l:Nat} {t:LtS} {ln:LnS} (ht:s.letters[k]? = some t) (hg:t.gone ≠ t.len) (hl:l ∈ firstL a t) (hln:s.lanes[l]? = some ln) (ho:openB ln.r ln.h k t.gone=true) :
    Stp a s (.inn k l) (enterS (goneS s k t) k t.gone l { t with gone:=t.gone + 1 } ln)
  | on {k l m:Nat} {c:Int} {lk ln:LnS} {t:LtS} (hk:s.lanes[k]? = some lk) (hq:lk.qs.head? = some ((m:Int),c)) (ht:s.letters[m]? = some t) (hl:l ∈ wantS a s k) (hln:(s.lanes.set k (laneP lk))[l]? = some ln) (ho:openB ln.r ln.h m c=true) :
    Stp a s (.on k l) (enterS { s with lanes:=s.lanes.set k (laneP lk) } m c l t ln)
  | lie {k m e:Nat} {c:Int} {lk:LnS} {t:LtS} {qs:List (Int × Int)} (hk:s.lanes[k]? = some lk) (hq:lk.qs.head? = some ((m:Int),c)) (ht:s.letters[m]? = some t) (hg:t.goal=(e:Int)) (he:(a.ps.getD k (0,0)).2=(e:Int)) (hqs:s.lies[e]? = some qs) :
    Stp a s (.lie k) { s with lanes:=s.lanes.set k (laneP lk),lies:=s.lies.set e (qs ++ [((m:Int),c)]) }
  | back {k:Nat} {lk:LnS} (hk:s.lanes[k]? = some lk) (hb:0 < lk.b):Stp a s (.back k) { s with lanes:=s.lanes.set k (laneB lk) }
theorem Stp.done {a:YA} {s s':YS} {m:Mv} (h:Stp a s m s'):s'.done=s.done:=by
  cases h <;> rfl
structure Sml (s:YS):Prop where
  q:∀ (k:Nat) (ln:LnS),s.lanes[k]? = some ln→ln.qs.length ≤ 10000
  l:∀ (p:Nat) (qs:List (Int × Int)),s.lies[p]? = some qs→qs.length ≤ 10000
  d:s.done.length ≤ 100000
theorem openL_some {s:YS} {l:Nat} {m c:Int} (h:openL s l m c=true):∃ ln,s.lanes[l]? = some ln∧openB ln.r ln.h m c=true:=by
  unfold openL at h
  cases hl:s.lanes[l]? with
  | none=>rw [hl] at h; cases h
  | some ln=>rw [hl] at h; exact ⟨ln,rfl,h⟩
theorem mem_in {a:YA} {s:YS} {k:Nat} {m:Mv} (h:m ∈ mvIn a s k):∃ l t ln,m = .inn k l∧s.letters[k]? = some t∧t.gone ≠ t.len∧l ∈ firstL a t∧s.lanes[l]? = some ln∧openB ln.r ln.h k t.gone=true:=by
  unfold mvIn at h
  cases ht:s.letters[k]? with
  | none=>rw [ht] at h; cases h
  | some t =>
    rw [ht] at h
    dsimp only at h
    by_cases hg:t.gone=t.len
    · rw [if_pos hg] at h; cases h
    rw [if_neg hg] at h
    obtain ⟨l,hl,rfl⟩:=List.mem_map.mp h
    obtain ⟨h1,h2⟩:=List.mem_filter.mp hl
    obtain ⟨ln,h3,h4⟩:=openL_some h2
    exact ⟨l,t,ln,rfl,rfl,hg,h1,h3,h4⟩
theorem mem_on {a:YA} {s:YS} {k:Nat} {m:Mv} (h:m ∈ mvOn a s k):∃ l q lk ln,m = .on k l∧s.lanes[k]? = some lk∧lk.qs.head? = some q∧l ∈ wantS a s k∧s.lanes[l]? = some ln∧openB ln.r ln.h q.1 q.2=true:=by
  unfold mvOn at h
  cases hq:frontQ s k with
  | none=>rw [hq] at h; cases h
  | some q =>
    rw [hq] at h
    dsimp only at h
    obtain ⟨l,hl,rfl⟩:=List.mem_map.mp h
    obtain ⟨h1,h2⟩:=List.mem_filter.mp hl
    obtain ⟨ln,h3,h4⟩:=openL_some h2
    unfold frontQ at hq
    cases hk:s.lanes[k]? with
    | none=>rw [hk] at hq; cases hq
    | some lk=>rw [hk] at hq; exact ⟨l,q,lk,ln,rfl,rfl,hq,h1,h3,h4⟩
theorem mem_lie {a:YA} {s:YS} {k:Nat} {m:Mv} (h:m ∈ mvLie a s k):∃ q lk t,m = .lie k∧s.lanes[k]? = some lk∧lk.qs.head? = some q∧s.letters[q.1.toNat]? = some t∧t.goal=(a.ps.getD k (0,0)).2:=by
  unfold mvLie at h
  cases hq:frontQ s k with
  | none=>rw [hq] at h; cases h
  | some q =>
    rw [hq] at h
    dsimp only at h
    cases ht:s.letters[q.1.toNat]? with
    | none=>rw [ht] at h; cases h
    | some t =>
      rw [ht] at h
      dsimp only at h
      by_cases hg:t.goal=(a.ps.getD k (0,0)).2
      · rw [if_pos hg] at h
        have hm:m = .lie k:=by simpa using h
        unfold frontQ at hq
        cases hk:s.lanes[k]? with
        | none=>rw [hk] at hq; cases hq
        | some lk=>rw [hk] at hq; exact ⟨q,lk,t,hm,rfl,hq,ht,hg⟩
      · rw [if_neg hg] at h; cases h
theorem mem_back {s:YS} {k:Nat} {m:Mv} (h:m ∈ mvBack s k):∃ lk,m = .back k∧s.lanes[k]? = some lk∧0 < lk.b:=by
  unfold mvBack at h
  cases hk:s.lanes[k]? with
  | none=>rw [hk] at h; cases h
  | some lk =>
    rw [hk] at h
    dsimp only at h
    by_cases hb:0 < lk.b
    · rw [if_pos hb] at h; exact ⟨lk,by simpa using h,rfl,hb⟩
    · rw [if_neg hb] at h; cases h
theorem mem_moves {a:YA} {s:YS} {m:Mv} (h:m ∈ movesS a s):idxOk s m∧m ∈ likeS a s m:=by
  unfold movesS at h
  rw [List.mem_append,List.mem_append,List.mem_append] at h
  rcases h with ((h | h) | h) | h
  · obtain ⟨k,hk,h⟩:=List.mem_flatMap.mp h
    obtain ⟨l,t,ln,rfl,_⟩:=mem_in h
    exact ⟨List.mem_range.mp hk,h⟩
  · obtain ⟨k,hk,h⟩:=List.mem_flatMap.mp h
    obtain ⟨l,q,lk,ln,rfl,_⟩:=mem_on h
    exact ⟨List.mem_range.mp hk,h⟩
  · obtain ⟨k,hk,h⟩:=List.mem_flatMap.mp h
    obtain ⟨q,lk,t,rfl,_⟩:=mem_lie h
    exact ⟨List.mem_range.mp hk,h⟩
  · obtain ⟨k,hk,h⟩:=List.mem_flatMap.mp h
    obtain ⟨lk,rfl,_⟩:=mem_back h
    exact ⟨List.mem_range.mp hk,h⟩
def mvD:Mv→PyData
  | .inn k l => .tuple [.str "in", .int k, .int l]
  | .on k l => .tuple [.str "on", .int k, .int l]
  | .lie k => .tuple [.str "lie", .int k]
  | .back k => .tuple [.str "back", .int k]
theorem shp_str {x:Str} (h:PyData.strOk x=true):Shp (.str x) 0:=⟨by simp [PyData.canLay0,h],by simp [PyData.depth]⟩
theorem shp_mv (m:Mv):Shp (mvD m) 1:=by
  cases m <;> refine shp_tuple (m:=0) fun y hy=>?_ <;> simp only [List.mem_cons,List.not_mem_nil,or_false] at hy
  · rcases hy with rfl | rfl | rfl
    · exact shp_str (by decide +kernel)
    · exact shp_int _
    · exact shp_int _
  · rcases hy with rfl | rfl | rfl
    · exact shp_str (by decide +kernel)
    · exact shp_int _
    · exact shp_int _
  · rcases hy with rfl | rfl
    · exact shp_str (by decide +kernel)
    · exact shp_int _
  · rcases hy with rfl | rfl
    · exact shp_str (by decide +kernel)
    · exact shp_int _
theorem den_mv {K:PySem.W.Frag} {H:Hp} {p:Addr} (m:Mv) (h:H p=some (.tup (mvV m))):Den K H (.ref p) (mvD m):=by
  cases m <;> refine .tup (SqT.of h) ?_
  · exact .cons (.str _) (.cons (.int _) (.cons (.int _) .nil))
  · exact .cons (.str _) (.cons (.int _) (.cons (.int _) .nil))
  · exact .cons (.str _) (.cons (.int _) .nil)
  · exact .cons (.str _) (.cons (.int _) .nil)
theorem dens_mv {K:PySem.W.Frag} {H:Hp}:∀ {vs:List V} {ms:List Mv},Paired (MvV H) vs (ms.map mvV)→Dens K H vs (ms.map mvD)
  | [],[],_ => .nil
  | _ :: _,m :: ms, .cons ⟨t,e,h⟩ r=>by subst e; exact .cons (den_mv m h) (dens_mv r)
  | [],_ :: _,h=>by cases h
  | _ :: _,[],h=>by cases h
theorem any_mv {m:Mv} {ms:List Mv} (h:m ∈ ms):((ms.map mvD).any fun y=>PyData.eqv y (mvD m))=true:=by
  rw [List.any_eq_true]
  exact ⟨mvD m,List.mem_map.mpr ⟨m,h,rfl⟩,SeqAt.eqv_refl _ (shp_mv m).1⟩
def spDo (K:PySem.W.Frag) (c:Cs) (TC:Addr) (J:TJ) (ys:Ys):Sp:=fun vs H Q _=>∃ (a:YA) (s:YS) (p:Addr) (m:Mv),vs=[.ref a.y, .ref p]∧YIn K c TC J ys H a s∧H p=some (.tup (mvV m))∧m ∈ movesS a s∧Sml s ∧
  ∀ (H':Hp) (s':YS),Stp a s m s'→OffE a.four H H'→YAt K ys H' a { s' with done:=s.done ++ [mvV m] }→Q .non H'
structure DoM (P:Program) (w:World) (K:PySem.W.Frag) (mg:Str→Option Value) (base:Heap) (c:Cs) (TC:Addr) (J:TJ) (ys:Ys) (nm:Addr) (fk fg fe fp fb fy:Addr) (dk dg de dp db dy:FuncData):Prop where
  mk':Meth K ys.yard "moves_like" fk
  bk:Binds K dk ["self", "move"] []
  Gk:FnOk P w K mg base CX0 7 fk dk ["self", "move"] (spLike K c TC J ys)
  mg':Meth K ys.yard "go_in" fg
  bg:Binds K dg ["self", "number", "lane"] []
  Gg:FnOk P w K mg base CX0 6 fg dg ["self", "number", "lane"] (spGoIn K ys)
  me:Meth K ys.yard "enter" fe
  be:Binds K de ["self", "piece", "lane"] []
  Ge:FnOk P w K mg base CX0 5 fe de ["self", "piece", "lane"] (spEnter K ys)
  mp:Meth K ys.lane "pull" fp
  bp:Binds K dp ["self"] []
  Gp:FnOk P w K mg base (CXe P w) 1 fp dp ["self"] (spPull ys.lane nm)
  mb:Meth K ys.lane "bring" fb
  bb:Binds K db ["self"] []
  Gb:FnOk P w K mg base (CXe P w) 1 fb db ["self"] (spBring ys.lane nm)
  my:Meth K ys.yard "lay" fy
  by':Binds K dy ["self", "piece", "place"] []
  Gy:FnOk P w K mg base CX0 1 fy dy ["self", "piece", "place"] (spLay K ys)
section
variable {P:Program} {w:World} {K:PySem.W.Frag} {mg:Str→Option Value} {base:Heap}
theorem scDo:FnScope ["self", "move"] ["self", "move"] (defScope sDo):=⟨rfl,rfl,rfl,by decide +kernel,rfl,by decide +kernel,by decide +kernel⟩
theorem ok_do {c:Cs} {ys:Ys} {J:TJ} {TC nm f fw fl ft fpu fk fg fe fp fb fy fen:Addr} {fd dw dl dt dpu dk dg de dp db dy den:FuncData} (F:Fun K "do" "Yard.do" sDo f fd) (Y:Yrd K ys) (L:Lnd K c) (W:Wy K TC fw dw J) (Ex:ExM K mg nm) (O:Own P w K mg base ys nm fl ft fpu dl dt dpu)
    (D:DoM P w K mg base c TC J ys nm fk fg fe fp fb fy dk dg de dp db dy) (Me:EndM K c fen den) (Gen:FnOk P w K mg base CX0 1 fen den ["self", "lane"] (spAt c Prod.snd)) :
    FnOk P w K mg base (CXe P w) 8 f fd ["self", "move"] (spDo K c TC J ys):=by
  refine F.okX scDo (fun vs H Q E h=>?_) (fun cdv A outer s H vs Q E hr h=>?_)
  · obtain ⟨a,s,p,m,rfl,_⟩:=h
    rfl
  · obtain ⟨a,st,p,m,rfl,hI,hp,hm,hS,q⟩:=h
    have hu:=hr.units
    have hr1:Room 1 _:=hr.mono (by decide)
    have hr4:Room 4 _:=hr.mono (by decide)
    have hr5:Room 5 _:=hr.mono (by decide)
    have hr6:Room 6 _:=hr.mono (by decide)
    refine ⟨_,pss_cons (ps_if (pt_cmpR (op_notInD hu) (pv 1) (pe_meth (pv 0) Y.cl D.mk' D.Gk hr D.bk .nil pass0 (pa_cons (pv 1) pa_nil)) (by with_unfolding_all rfl)) (pss_one (ps_raise rfl Ex.x passX_def (px_plain Ex.x Ex.k rfl rfl Ex.m (pa_cons pe_str pa_nil)))) pss_nil)
      (pss_cons (ps_post (ps_if (pt_cmpR op_eq (pe_ix ix_tup (pv 1) pe_int (fun _ _=>rfl)) pe_str (nomark _))
        (pss_one (ps_expr (pe_meth (pv 0) Y.cl D.mg' D.Gg hr6 D.bg .nil pass0 (pa_cons (pe_ix ix_tup (pv 1) pe_int (fun _ _=>rfl)) (pa_cons (pe_ix ix_tup (pv 1) pe_int (fun _ _=>rfl)) pa_nil)))))
        (pss_one (ps_if (pt_cmpR op_eq (pe_ix ix_tup (pv 1) pe_int (fun _ _=>rfl)) pe_str (nomark _))
          (pss_one (ps_expr (pe_meth (pv 0) Y.cl D.me D.Ge hr5 D.be .nil pass0 (pa_cons (pe_meth0 (pe_meth (pv 0) Y.cl O.ml O.Gl hr4 O.bl .nil pass0 (pa_cons (pe_ix ix_tup (pv 1) pe_int (fun _ _=>rfl)) pa_nil)) Y.L.cl D.mp D.Gp hr1 D.bp .nil (PassX.passes passX_def rfl)) (pa_cons (pe_ix ix_tup (pv 1) pe_int (fun _ _=>rfl)) pa_nil)))))
          (pss_one (ps_if (pt_cmpR op_eq (pe_ix ix_tup (pv 1) pe_int (fun _ _=>rfl)) pe_str (nomark _))
            (pss_one (ps_expr (pe_meth (pv 0) Y.cl D.my D.Gy hr1 D.by' .nil pass0 (pa_cons (pe_meth0 (pe_meth (pv 0) Y.cl O.ml O.Gl hr4 O.bl .nil pass0 (pa_cons (pe_ix ix_tup (pv 1) pe_int (fun _ _=>rfl)) pa_nil)) Y.L.cl D.mp D.Gp hr1 D.bp .nil (PassX.passes passX_def rfl)) (pa_cons (pe_meth (pe_fld (pe_fld (pv 0) rfl) rfl) L.cl Me.m Gen hr1 Me.b .nil pass0 (pa_cons (pe_ix ix_tup (pv 1) pe_int (fun _ _=>rfl)) pa_nil)) pa_nil)))))
            (pss_one (ps_expr (pe_meth0 (pe_meth (pv 0) Y.cl O.ml O.Gl hr4 O.bl .nil pass0 (pa_cons (pe_ix ix_tup (pv 1) pe_int (fun _ _=>rfl)) pa_nil)) Y.L.cl D.mb D.Gb hr1 D.bb .nil (PassX.passes passX_def rfl))))))))))
      (pss_one (ps_expr (pe_bm PySem.F.plainAttrs_list PySem.F.slot_list_append PySem.F.type_list_append mt_append (pe_fld (pv 0) rfl) (pa_cons (pv 1) pa_nil))))),?_⟩
    obtain ⟨hok,hlk⟩:=mem_moves hm
    refine ⟨_,rfl,_,rfl,a.y,a.dy,_,rfl,hI.Y.ins,rfl,_,rfl,a,st,p,m,rfl,hI,hp,hok,fun Dl mvs H1 s1 hDl gDl hpr=>?_⟩
    refine ⟨Dl,mvs,mvD m,(likeS a st m).map mvD,rfl,den_mv m (s1 _ _ hp),SqL.of gDl,dens_mv hpr,(shp_mv m).le (by decide),fun z hz=>by obtain ⟨m',_,rfl⟩:=List.mem_map.mp hz; exact (shp_mv m').le (by decide),_,rfl,?_⟩
    rw [any_mv hlk]
    refine iteF ?_
    have hI1:=hI.same W s1
    have hp1:=s1 _ _ hp
    have hY:=hI1.Y
    refine ⟨fun σ' H'=>σ' = start ["self", "move"] [.ref a.y, .ref p]∧∃ s',Stp a st m s'∧OffE a.four H1 H'∧YAt K ys H' a s',?_,?_⟩
    ·
      have pulled:∀ (k:Nat) (lk:LnS) (pq:Int × Int),st.lanes[k]? = some lk→lk.qs.head? = some pq→∀ (lvs:List V),H1 a.la=some (.lst lvs)→∀ (x dx pa:Addr) (pvs:List V) (H2:Hp),OffE [a.la] H1 H2→H1 x=none→H1 pa=none→H2 a.la=some (.lst (lvs.set k (.ref x)))→LaneAt H2 ys.lane x dx pa lk.r lk.b lk.h pvs lk.qs →
          ∀ (Q':VK) (E':XK),(∀ (v:V) (H3:Hp),LnV H3 v pq→OffE [a.la] H1 H3→YAt K ys H3 a { st with lanes:=st.lanes.set k (laneP lk) }→Q' v H3)→spPull ys.lane nm [.ref x] H2 Q' E':=by
        intro k lk pq hk hq lvs gla x dx pa pvs H2 o2 nx np g2 hL2 Q' E' hQ
        refine ⟨x,dx,pa,lk.r,lk.b,lk.h,pvs,lk.qs,rfl,hL2,fun e0=>?_,fun v rest ev H3 o3 hL3=>?_⟩
        · exfalso
          have hl:=Paired.length hL2.pcs
          rw [e0] at hl
          cases hqs:lk.qs with
          | nil=>rw [hqs] at hq; cases hq
          | cons _ _=>rw [hqs] at hl; cases hl
        · have o4:OffE [a.la] H1 H3:=fun b o nb e=>o3 b o (ne_of_none e nx) (ne_of_none e np) (o2 b o nb e)
          refine hQ v H3 ?_ o4 (YAt.setLane hY gla o4 (k:=k) (x:=x) (dx:=dx) (pa:=pa) (o3 _ _ (ne_of_none gla nx) (ne_of_none gla np) g2) (ln:=laneP lk) hL3 np)
          have hz:=Off2.lns o3 hL2.ins hL2.lst hL2.pcs
          rw [ev] at hz
          cases hqs:lk.qs with
          | nil=>rw [hqs] at hq; cases hq
          | cons q0 r0 =>
            rw [hqs] at hq hz
            cases hq
            cases hz with
            | cons z _=>exact z
      obtain ⟨lvs,gla,pla⟩:=hY.hla
      have p3:∀ {H3:Hp} {ex:List Addr} {xs:List V},H1 p=some (.tup xs)→OffE ex H1 H3→(∀ b ∈ ex,b ∈ a.four)→H3 p=some (.tup xs):=fun h o he=>o _ _ (fun z=>by obtain ⟨xs,hz⟩:=hY.lsts _ (he _ z); rw [h] at hz; cases hz) h
      cases m with
      | inn k l =>
        have hp1:H1 p=some (.tup [.str "in", .int k, .int l]):=hp1
        obtain ⟨l',t,ln,e0,ht,hg,hl,hln,ho⟩:=mem_in (show Mv.inn k l ∈ mvIn a st k from hlk)
        cases e0
        refine ⟨_,rfl,p,_,0,_,rfl,rfl,SqT.of hp1,atI_nat (j:=0) rfl,rfl,_,rfl,?_⟩
        rw [sdecT]
        refine iteT ⟨_,rfl,a.y,a.dy,_,rfl,hY.ins,rfl,_,rfl,p,_,1,_,rfl,rfl,SqT.of hp1,atI_nat (j:=1) rfl,_,rfl,p,_,2,_,rfl,rfl,SqT.of hp1,atI_nat (j:=2) rfl,a,st,k,l,t,ln,rfl,hY,ht,hln,ho,(hI.G.ways k t ht).2,Nat.lt_of_le_of_lt (hS.q l ln hln) (by decide),fun H' o' hY'=>⟨rfl,_,Stp.inn ht hg hl hln ho,o'.mono (by simp),hY'⟩⟩
      | on k l =>
        have hp1:H1 p=some (.tup [.str "on", .int k, .int l]):=hp1
        obtain ⟨l',pq,lk,ln,e0,hk,hq,hl,hln,ho⟩:=mem_on (show Mv.on k l ∈ mvOn a st k from hlk)
        cases e0
        obtain ⟨m,t,em,ht,hkw⟩:=hI.G.pcs k lk hk pq (List.mem_of_head? hq)
        obtain ⟨m0,cq⟩:=pq
        have em:m0=(m:Int):=em
        subst em
        refine ⟨_,rfl,p,_,0,_,rfl,rfl,SqT.of hp1,atI_nat (j:=0) rfl,rfl,_,rfl,?_⟩
        rw [sdec (by decide +kernel)]
        refine iteF ⟨_,rfl,p,_,0,_,rfl,rfl,SqT.of hp1,atI_nat (j:=0) rfl,rfl,_,rfl,?_⟩
        rw [sdecT]
        refine iteT ⟨_,rfl,a.y,a.dy,_,rfl,hY.ins,rfl,_,rfl,a.y,a.dy,_,rfl,hY.ins,rfl,_,rfl,p,_,1,_,rfl,rfl,SqT.of hp1,atI_nat (j:=1) rfl,a,st,k,lk,lvs,rfl,hY,hk,gla,fun x dx pa pvs H2 o2 nx np g2 hL2=>⟨x,dx,_,rfl,hL2.ins,rfl,pulled k lk _ hk hq lvs gla x dx pa pvs H2 o2 nx np g2 hL2 _ _ fun v H3 hv o3 hY3=>?_⟩⟩
        have hp3:=p3 hp1 o3 (by simp)
        have hkl:k < st.lanes.length:=(List.getElem?_eq_some_iff.mp hk).1
        obtain ⟨ln2,hln2,er,eh,eq⟩:∃ ln2,(st.lanes.set k (laneP lk))[l]? = some ln2∧ln2.r=ln.r∧ln2.h=ln.h∧ln2.qs.length ≤ 10000:=by
          by_cases hkl':k=l
          · subst hkl'
            rw [hk] at hln
            cases hln
            refine ⟨laneP lk,by simp [hkl],rfl,rfl,?_⟩
            have:=hS.q k lk hk
            show lk.qs.tail.length ≤ 10000
            rw [List.length_tail]; omega
          · exact ⟨ln,by rw [List.getElem?_set_ne hkl']; exact hln,rfl,rfl,hS.q l ln hln⟩
        have ho2:openB ln2.r ln2.h m cq=true:=by rw [er,eh]; exact ho
        refine ⟨_,rfl,p,_,2,_,rfl,rfl,SqT.of hp3,atI_nat (j:=2) rfl,a,{ st with lanes:=st.lanes.set k (laneP lk) },v,m,cq,l,t,ln2,rfl,hY3,hv,ht,hln2,ho2,(hI.G.ways m t ht).2,Nat.lt_of_le_of_lt eq (by decide),fun H' o' hY'=>⟨rfl,_,Stp.on hk hq ht hl hln2 ho2,(o3.mono (by simp)).trans (o'.mono (by simp)),hY'⟩⟩
      | lie k =>
        have hp1:H1 p=some (.tup [.str "lie", .int k]):=hp1
        obtain ⟨pq,lk,t0,e0,hk,hq,ht0,hg⟩:=mem_lie (show Mv.lie k ∈ mvLie a st k from hlk)
        obtain ⟨m,t,em,ht,hkw⟩:=hI.G.pcs k lk hk pq (List.mem_of_head? hq)
        obtain ⟨m0,cq⟩:=pq
        have em:m0=(m:Int):=em
        subst em
        have ht0:st.letters[m]? = some t0:=by rw [← ht0]; rfl
        rw [ht] at ht0
        cases ht0
        have hkl:k < st.lanes.length:=(List.getElem?_eq_some_iff.mp hk).1
        have hkp:k < a.ps.length:=by rw [← hI.G.lanes]; exact hkl
        have he:=List.getElem?_eq_getElem hkp
        have heD:a.ps.getD k (0,0)=a.ps[k]:=by rw [List.getD_eq_getElem?_getD,he]; rfl
        obtain ⟨e,ee,hen⟩:=hI.O.ends k _ he
        rw [heD,ee] at hg
        have hel:e < st.lies.length:=by rw [hI.G.lies]; exact hen
        have hqs:=List.getElem?_eq_getElem hel
        refine ⟨_,rfl,p,_,0,_,rfl,rfl,SqT.of hp1,atI_nat (j:=0) rfl,rfl,_,rfl,?_⟩
        rw [sdec (by decide +kernel)]
        refine iteF ⟨_,rfl,p,_,0,_,rfl,rfl,SqT.of hp1,atI_nat (j:=0) rfl,rfl,_,rfl,?_⟩
        rw [sdec (by decide +kernel)]
        refine iteF ⟨_,rfl,p,_,0,_,rfl,rfl,SqT.of hp1,atI_nat (j:=0) rfl,rfl,_,rfl,?_⟩
        rw [sdecT]
        refine iteT ⟨_,rfl,a.y,a.dy,_,rfl,hY.ins,rfl,_,rfl,a.y,a.dy,_,rfl,hY.ins,rfl,_,rfl,p,_,1,_,rfl,rfl,SqT.of hp1,atI_nat (j:=1) rfl,a,st,k,lk,lvs,rfl,hY,hk,gla,fun x dx pa pvs H2 o2 nx np g2 hL2=>⟨x,dx,_,rfl,hL2.ins,rfl,pulled k lk _ hk hq lvs gla x dx pa pvs H2 o2 nx np g2 hL2 _ _ fun v H3 hv o3 hY3=>?_⟩⟩
        have hp3:=p3 hp1 o3 (by simp)
        have hT3:TAt c TC J H3 a:=TbIn.keep W hI1.T (OffE.keepN (fun b hb=>by simp at hb; subst hb; exact ⟨_,gla⟩) o3)
        obtain ⟨dxt,fst,htb,hland,hways⟩:=hT3.i
        refine ⟨_,rfl,a.y,ys.yard,a.dy,_,_,rfl,hY3.ins,Y.cl,Y.n1,rfl,a.tb,TC,dxt,fst,_,rfl,htb,W.cl,W.nl,hland,a.lx,a.ldx,_,rfl,hT3.l.1,rfl,_,rfl,p,_,1,_,rfl,rfl,SqT.of hp3,atI_nat (j:=1) rfl,a.lx,a.ldx,a.lt,(a.n:Int),a.tvs,a.ps,k,_,rfl,hT3.l,he,?_⟩
        rw [ee]
        exact ⟨a,{ st with lanes:=st.lanes.set k (laneP lk) },v,((m:Int),cq),e,_,rfl,hY3,hv,hqs,Nat.le_trans (hS.l e _ hqs) (by decide),fun H' o' hY'=>⟨rfl,_,Stp.lie hk hq ht hg (by rw [heD,ee]) hqs,(o3.mono (by simp)).trans (o'.mono (by simp)),hY'⟩⟩
      | back k =>
        have hp1:H1 p=some (.tup [.str "back", .int k]):=hp1
        obtain ⟨lk,e0,hk,hb⟩:=mem_back (show Mv.back k ∈ mvBack st k from hlk)
        refine ⟨_,rfl,p,_,0,_,rfl,rfl,SqT.of hp1,atI_nat (j:=0) rfl,rfl,_,rfl,?_⟩
        rw [sdec (by decide +kernel)]
        refine iteF ⟨_,rfl,p,_,0,_,rfl,rfl,SqT.of hp1,atI_nat (j:=0) rfl,rfl,_,rfl,?_⟩
        rw [sdec (by decide +kernel)]
        refine iteF ⟨_,rfl,p,_,0,_,rfl,rfl,SqT.of hp1,atI_nat (j:=0) rfl,rfl,_,rfl,?_⟩
        rw [sdec (by decide +kernel)]
        refine iteF ⟨_,rfl,a.y,a.dy,_,rfl,hY.ins,rfl,_,rfl,p,_,1,_,rfl,rfl,SqT.of hp1,atI_nat (j:=1) rfl,a,st,k,lk,lvs,rfl,hY,hk,gla,fun x dx pa pvs H2 o2 nx np g2 hL2=>⟨x,dx,_,rfl,hL2.ins,rfl,x,dx,pa,lk.r,lk.b,lk.h,pvs,lk.qs,rfl,hL2,(fun e0=>by rw [e0] at hb; exact absurd hb (by decide)),fun _ H3 o3 hL3=>?_⟩⟩
        have o4:OffE [a.la] H1 H3:=fun b o nb e=>o3 b o (ne_of_none e nx) (ne_of_none e np) (o2 b o nb e)
        exact ⟨rfl,_,Stp.back hk hb,o4.mono (by simp),YAt.setLane hY gla o4 (k:=k) (x:=x) (dx:=dx) (pa:=pa) (o3 _ _ (ne_of_none gla nx) (ne_of_none gla np) g2) (ln:=laneB lk) hL3 np⟩
    · rintro σ' H2 ⟨rfl,s',hs,o2,hY2⟩
      obtain ⟨dvs,gdn,pd⟩:=hY2.hdn
      have hdl:dvs.length=st.done.length:=by rw [Paired.length pd,hs.done]
      have hp2:H2 p=some (.tup (mvV m)):=o2 _ _ (fun z=>by obtain ⟨xs,hz⟩:=hY.lsts _ z; rw [hp1] at hz; cases hz) hp1
      have hd:=hS.d
      refine ⟨_,rfl,a.y,ys.yard,a.dy,_,_,rfl,hY2.ins,Y.cl,Y.n6,rfl, .inl ⟨rfl,_,SqL.of gdn⟩,_,rfl,a.dn,_,_,rfl,rfl,gdn,by rw [PySem.sizeLine_eq]; omega,?_⟩
      have hY3:=hY2.pushD gdn ⟨p,rfl,hp2⟩
      rw [hs.done] at hY3
      exact q _ s' hs ((Same.offE s1).trans (o2.trans (upd_off (by simp)))) hY3
end
end K66
namespace K66
open PySem L2
theorem get_set {α:Type} {L:List α} {k j:Nat} {y z:α} (h:(L.set k y)[j]? = some z):(j=k∧z=y)∨(j ≠ k∧L[j]? = some z):=by
  by_cases e:k=j
  · subst e
    rw [List.getElem?_set_self'] at h
    cases hk:L[k]? with
    | none=>rw [hk] at h; cases h
    | some x=>rw [hk] at h; cases h; exact .inl ⟨rfl,rfl⟩
  · rw [List.getElem?_set_ne e] at h
    exact .inr ⟨Ne.symm e,h⟩
theorem set_get {α:Type} {L:List α} {k:Nat} {x y:α} (h:L[k]? = some x):(L.set k y)[k]? = some y:=by
  have:=(List.getElem?_eq_some_iff.mp h).1
  simp [this]
theorem sum_setN {α:Type} (f:α→Nat):∀ {L:List α} {k:Nat} {x y:α},L[k]? = some x→((L.set k y).map f).sum + f x=(L.map f).sum + f y
  | [],_,_,_,h=>by cases h
  | z :: L,0,x,y,h=>by cases h; simp only [List.set_cons_zero,List.map_cons,List.sum_cons]; omega
  | z :: L,k + 1,x,y,h=>by
    have:=sum_setN f (L:=L) (k:=k) (x:=x) (y:=y) h
    simp only [List.set_cons_succ,List.map_cons,List.sum_cons]; omega
theorem sum_setI {α:Type} (f:α→Int):∀ {L:List α} {k:Nat} {x y:α},L[k]? = some x→((L.set k y).map f).sum + f x=(L.map f).sum + f y
  | [],_,_,_,h=>by cases h
  | z :: L,0,x,y,h=>by cases h; simp only [List.set_cons_zero,List.map_cons,List.sum_cons]; omega
  | z :: L,k + 1,x,y,h=>by
    have:=sum_setI f (L:=L) (k:=k) (x:=x) (y:=y) h
    simp only [List.set_cons_succ,List.map_cons,List.sum_cons]; omega
def endL (a:YA) (l:Nat):Int:=(a.ps.getD l (0,0)).2
def sumQ (s:YS):Nat:=(s.lanes.map fun ln=>ln.qs.length).sum
def sumL (s:YS):Nat:=(s.lies.map fun qs=>qs.length).sum
def sumG (s:YS):Int:=(s.letters.map fun t=>t.gone).sum
structure Mid (a:YA) (s:YS) (m:Nat) (c:Int):Prop where
  lanes:s.lanes.length=a.ps.length
  lies:s.lies.length=a.n
  few:s.letters.length ≤ 60
  p40:a.ps.length ≤ 40
  lets:∀ (m:Nat) (t:LtS),s.letters[m]? = some t→∃ x y:Nat,t.start=(x:Int)∧t.goal=(y:Int)∧x < a.n∧y < a.n
  ways:∀ (m:Nat) (t:LtS),s.letters[m]? = some t→(∀ l ∈ t.way,l < a.ps.length)∧t.way.Nodup
  pcs:∀ (k:Nat) (ln:LnS),s.lanes[k]? = some ln→∀ q ∈ ln.qs,∃ (m:Nat) (t:LtS),q.1=(m:Int)∧s.letters[m]? = some t∧k ∈ t.way
  glen:∀ (m:Nat) (t:LtS),s.letters[m]? = some t→0 ≤ t.gone∧t.gone ≤ t.len∧t.len ≤ 60
  none0:∀ (m':Nat) (t:LtS),s.letters[m']? = some t→t.gone=0→t.way=[]∧m' ≠ m
  last:∀ (m:Nat) (t:LtS),s.letters[m]? = some t→∀ (i l:Nat),t.way[i]? = some l→endL a l=t.goal→i + 1=t.way.length
  head:∀ (m':Nat) (t:LtS),s.letters[m']? = some t→∀ (l:Nat) (ln:LnS),t.way.getLast? = some l→s.lanes[l]? = some ln→(m' = m∧c=0)∨((m':Int),(0:Int)) ∈ ln.qs∨endL a l=t.goal
  first:∀ (k:Nat) (ln:LnS),s.lanes[k]? = some ln→∀ (i j:Nat) (z:Int) (q:Int × Int),ln.qs[i]? = some (z,0)→j < i→ln.qs[j]? = some q→q.1 ≠ z
  at0:∀ (k:Nat) (ln:LnS),s.lanes[k]? = some ln→∀ (m':Nat) (t:LtS),((m':Int),(0:Int)) ∈ ln.qs→s.letters[m']? = some t→t.way.getLast? = some k
  gone:c=0→∀ (k:Nat) (ln:LnS),s.lanes[k]? = some ln→((m:Int),(0:Int)) ∉ ln.qs
  sum:(sumQ s:Int) + (sumL s:Int) + 1=sumG s
structure Jnv (a:YA) (s:YS):Prop where
  lanes:s.lanes.length=a.ps.length
  lies:s.lies.length=a.n
  few:s.letters.length ≤ 60
  p40:a.ps.length ≤ 40
  lets:∀ (m:Nat) (t:LtS),s.letters[m]? = some t→∃ x y:Nat,t.start=(x:Int)∧t.goal=(y:Int)∧x < a.n∧y < a.n
  ways:∀ (m:Nat) (t:LtS),s.letters[m]? = some t→(∀ l ∈ t.way,l < a.ps.length)∧t.way.Nodup
  pcs:∀ (k:Nat) (ln:LnS),s.lanes[k]? = some ln→∀ q ∈ ln.qs,∃ (m:Nat) (t:LtS),q.1=(m:Int)∧s.letters[m]? = some t∧k ∈ t.way
  glen:∀ (m:Nat) (t:LtS),s.letters[m]? = some t→0 ≤ t.gone∧t.gone ≤ t.len∧t.len ≤ 60
  none0:∀ (m':Nat) (t:LtS),s.letters[m']? = some t→t.gone=0→t.way=[]
  last:∀ (m:Nat) (t:LtS),s.letters[m]? = some t→∀ (i l:Nat),t.way[i]? = some l→endL a l=t.goal→i + 1=t.way.length
  head:∀ (m':Nat) (t:LtS),s.letters[m']? = some t→∀ (l:Nat) (ln:LnS),t.way.getLast? = some l→s.lanes[l]? = some ln→((m':Int),(0:Int)) ∈ ln.qs∨endL a l=t.goal
  first:∀ (k:Nat) (ln:LnS),s.lanes[k]? = some ln→∀ (i j:Nat) (z:Int) (q:Int × Int),ln.qs[i]? = some (z,0)→j < i→ln.qs[j]? = some q→q.1 ≠ z
  at0:∀ (k:Nat) (ln:LnS),s.lanes[k]? = some ln→∀ (m':Nat) (t:LtS),((m':Int),(0:Int)) ∈ ln.qs→s.letters[m']? = some t→t.way.getLast? = some k
  sum:(sumQ s:Int) + (sumL s:Int)=sumG s
theorem nodup_len:∀ (n:Nat) (l:List Nat),l.Nodup→(∀ x ∈ l,x < n)→l.length ≤ n
  | 0,l,_,h=>by
    cases l with
    | nil=>exact Nat.le_refl _
    | cons x _=>exact absurd (h x List.mem_cons_self) (by omega)
  | n + 1,l,hn,h=>by
    have h1:=nodup_len n (l.filter fun x=>decide (x ≠ n)) (hn.filter _) fun x hx=>by
      obtain ⟨a,b⟩:=List.mem_filter.mp hx
      have:=h x a
      have:=of_decide_eq_true b
      omega
    have h2:l.length ≤ (l.filter fun x=>decide (x ≠ n)).length + 1:=by
      clear h1 h
      induction l with
      | nil=>exact Nat.zero_le _
      | cons x l ih =>
        rw [List.nodup_cons] at hn
        by_cases e:x=n
        · subst e
          have:(l.filter fun y=>decide (y ≠ x))=l:=List.filter_eq_self.mpr fun y hy=>decide_eq_true fun z=>hn.1 (z ▸ hy)
          rw [List.filter_cons_of_neg (by simp),this]
          exact Nat.le_refl _
        · rw [List.filter_cons_of_pos (by simpa using e)]
          have:=ih hn.2
          simp only [List.length_cons]
          omega
    omega
theorem Jnv.ok {a:YA} {s:YS} (h:Jnv a s):YOk a s:=⟨h.lanes,h.lies,h.lets,fun m t ht=>⟨(h.ways m t ht).1,by have:=nodup_len _ _ (h.ways m t ht).2 (h.ways m t ht).1; have:=h.p40; omega⟩,h.pcs,h.few⟩
theorem mem_tail {α:Type} {x:α} {l:List α} (h:x ∈ l.tail):x ∈ l:=List.mem_of_mem_tail h
theorem head_idx {α:Type} {l:List α} {x:α} (h:l.head? = some x):l[0]? = some x:=by cases l with
  | nil=>cases h
  | cons y r=>exact h
theorem mem_idx {α:Type} {l:List α} {x:α} (h:x ∈ l):∃ i:Nat,l[i]? = some x:=by
  obtain ⟨i,hi,e⟩:=List.getElem_of_mem h
  exact ⟨i,by rw [List.getElem?_eq_getElem hi,e]⟩
theorem tail_idx {α:Type} (l:List α) (i:Nat):l.tail[i]? = l[i + 1]?:=by cases l with
  | nil=>simp
  | cons y r=>rfl
theorem mid_pull {a:YA} {s:YS} {k m:Nat} {c:Int} {lk:LnS} (J:Jnv a s) (hk:s.lanes[k]? = some lk) (hq:lk.qs.head? = some ((m:Int),c)):Mid a { s with lanes:=s.lanes.set k (laneP lk) } m c:=by
  have h0:=head_idx hq
  have inn:∀ (j:Nat) (ln':LnS),(s.lanes.set k (laneP lk))[j]? = some ln'→∃ ln,s.lanes[j]? = some ln∧(∀ q ∈ ln'.qs,q ∈ ln.qs)∧∃ d,(∀ i,ln'.qs[i]? = ln.qs[i + d]?)∧(ln'.qs=ln.qs∨(j=k∧ln=lk∧ln'.qs=lk.qs.tail)):=fun j ln' h=>by
    rcases get_set h with ⟨rfl,rfl⟩ | ⟨ne,h⟩
    · exact ⟨lk,hk,fun q hq=>mem_tail hq,1,fun i=>tail_idx _ i, .inr ⟨rfl,rfl,rfl⟩⟩
    · exact ⟨ln',h,fun q hq=>hq,0,fun i=>rfl, .inl rfl⟩
  have keep:∀ (j:Nat) (ln:LnS),s.lanes[j]? = some ln→∃ ln',(s.lanes.set k (laneP lk))[j]? = some ln'∧∀ q ∈ ln.qs,q=((m:Int),c)∨q ∈ ln'.qs:=fun j ln h=>by
    by_cases e:j=k
    · subst e
      rw [hk] at h
      cases h
      refine ⟨laneP lk,set_get hk,fun q hq'=>?_⟩
      show _∨q ∈ lk.qs.tail
      cases hl:lk.qs with
      | nil=>rw [hl] at hq; cases hq
      | cons z r =>
        rw [hl] at hq hq'
        cases hq
        exact (List.mem_cons.mp hq').imp id id
    · exact ⟨ln,by rw [List.getElem?_set_ne (Ne.symm e)]; exact h,fun q hq => .inr hq⟩
  refine ⟨by rw [← J.lanes]; simp,J.lies,J.few,J.p40,J.lets,J.ways,?_,J.glen,?_,J.last,?_,?_,?_,?_,?_⟩
  · intro j ln' h q hq'
    obtain ⟨ln,hj,h1,_⟩:=inn j ln' h
    exact J.pcs j ln hj q (h1 q hq')
  · intro m' t ht hg
    refine ⟨J.none0 m' t ht hg,fun e=>?_⟩
    subst e
    obtain ⟨m2,t2,e2,ht2,hk2⟩:=J.pcs k lk hk _ (List.mem_of_head? hq)
    have:m' = m2:=by have:(m':Int)=(m2:Int):=e2; omega
    subst this
    rw [ht] at ht2
    cases ht2
    rw [J.none0 m' t ht hg] at hk2
    cases hk2
  · intro m' t ht l ln' hl hln'
    obtain ⟨ln,hj,h1,_⟩:=inn l ln' hln'
    rcases J.head m' t ht l ln hl hj with h | h
    · obtain ⟨ln2,h2,h3⟩:=keep l ln hj
      have h2:{ s with lanes:=s.lanes.set k (laneP lk) }.lanes[l]? = some ln2:=h2
      rw [hln'] at h2
      cases h2
      rcases h3 _ h with e | h
      · injection e with e1 e2
        exact .inl ⟨by omega,e2.symm⟩
      · exact .inr (.inl h)
    · exact .inr (.inr h)
  · intro j ln' h i i' z q hi hlt hq'
    obtain ⟨ln,hj,_,d,h2,_⟩:=inn j ln' h
    rw [h2] at hi hq'
    exact J.first j ln hj (i + d) (i' + d) z q hi (by omega) hq'
  · intro j ln' h m' t hm' ht
    obtain ⟨ln,hj,h1,_⟩:=inn j ln' h
    exact J.at0 j ln hj m' t (h1 _ hm') ht
  · intro e0 j ln' h hm'
    subst e0
    obtain ⟨ln,hj,h1,d,h2,h3⟩:=inn j ln' h
    obtain ⟨m2,t2,e2,ht2,_⟩:=J.pcs k lk hk _ (List.mem_of_head? hq)
    have:m=m2:=by have:(m:Int)=(m2:Int):=e2; omega
    subst this
    have b1:=J.at0 k lk hk m t2 (List.mem_of_head? hq) ht2
    have b2:=J.at0 j ln hj m t2 (h1 _ hm') ht2
    rw [b1] at b2
    have b2:=Option.some.inj b2
    subst b2
    rcases get_set h with ⟨_,rfl⟩ | ⟨ne,_⟩
    · obtain ⟨i,hi⟩:=mem_idx hm'
      have hi:lk.qs.tail[i]? = some ((m:Int),0):=hi
      rw [tail_idx] at hi
      exact J.first k lk hk (i + 1) 0 _ _ hi (by omega) h0 rfl
    · exact ne rfl
  · have:=sum_setN (fun ln:LnS=>ln.qs.length) (y:=laneP lk) hk
    have hl:(laneP lk).qs.length + 1=lk.qs.length:=by
      show lk.qs.tail.length + 1=_
      cases hl:lk.qs with
      | nil=>rw [hl] at hq; cases hq
      | cons _ _=>rfl
    have h1:=J.sum
    unfold sumQ at h1 ⊢
    show ((((s.lanes.set k (laneP lk)).map fun ln=>ln.qs.length).sum:Nat):Int) + (sumL s:Int) + 1=sumG s
    omega
theorem mid_gone {a:YA} {s:YS} {k:Nat} {t:LtS} (J:Jnv a s) (ht:s.letters[k]? = some t) (hg:t.gone ≠ t.len):Mid a (goneS s k t) k t.gone:=by
  have g0:=J.glen k t ht
  have lk:∀ (m:Nat) (t':LtS),(s.letters.set k { t with gone:=t.gone + 1 })[m]? = some t'→∃ t0,s.letters[m]? = some t0∧t'.start=t0.start∧t'.goal=t0.goal∧t'.way=t0.way∧t'.len=t0.len∧((m=k∧t'.gone=t.gone + 1)∨(m ≠ k∧t'.gone=t0.gone)):=fun m t' h=>by
    rcases get_set h with ⟨rfl,rfl⟩ | ⟨ne,h⟩
    · exact ⟨t,ht,rfl,rfl,rfl,rfl, .inl ⟨rfl,rfl⟩⟩
    · exact ⟨t',h,rfl,rfl,rfl,rfl, .inr ⟨ne,rfl⟩⟩
  refine ⟨J.lanes,J.lies,by show (s.letters.set _ _).length ≤ 60; rw [List.length_set]; exact J.few,J.p40,?_,?_,?_,?_,?_,?_,?_,J.first,?_,?_,?_⟩
  · intro m t' h
    obtain ⟨t0,h0,e1,e2,_⟩:=lk m t' h
    rw [e1,e2]; exact J.lets m t0 h0
  · intro m t' h
    obtain ⟨t0,h0,e1,e2,e3,_⟩:=lk m t' h
    rw [e3]; exact J.ways m t0 h0
  · intro j ln h q hq
    obtain ⟨m,t0,e,h0,hj⟩:=J.pcs j ln h q hq
    by_cases em:m=k
    · subst em
      rw [ht] at h0
      cases h0
      exact ⟨m,_,e,set_get ht,hj⟩
    · exact ⟨m,t0,e,by show (s.letters.set _ _)[m]? = _; rw [List.getElem?_set_ne (Ne.symm em)]; exact h0,hj⟩
  · intro m t' h
    obtain ⟨t0,h0,e1,e2,e3,e4,e5⟩:=lk m t' h
    have:=J.glen m t0 h0
    rcases e5 with ⟨rfl,e5⟩ | ⟨_,e5⟩
    · rw [ht] at h0
      cases h0
      rw [e4,e5]; omega
    · rw [e4,e5]; exact this
  · intro m t' h hz
    obtain ⟨t0,h0,e1,e2,e3,e4,e5⟩:=lk m t' h
    rcases e5 with ⟨rfl,e5⟩ | ⟨ne,e5⟩
    · omega
    · rw [e3]; exact ⟨J.none0 m t0 h0 (by omega),ne⟩
  · intro m t' h i l hi hl
    obtain ⟨t0,h0,e1,e2,e3,e4,e5⟩:=lk m t' h
    rw [e3] at hi ⊢
    rw [e2] at hl
    exact J.last m t0 h0 i l hi hl
  · intro m t' h l ln hl hln
    obtain ⟨t0,h0,e1,e2,e3,e4,e5⟩:=lk m t' h
    rw [e3] at hl
    rw [e2]
    exact .inr (J.head m t0 h0 l ln hl hln)
  · intro j ln h m t' hm h'
    obtain ⟨t0,h0,e1,e2,e3,e4,e5⟩:=lk m t' h'
    rw [e3]
    exact J.at0 j ln h m t0 hm h0
  · intro e0 j ln h hm
    obtain ⟨m,t0,e,h0,hj⟩:=J.pcs j ln h _ hm
    have:k=m:=by have:(k:Int)=(m:Int):=e; omega
    subst this
    rw [ht] at h0
    cases h0
    rw [J.none0 k t ht e0] at hj
    cases hj
  · have:=sum_setI (fun t:LtS=>t.gone) (y:={ t with gone:=t.gone + 1 }) ht
    have h1:=J.sum
    unfold sumG at h1 ⊢
    show (sumQ s:Int) + (sumL s:Int) + 1=((s.letters.set k { t with gone:=t.gone + 1 }).map fun t=>t.gone).sum
    have:({ t with gone:=t.gone + 1 }:LtS).gone=t.gone + 1:=rfl
    omega
theorem last_idx {l:List Nat} {x:Nat} (h:l.getLast? = some x):l[l.length - 1]? = some x:=by rw [← h,List.getLast?_eq_getElem?]
theorem mid_enter {a:YA} {s:YS} {m l:Nat} {c:Int} {t:LtS} {ln:LnS} (M:Mid a s m c) (ht:s.letters[m]? = some t) (hln:s.lanes[l]? = some ln) (h0:c=0→l ∉ t.way∧∀ x ∈ t.way,endL a x ≠ t.goal) (h1:c ≠ 0→l ∈ t.way):Jnv a (enterS s m c l t ln):=by
  have hll:l < a.ps.length:=by rw [← M.lanes]; exact (List.getElem?_eq_some_iff.mp hln).1
  have lk:∀ (m':Nat) (t':LtS),(enterS s m c l t ln).letters[m']? = some t'→∃ t0,s.letters[m']? = some t0∧t'.start=t0.start∧t'.goal=t0.goal∧t'.len=t0.len∧t'.gone=t0.gone∧((c=0∧m' = m∧t0=t∧t'.way=t.way ++ [l])∨(¬ (c=0∧m' = m)∧t'.way=t0.way)):=fun m' t' h=>by
    have h:(if c=0 then s.letters.set m { t with way:=t.way ++ [l] } else s.letters)[m']? = some t':=h
    by_cases hc:c=0
    · rw [if_pos hc] at h
      rcases get_set h with ⟨rfl,rfl⟩ | ⟨ne,h⟩
      · exact ⟨t,ht,rfl,rfl,rfl,rfl, .inl ⟨hc,rfl,rfl,rfl⟩⟩
      · exact ⟨t',h,rfl,rfl,rfl,rfl, .inr ⟨fun z=>ne z.2,rfl⟩⟩
    · rw [if_neg hc] at h
      exact ⟨t',h,rfl,rfl,rfl,rfl, .inr ⟨fun z=>hc z.1,rfl⟩⟩
  have lk2:∀ (m':Nat) (t0:LtS),s.letters[m']? = some t0→∃ t',(enterS s m c l t ln).letters[m']? = some t'∧(∀ x ∈ t0.way,x ∈ t'.way)∧(m' = m→l ∈ t'.way):=fun m' t0 h=>by
    by_cases hc:c=0
    · by_cases e:m' = m
      · subst e
        rw [ht] at h
        cases h
        refine ⟨{ t with way:=t.way ++ [l] },by show (if c=0 then s.letters.set m' { t with way:=t.way ++ [l] } else s.letters)[m']? = _; rw [if_pos hc]; exact set_get ht,fun x hx=>List.mem_append_left _ hx,fun _=>by show l ∈ t.way ++ [l]; simp⟩
      · exact ⟨t0,by show (if c=0 then s.letters.set m { t with way:=t.way ++ [l] } else s.letters)[m']? = _; rw [if_pos hc,List.getElem?_set_ne (Ne.symm e)]; exact h,fun x hx=>hx,fun z=>absurd z e⟩
    · refine ⟨t0,by show (if c=0 then s.letters.set m { t with way:=t.way ++ [l] } else s.letters)[m']? = _; rw [if_neg hc]; exact h,fun x hx=>hx,fun z=>?_⟩
      subst z
      rw [ht] at h
      cases h
      exact h1 hc
  have ln':∀ (j:Nat) (l':LnS),(enterS s m c l t ln).lanes[j]? = some l'→(j=l∧l'.qs=ln.qs ++ [((m:Int),c)])∨(j ≠ l∧s.lanes[j]? = some l'):=fun j l' h=>by
    rcases get_set h with ⟨rfl,rfl⟩ | ⟨ne,h⟩
    · exact .inl ⟨rfl,rfl⟩
    · exact .inr ⟨ne,h⟩
  have old:∀ (j:Nat) (l':LnS),(enterS s m c l t ln).lanes[j]? = some l'→∀ q ∈ l'.qs,(j=l∧q=((m:Int),c))∨∃ l0,s.lanes[j]? = some l0∧q ∈ l0.qs:=fun j l' h q hq=>by
    rcases ln' j l' h with ⟨rfl,e⟩ | ⟨ne,h⟩
    · rw [e,List.mem_append] at hq
      rcases hq with hq | hq
      · exact .inr ⟨ln,hln,hq⟩
      · exact .inl ⟨rfl,by simpa using hq⟩
    · exact .inr ⟨l',h,hq⟩
  refine ⟨by rw [← M.lanes]; show (s.lanes.set _ _).length=_; simp,M.lies,?_,M.p40,?_,?_,?_,?_,?_,?_,?_,?_,?_,?_⟩
  · show (if c=0 then s.letters.set m { t with way:=t.way ++ [l] } else s.letters).length ≤ 60
    by_cases hc:c=0
    · rw [if_pos hc,List.length_set]; exact M.few
    · rw [if_neg hc]; exact M.few
  · intro m' t' h
    obtain ⟨t0,h2,e1,e2,_⟩:=lk m' t' h
    rw [e1,e2]; exact M.lets m' t0 h2
  · intro m' t' h
    obtain ⟨t0,h2,_,_,_,_,e⟩:=lk m' t' h
    obtain ⟨w1,w2⟩:=M.ways m' t0 h2
    rcases e with ⟨hc,rfl,rfl,e⟩ | ⟨_,e⟩
    · rw [e]
      refine ⟨fun x hx=>?_,?_⟩
      · rcases List.mem_append.mp hx with hx | hx
        · exact w1 x hx
        · rw [List.mem_singleton.mp hx]; exact hll
      · rw [List.nodup_append]
        exact ⟨w2,by simp,fun x hx y hy=>by rw [List.mem_singleton.mp hy]; exact fun z=>(h0 hc).1 (z ▸ hx)⟩
    · rw [e]; exact ⟨w1,w2⟩
  · intro j l' h q hq
    rcases old j l' h q hq with ⟨rfl,rfl⟩ | ⟨l0,h2,hq⟩
    · obtain ⟨t',h3,_,h4⟩:=lk2 m t ht
      exact ⟨m,t',rfl,h3,h4 rfl⟩
    · obtain ⟨m',t0,e,h3,hj⟩:=M.pcs j l0 h2 q hq
      obtain ⟨t',h4,h5,_⟩:=lk2 m' t0 h3
      exact ⟨m',t',e,h4,h5 j hj⟩
  · intro m' t' h
    obtain ⟨t0,h2,_,_,e3,e4,_⟩:=lk m' t' h
    rw [e3,e4]; exact M.glen m' t0 h2
  · intro m' t' h hz
    obtain ⟨t0,h2,_,_,_,e4,e⟩:=lk m' t' h
    rw [e4] at hz
    obtain ⟨w1,w2⟩:=M.none0 m' t0 h2 hz
    rcases e with ⟨hc,rfl,_⟩ | ⟨_,e⟩
    · exact absurd rfl w2
    · rw [e]; exact w1
  · intro m' t' h i x hi hx
    obtain ⟨t0,h2,_,e2,_,_,e⟩:=lk m' t' h
    rw [e2] at hx
    rcases e with ⟨hc,rfl,rfl,e⟩ | ⟨_,e⟩
    · rw [e] at hi ⊢
      by_cases hlt:i < t0.way.length
      · rw [List.getElem?_append_left hlt] at hi
        exact absurd hx ((h0 hc).2 x (List.mem_of_getElem? hi))
      · have:=(List.getElem?_eq_some_iff.mp hi).1
        rw [List.length_append,List.length_singleton] at this ⊢
        omega
    · rw [e] at hi ⊢
      exact M.last m' t0 h2 i x hi hx
  · intro m' t' h x l' hx hl'
    obtain ⟨t0,h2,_,e2,_,_,e⟩:=lk m' t' h
    rcases e with ⟨hc,rfl,rfl,e⟩ | ⟨ne,e⟩
    · rw [e] at hx
      have hx:l=x:=by simpa using hx
      subst hx
      rcases ln' l l' hl' with ⟨_,e'⟩ | ⟨ne,_⟩
      · left
        rw [e',hc]; simp
      · exact absurd rfl ne
    · rw [e] at hx
      rcases ln' x l' hl' with ⟨rfl,e'⟩ | ⟨ne',h'⟩
      · rcases M.head m' t0 h2 x ln hx hln with z | z | z
        · exact absurd ⟨z.2,z.1⟩ ne
        · exact .inl (by rw [e']; exact List.mem_append_left _ z)
        · rw [e2]; exact .inr z
      · rcases M.head m' t0 h2 x l' hx h' with z | z | z
        · exact absurd ⟨z.2,z.1⟩ ne
        · exact .inl z
        · rw [e2]; exact .inr z
  · intro j l' h i i' z q hi hlt hq
    rcases ln' j l' h with ⟨rfl,e⟩ | ⟨_,h'⟩
    · rw [e] at hi hq
      by_cases hl2:i < ln.qs.length
      · rw [List.getElem?_append_left hl2] at hi
        rw [List.getElem?_append_left (by omega)] at hq
        exact M.first j ln hln i i' z q hi hlt hq
      · have h3:=(List.getElem?_eq_some_iff.mp hi).1
        rw [List.length_append,List.length_singleton] at h3
        have ei:i=ln.qs.length:=by omega
        subst ei
        rw [List.getElem?_concat_length] at hi
        have hi:=Option.some.inj hi
        injection hi with e1 e2
        subst e1
        rw [List.getElem?_append_left hlt] at hq
        intro ez
        obtain ⟨m',t0,e3,h4,h5⟩:=M.pcs j ln hln q (List.mem_of_getElem? hq)
        have em0:(m':Int)=(m:Int):=by rw [← e3]; exact ez
        have:m=m':=by omega
        subst this
        rw [ht] at h4
        cases h4
        exact (h0 e2).1 h5
    · exact M.first j l' h' i i' z q hi hlt hq
  · intro j l' h m' t' hm h'
    obtain ⟨t0,h2,_,_,_,_,e⟩:=lk m' t' h'
    rcases old j l' h _ hm with ⟨rfl,e'⟩ | ⟨l0,h3,hm⟩
    · injection e' with e1 e2
      have em:m' = m:=by omega
      subst em
      rcases e with ⟨_,_,_,e⟩ | ⟨ne,_⟩
      · rw [e]; simp
      · exact absurd ⟨e2.symm,rfl⟩ ne
    · rcases e with ⟨hc,rfl,rfl,e⟩ | ⟨ne,e⟩
      · exact absurd hm (M.gone hc j l0 h3)
      · rw [e]; exact M.at0 j l0 h3 m' t0 hm h2
  · have q1:=sum_setN (fun ln:LnS=>ln.qs.length) (y:=laneIn ln m c t.len) hln
    have q2:(laneIn ln m c t.len).qs.length=ln.qs.length + 1:=by show (ln.qs ++ [_]).length=_; simp
    have q3:sumG (enterS s m c l t ln)=sumG s:=by
      unfold sumG
      show ((if c=0 then s.letters.set m { t with way:=t.way ++ [l] } else s.letters).map fun t=>t.gone).sum=_
      by_cases hc:c=0
      · rw [if_pos hc]
        have:=sum_setI (fun t:LtS=>t.gone) (y:={ t with way:=t.way ++ [l] }) ht
        have e:({ t with way:=t.way ++ [l] }:LtS).gone=t.gone:=rfl
        omega
      · rw [if_neg hc]
    have h2:=M.sum
    rw [q3]
    unfold sumQ at h2 ⊢
    show ((((s.lanes.set l (laneIn ln m c t.len)).map fun ln=>ln.qs.length).sum:Nat):Int) + (sumL s:Int)=sumG s
    omega
theorem mid_lie {a:YA} {s:YS} {m e:Nat} {c:Int} {t:LtS} {qs:List (Int × Int)} (M:Mid a s m c) (ht:s.letters[m]? = some t) (hqs:s.lies[e]? = some qs) (h0:c=0→∀ x,t.way.getLast? = some x→endL a x=t.goal):Jnv a { s with lies:=s.lies.set e (qs ++ [((m:Int),c)]) }:=by
  refine ⟨M.lanes,by show (s.lies.set _ _).length=_; rw [List.length_set]; exact M.lies,M.few,M.p40,M.lets,M.ways,M.pcs,M.glen,fun m' t' h z=>(M.none0 m' t' h z).1,M.last,?_,M.first,M.at0,?_⟩
  · intro m' t' h x l' hx hl'
    rcases M.head m' t' h x l' hx hl' with ⟨rfl,hc⟩ | z | z
    · have h:s.letters[m']? = some t':=h
      rw [ht] at h
      cases h
      exact .inr (h0 hc x hx)
    · exact .inl z
    · exact .inr z
  · have:=sum_setN (fun qs:List (Int × Int)=>qs.length) (y:=qs ++ [((m:Int),c)]) hqs
    have h2:=M.sum
    unfold sumL at h2 ⊢
    show (sumQ s:Int) + ((((s.lies.set e (qs ++ [((m:Int),c)])).map fun qs=>qs.length).sum:Nat):Int)=sumG s
    rw [List.length_append,List.length_singleton] at this
    omega
theorem Jnv.back {a:YA} {s:YS} {k:Nat} {lk lk':LnS} (J:Jnv a s) (hk:s.lanes[k]? = some lk) (e:lk'.qs=lk.qs):Jnv a { s with lanes:=s.lanes.set k lk' }:=by
  have inn:∀ (j:Nat) (l':LnS),(s.lanes.set k lk')[j]? = some l'→∃ l0,s.lanes[j]? = some l0∧l'.qs=l0.qs:=fun j l' h=>by
    rcases get_set h with ⟨rfl,rfl⟩ | ⟨_,h⟩
    · exact ⟨lk,hk,e⟩
    · exact ⟨l',h,rfl⟩
  refine ⟨by rw [← J.lanes]; simp,J.lies,J.few,J.p40,J.lets,J.ways,?_,J.glen,J.none0,J.last,?_,?_,?_,?_⟩
  · intro j l' h q hq
    obtain ⟨l0,h0,e0⟩:=inn j l' h
    rw [e0] at hq
    exact J.pcs j l0 h0 q hq
  · intro m t ht x l' hx hl'
    obtain ⟨l0,h0,e0⟩:=inn x l' hl'
    rw [e0]
    exact J.head m t ht x l0 hx h0
  · intro j l' h
    obtain ⟨l0,h0,e0⟩:=inn j l' h
    rw [e0]
    exact J.first j l0 h0
  · intro j l' h
    obtain ⟨l0,h0,e0⟩:=inn j l' h
    rw [e0]
    exact J.at0 j l0 h0
  · have:=sum_setN (fun ln:LnS=>ln.qs.length) (y:=lk') hk
    have h1:=J.sum
    have e':=congrArg List.length e
    unfold sumQ at h1 ⊢
    show ((((s.lanes.set k lk').map fun ln=>ln.qs.length).sum:Nat):Int) + (sumL s:Int)=sumG s
    omega
theorem Jnv.step {a:YA} {s s':YS} {m:Mv} (J:Jnv a s) (h:Stp a s m s'):Jnv a s':=by
  cases h with
  | @inn k l t ln ht hg hl hln ho =>
    have M:=mid_gone J ht hg
    refine mid_enter (t:={ t with gone:=t.gone + 1 }) M (set_get ht) hln (fun hc=>?_) (fun hc=>?_)
    · have hw:=J.none0 k t ht hc
      show l ∉ t.way∧∀ x ∈ t.way,endL a x ≠ t.goal
      rw [hw]
      exact ⟨by simp,by simp⟩
    · unfold firstL at hl
      rw [if_neg hc] at hl
      exact List.mem_of_mem_take hl
  | @on k l m c lk ln t hk hq ht hl hln ho =>
    have M:=mid_pull J hk hq
    have hw:wantS a s k=if c=0 then (onw a k t.goal.toNat).filter (fun l=>!decide (l ∈ t.way)) else (t.way.drop (t.way.idxOf k + 1)).take 1:=by
      unfold wantS frontQ
      rw [hk]
      dsimp only
      rw [hq]
      dsimp only
      rw [Int.toNat_natCast,ht]
    rw [hw] at hl
    refine mid_enter M ht hln (fun hc=>?_) (fun hc=>?_)
    · rw [if_pos hc] at hl
      obtain ⟨h1,h2⟩:=List.mem_filter.mp hl
      refine ⟨by simpa using h2,fun x hx ex=>?_⟩
      subst hc
      obtain ⟨i,hi⟩:=mem_idx hx
      have h3:=J.last m t ht i x hi ex
      have h4:=J.at0 k lk hk m t (List.mem_of_head? hq) ht
      have h5:=last_idx h4
      rw [show t.way.length - 1=i by omega,hi] at h5
      have h5:=Option.some.inj h5
      subst h5
      unfold onw at h1
      obtain ⟨x0,y0,e1,e2,_,_⟩:=J.lets m t ht
      rw [if_pos (by show endL a x=_; rw [ex,e2,Int.toNat_natCast])] at h1
      cases h1
    · rw [if_neg hc] at hl
      exact List.mem_of_mem_drop (List.mem_of_mem_take hl)
  | @lie k m e c lk t qs hk hq ht hg he hqs =>
    have M:=mid_pull J hk hq
    have:=mid_lie (s:={ s with lanes:=s.lanes.set k (laneP lk) }) M ht hqs (fun hc x hx=>?_)
    · exact this
    · subst hc
      have h4:=J.at0 k lk hk m t (List.mem_of_head? hq) ht
      rw [h4] at hx
      have hx:=Option.some.inj hx
      subst hx
      show (a.ps.getD k (0,0)).2=t.goal
      rw [he,hg]
  | @back k lk hk hb=>exact J.back hk rfl
theorem Jnv.next {a:YA} {s:YS} {k m:Nat} {c:Int} {lk:LnS} {t:LtS} (J:Jnv a s) (hk:s.lanes[k]? = some lk) (hq:lk.qs.head? = some ((m:Int),c)) (hc:c ≠ 0) (ht:s.letters[m]? = some t) :
    (endL a k=t.goal→t.way.idxOf k + 1=t.way.length)∧(endL a k ≠ t.goal→t.way.idxOf k + 1 < t.way.length):=by
  obtain ⟨m',t',e,ht',hkw⟩:=J.pcs k lk hk _ (List.mem_of_head? hq)
  have:m=m':=by have:(m:Int)=(m':Int):=e; omega
  subst this
  rw [ht] at ht'
  cases ht'
  have hi:t.way.idxOf k < t.way.length:=List.idxOf_lt_length_of_mem hkw
  have hx:t.way[t.way.idxOf k]? = some k:=by rw [List.getElem?_eq_getElem hi,List.getElem_idxOf]
  refine ⟨fun h=>J.last m t ht _ k hx h,fun h=>?_⟩
  by_cases hlt:t.way.idxOf k + 1 < t.way.length
  · exact hlt
  · exfalso
    have hl:t.way.getLast? = some k:=by rw [List.getLast?_eq_getElem?,show t.way.length - 1=t.way.idxOf k by omega]; exact hx
    rcases J.head m t ht k lk hl hk with z | z
    · obtain ⟨i,hi⟩:=mem_idx z
      have h0:=head_idx hq
      have hi0:0 < i:=by
        cases i with
        | zero=>rw [h0] at hi; injection hi with hi; injection hi with _ hi; exact absurd hi hc
        | succ i=>omega
      exact J.first k lk hk i 0 _ _ hi hi0 h0 rfl
    · exact h z
def sumLen (s:YS):Int:=(s.letters.map fun t=>t.len).sum
theorem sum_leI {α:Type} (f g:α→Int):∀ {L:List α},(∀ (m:Nat) (t:α),L[m]? = some t→f t ≤ g t)→(L.map f).sum ≤ (L.map g).sum
  | [],_=>by simp
  | x :: L,h=>by
    have h1:=h 0 x rfl
    have h2:=sum_leI f g (L:=L) fun m t ht=>h (m + 1) t ht
    simp only [List.map_cons,List.sum_cons]; omega
theorem sum_bound {α:Type} (g:α→Int):∀ {L:List α},(∀ (m:Nat) (t:α),L[m]? = some t→g t ≤ 60)→(L.map g).sum ≤ 60 * L.length
  | [],_=>by simp
  | x :: L,h=>by
    have h1:=h 0 x rfl
    have h2:=sum_bound g (L:=L) fun m t ht=>h (m + 1) t ht
    simp only [List.map_cons,List.sum_cons,List.length_cons]; omega
theorem Jnv.lying {a:YA} {s:YS} (J:Jnv a s):(sumL s:Int) ≤ sumLen s∧(sumQ s:Int) + (sumL s:Int) ≤ 3600:=by
  have h1:=sum_leI (fun t:LtS=>t.gone) (fun t=>t.len) (L:=s.letters) fun m t ht=>(J.glen m t ht).2.1
  have h2:=J.sum
  have h3:=sum_bound (fun t:LtS=>t.len) (L:=s.letters) fun m t ht=>(J.glen m t ht).2.2
  have h4:=J.few
  unfold sumG at h2
  unfold sumLen
  omega
theorem mem_sumN {α:Type} (f:α→Nat):∀ {L:List α} {k:Nat} {x:α},L[k]? = some x→f x ≤ (L.map f).sum
  | [],_,_,h=>by cases h
  | z :: L,0,x,h=>by cases h; simp only [List.map_cons,List.sum_cons]; omega
  | z :: L,k + 1,x,h=>by
    have:=mem_sumN f (L:=L) (k:=k) (x:=x) h
    simp only [List.map_cons,List.sum_cons]; omega
theorem Jnv.sml {a:YA} {s:YS} (J:Jnv a s) (hd:s.done.length ≤ 100000):Sml s:=by
  have h:=J.lying.2
  refine ⟨fun k ln hk=>?_,fun p qs hp=>?_,hd⟩
  · have:=mem_sumN (fun ln:LnS=>ln.qs.length) hk
    unfold sumQ at h
    omega
  · have:=mem_sumN (fun qs:List (Int × Int)=>qs.length) hp
    unfold sumL at h
    omega
end K66
namespace L2
open PySem PySem.Spec PyProof.Rows
section
variable {X:Cx} {a:Expr} {ta:TE} {pos:Pos}
def tNotT (K:PySem.W.Frag) (ta:TE):TE:=fun σ H Q=>ta σ H fun x H1=>∃ k,TruV K x H1 k∧Q (.bl (!k)) H1
theorem pe_notT (ha:PE X a ta):PE X (.UnaryOp .Not a pos) (tNotT X.K ta):=by
  intro pins s σ H Q I h
  refine UnaryOp_ (thn (ha pins s σ H _ I h) fun v s1 ⟨x,H1,I1,r1,q1⟩=>?_)
  obtain ⟨k,t,q1⟩:=q1
  refine not_of (thn (tru_ok pins s1 σ H1 x v (fun b H2=>b=k∧H2=H1) I1 r1 ⟨k,t,rfl,rfl⟩) fun b s2 ⟨H2,I2,e1,e2⟩=>?_)
  subst e1 e2
  exact ⟨.bl (!b),H2,I2,rfl,q1⟩
end
end L2
namespace K66
open PySem L2
def stillS (a:YA) (s:YS):Bool:=(movesS a s).isEmpty && !endB s
def spStill (K:PySem.W.Frag) (c:Cs) (TC:Addr) (J:TJ) (ys:Ys):Sp:=fun vs H Q _=>∃ (a:YA) (s:YS),vs=[.ref a.y]∧YIn K c TC J ys H a s∧∀ H',Same H H'→Q (.bl (stillS a s)) H'
def waitsS (a:YA) (s:YS) (m:Nat):List (Nat × List Nat):=((List.range m).filter fun k=>(frontQ s k).isSome).map fun k=>(k,wantS a s k)
def WtV (H:Hp) (v:V) (w:Nat × List Nat):Prop:=∃ t u,v = .ref t∧H t=some (.tup [.int w.1, .ref u])∧H u=some (.tup (nV w.2))
theorem WtV.keep {H H':Hp} {v:V} {w:Nat × List Nat} (k:KeepN H H') (h:WtV H v w):WtV H' v w:=by
  obtain ⟨t,u,e,h1,h2⟩:=h
  exact ⟨t,u,e,k _ _ h1 True.intro,k _ _ h2 True.intro⟩
def spWaits (K:PySem.W.Frag) (c:Cs) (TC:Addr) (J:TJ) (ys:Ys):Sp:=fun vs H Q _=>∃ (a:YA) (s:YS),vs=[.ref a.y]∧YIn K c TC J ys H a s ∧
  ∀ (D:Addr) (fvs:List V) (H':Hp),Same H H'→H D=none→H' D=some (.lst fvs)→Paired (WtV H') fvs (waitsS a s a.ps.length)→Q (.ref D) H'
theorem waits_succ (a:YA) (s:YS) (i:Nat):waitsS a s (i + 1)=if (frontQ s i).isSome then waitsS a s i ++ [(i,wantS a s i)] else waitsS a s i:=by
  unfold waitsS
  rw [List.range_succ,List.filter_append]
  cases h:(frontQ s i).isSome with
  | true=>simp [h]
  | false=>simp [h]
theorem waits_len (a:YA) (s:YS) (i:Nat):(waitsS a s i).length ≤ i:=by
  unfold waitsS
  rw [List.length_map]
  have:=List.length_filter_le (fun k=>(frontQ s k).isSome) (List.range i)
  rw [List.length_range] at this
  exact this
section
variable {P:Program} {w:World} {K:PySem.W.Frag} {mg:Str→Option Value} {base:Heap}
theorem scStl:FnScope ["yard"] ["yard"] (defScope sStill):=⟨rfl,rfl,rfl,by decide +kernel,rfl,by decide +kernel,by decide +kernel⟩
theorem ok_still {c:Cs} {ys:Ys} {J:TJ} {TC f fw fm fe:Addr} {fd dw dm de:FuncData} (F:Fun K "still" "still" sStill f fd) (Y:Yrd K ys) (W:Wy K TC fw dw J)
    (mm:Meth K ys.yard "moves" fm) (bm:Binds K dm ["self"] []) (Gm:FnOk P w K mg base CX0 7 fm dm ["self"] (spMoves K c TC J ys)) (me:Meth K ys.yard "ended" fe) (be:Binds K de ["self"] []) (Ge:FnOk P w K mg base CX0 1 fe de ["self"] (spEnded K ys)) :
    FnOk P w K mg base CX0 8 f fd ["yard"] (spStill K c TC J ys):=by
  refine F.ok scStl (fun vs H Q E h=>?_) (fun cdv A outer s H vs Q E hr h=>?_)
  · obtain ⟨a,s,rfl,_⟩:=h
    rfl
  · obtain ⟨a,st,rfl,hI,q⟩:=h
    have hr1:Room 1 _:=hr.mono (by decide)
    refine ⟨_,pss_one (ps_ret (pe_and (pe_notT (pe_meth0 (pv 0) Y.cl mm Gm hr bm .nil pass0)) (pe_one (pe_not (pe_meth0 (pv 0) Y.cl me Ge hr1 be .nil pass0))))),?_⟩
    have hfew:=hI.G.few
    have hlies:=hI.G.lies
    have hn:=hI.T.n12
    refine ⟨_,rfl,a.y,a.dy,_,rfl,hI.Y.ins,rfl,a,st,rfl,hI,fun D mvs H1 s1 hD gD hp=>⟨_, .inl ⟨_,SqL.of gD,rfl⟩,_,rfl,?_⟩⟩
    have hl:mvs.isEmpty=(movesS a st).isEmpty:=by
      have:=Paired.length hp
      rw [List.length_map] at this
      cases mvs <;> cases h:movesS a st <;> first | rfl | (rw [h] at this; cases this)
    unfold stillS at q
    rw [hl]
    cases hb:(movesS a st).isEmpty with
    | false =>
      rw [hb] at q
      exact iteF (q H1 s1)
    | true =>
      rw [hb] at q
      have hI1:=hI.same W s1
      exact iteT ⟨_,rfl,a.y,a.dy,_,rfl,hI1.Y.ins,rfl,a.y,a.dy,a.tb,a.ro,a.la,a.le,a.li,a.dn,st,rfl,hI1.Y,by omega,by omega,fun H2 s2=>⟨_,rfl,q H2 (s1.trans s2)⟩⟩
abbrev NWt:List Str:=["yard", "found", "lane"]
theorem scWt:FnScope NWt ["yard"] (defScope sWaits):=⟨rfl,rfl,rfl,by decide +kernel,rfl,by decide +kernel,by decide +kernel⟩
theorem ok_waits {c:Cs} {ys:Ys} {J:TJ} {TC f fw ft fa:Addr} {fd dw dt da:FuncData} (F:Fun K "waits" "waits" sWaits f fd) (T:Txt mg) (Y:Yrd K ys) (L:Lnd K c) (W:Wy K TC fw dw J)
    (mt:Meth K ys.yard "lane_told" ft) (bt:Binds K dt ["self", "lane"] []) (Gt:FnOk P w K mg base CX0 2 ft dt ["self", "lane"] (spLaneT K ys))
    (ma:Meth K ys.yard "wanted" fa) (ba:Binds K da ["self", "lane"] []) (Ga:FnOk P w K mg base CX0 5 fa da ["self", "lane"] (spWanted K c TC J ys)) :
    FnOk P w K mg base CX0 6 f fd ["yard"] (spWaits K c TC J ys):=by
  refine F.ok scWt (fun vs H Q E h=>?_) (fun cdv A outer s H vs Q E hr h=>?_)
  · obtain ⟨a,s,rfl,_⟩:=h
    rfl
  · obtain ⟨a,st,rfl,hI,q⟩:=h
    have hr2:Room 2 _:=hr.mono (by decide)
    refine ⟨_,pss_cons (ps_set (i:=1) scWt.nd rfl (Or.inl rfl) (pe_lst pa_nil))
      (pss_cons (ps_for PassesOwn.never rfl (pi_range1 rfl T.range (pa_cons (pe_callB call_len_seq rfl T.len PySem.boot_len (pa_cons (pe_fld (pe_fld (pe_fld (pv 0) rfl) rfl) rfl) pa_nil)) pa_nil)) (pg_name (i:=2) scWt.nd rfl (Or.inl rfl))
        (pss_one (ps_if (pt_truth (pe_ix ix_tup (pe_meth (pv 0) Y.cl mt Gt hr2 bt .nil pass0 (pa_cons (pv 2) pa_nil)) pe_int (fun _ _=>rfl)) (fun _=>rfl))
          (pss_one (ps_expr (pe_bm PySem.F.plainAttrs_list PySem.F.slot_list_append PySem.F.type_list_append mt_append (pv 1) (pa_cons (pe_tup (pa_cons (pv 2) (pa_cons (pe_callTy call_tuple_of rfl T.tuple PySem.Pv.boot_tuple (pa_cons (pe_meth (pv 0) Y.cl ma Ga hr ba .nil pass0 (pa_cons (pv 2) pa_nil)) pa_nil)) pa_nil))) pa_nil)))) pss_nil)))
      (pss_one (ps_ret (pv 1)))),?_⟩
    have h40:=hI.T.few
    have hln:=hI.G.lanes
    obtain ⟨dxt,fst,htb,hland,hways⟩:=hI.T.i
    have htl:a.tvs.length=a.ps.length:=Paired.length hI.T.l.2.2
    refine ⟨Nat.zero_le _,fun Fd hFd=>?_⟩
    have s0:=(Same.refl H).new (o := .lst []) hFd
    have g0:(upd H Fd (.lst [])) Fd=some (.lst []):=upd_same
    show gName 1 (V.ref Fd) _ _ _
    generalize upd H Fd (.lst [])=H0 at s0 g0 ⊢
    refine ⟨_,rfl,a.y,ys.yard,a.dy,_,_,rfl,s0 _ _ hI.Y.ins,Y.cl,Y.n1,rfl,a.tb,TC,dxt,fst,_,rfl,s0 _ _ htb,W.cl,W.nl,hland,a.lx,c.land,a.ldx,_,_,rfl,s0 _ _ hI.T.l.1,L.cl,L.nl,rfl,a.lt,_,rfl, .inr (SqT.of (s0 _ _ hI.T.l.2.1)),((a.tvs.length:Nat):Int),rfl,by omega,by omega,?_⟩
    rw [Int.toNat_natCast,htl]
    refine for_range (n:=a.ps.length) (fun i σ H2=>∃ (a2:Option V) (fvs:List V),Same H H2∧H2 Fd=some (.lst fvs)∧Paired (WtV H2) fvs (waitsS a st i)∧σ=[some (.ref a.y),some (.ref Fd),a2]) ⟨none,[],s0,g0, .nil,rfl⟩ ?_ ?_
    · rintro i σ H2 hi ⟨a2,fvs,s2,g2,p2,rfl⟩
      rw [Int.zero_add]
      have hI2:=hI.same W s2
      have hil:i < st.lanes.length:=by omega
      obtain ⟨ln,hlni⟩:∃ ln,st.lanes[i]? = some ln:=⟨_,List.getElem?_eq_getElem hil⟩
      have eF:frontQ st i=ln.qs.head?:=by unfold frontQ; rw [hlni]
      have hfl:fvs.length ≤ 40:=by rw [Paired.length p2]; have:=waits_len a st i; omega
      refine ⟨_,rfl,a.y,a.dy,_,rfl,hI2.Y.ins,rfl,_,rfl,a.y,a.dy,a.tb,a.ro,a.la,a.le,a.li,a.dn,st,i,ln,rfl,hI2.Y,hlni,fun t ql pvs H3 s3 hql gt gql hL=>?_⟩
      refine ⟨t,_,3,_,rfl,rfl,SqT.of gt,atI_nat (j:=3) rfl,_, .inl ⟨_,SqL.of gql,rfl⟩,?_⟩
      rw [waits_succ,eF]
      have hI3:=hI2.same W s3
      cases hqs:ln.qs with
      | nil =>
        have:pvs=[]:=by rw [hqs] at hL; exact List.length_eq_zero_iff.mp (Paired.length hL)
        subst this
        exact iteF ⟨_,fvs,s2.trans s3,s3 _ _ g2,Paired.mono (fun _ _ z=>z.keep (Same.keepN s3)) p2,rfl⟩
      | cons q0 r0 =>
        have:∃ v r,pvs=v :: r:=by
          have:=Paired.length hL
          rw [hqs] at this
          cases pvs with
          | nil=>cases this
          | cons v r=>exact ⟨v,r,rfl⟩
        obtain ⟨v,r,rfl⟩:=this
        refine iteT ⟨_,rfl, .inl ⟨rfl,_,SqL.of (s3 _ _ g2)⟩,_,rfl,_,rfl,a.y,a.dy,_,rfl,hI3.Y.ins,rfl,_,rfl,a,st,i,rfl,hI3,hil,fun D H4 s4 hD gD=>⟨D,_,rfl, .inl ⟨SqL.of gD,fun u hu=>?_⟩⟩⟩
        have s5:=s4.new (o := .tup (nV (wantS a st i))) hu
        have g5:(upd H4 u (.tup (nV (wantS a st i)))) u=some (.tup (nV (wantS a st i))):=upd_same
        generalize upd H4 u (.tup (nV (wantS a st i)))=H5 at s5 g5 ⊢
        refine ⟨by show 2 ≤ sizeLine; decide,fun t6 ht6=>?_⟩
        have s6:=(s3.trans s5).new (o := .tup [.int i, .ref u]) ht6
        have g6:(upd H5 t6 (.tup [.int i, .ref u])) t6=some (.tup [.int i, .ref u]):=upd_same
        have g6u:(upd H5 t6 (.tup [.int i, .ref u])) u=some (.tup (nV (wantS a st i))):=by rw [upd_ne (ne_of_none g5 ht6)]; exact g5
        generalize upd H5 t6 (.tup [.int i, .ref u])=H6 at s6 g6 g6u ⊢
        have kk:KeepN H6 (upd H6 Fd (.lst (fvs ++ [.ref t6]))):=lst_keep (s6 _ _ g2)
        refine ⟨Fd,fvs,_,rfl,rfl,s6 _ _ g2,by rw [PySem.sizeLine_eq]; omega,?_⟩
        refine ⟨_,fvs ++ [.ref t6],fun b o e=>by rw [upd_ne (ne_of_none e hFd)]; exact s6 _ _ (s2 _ _ e),upd_same,?_,rfl⟩
        show Paired _ _ (waitsS a st i ++ [(i,wantS a st i)])
        exact Paired.snoc ⟨t6,u,rfl,kk _ _ g6 True.intro,kk _ _ g6u True.intro⟩ (Paired.mono (fun _ _ z=>z.keep (KeepN.trans (Same.keepN s6) kk)) p2)
    · rintro σ H2 ⟨a2,fvs,s2,g2,p2,rfl⟩
      exact ⟨_,rfl,q Fd fvs H2 s2 hFd g2 p2⟩
end
end K66
namespace K66
open PySem L2
def cix:Option Nat→Nat
  | none=>0
  | some k=>k + 1
def rkR (r:Rw):Nat:=(r.g.toNat * 100 + cix r.c) * 100 + r.p.toNat
theorem key_rk {a b:Rw} (h:keyOf a=keyOf b):rkR a=rkR b:=by
  unfold keyOf at h
  injection h with h1 h2
  injection h2 with h2 h3
  injection h3 with h3 _
  injection h1 with h1
  injection h2 with h2
  have h4:a.c=b.c:=by
    cases ha:a.c with
    | none=>cases hb:b.c with
      | none=>rfl
      | some k=>rw [ha,hb] at h3; cases h3
    | some k=>cases hb:b.c with
      | none=>rw [ha,hb] at h3; cases h3
      | some k' =>
        rw [ha,hb] at h3
        have h3:some (k:Int)=some (k':Int):=h3
        injection h3 with h3
        rw [show k=k' by omega]
  unfold rkR
  rw [h1,h2,h4]
structure Rok (n:Nat) (ps:List (Int × Int)) (B:Nat) (rs:List Rw):Prop where
  sort:(rs.map rkR).Pairwise (· < ·)
  low:∀ r ∈ rs,rkR r < B
  fit:∀ r ∈ rs,fits n ps r=true
  few:∀ r ∈ rs,r.s.length ≤ 40
theorem Rok.up {n:Nat} {ps:List (Int × Int)} {B B':Nat} {rs:List Rw} (h:Rok n ps B rs) (l:B ≤ B'):Rok n ps B' rs:=⟨h.sort,fun r hr=>Nat.lt_of_lt_of_le (h.low r hr) l,h.fit,h.few⟩
theorem Rok.snoc {n:Nat} {ps:List (Int × Int)} {B:Nat} {rs:List Rw} {r:Rw} (h:Rok n ps B rs) (hr:B ≤ rkR r) (hf:fits n ps r=true) (hl:r.s.length ≤ 40):Rok n ps (rkR r + 1) (rs ++ [r]):=by
  refine ⟨?_,fun x hx=>?_,fun x hx=>?_,fun x hx=>?_⟩
  · rw [List.map_append,List.pairwise_append]
    refine ⟨h.sort,by simp,fun x hx y hy=>?_⟩
    obtain ⟨r',hr',rfl⟩:=List.mem_map.mp hx
    have hy:y=rkR r:=by simpa using hy
    rw [hy]
    exact Nat.lt_of_lt_of_le (h.low r' hr') hr
  · rcases List.mem_append.mp hx with hx | hx
    · have:=h.low x hx; omega
    · rw [List.mem_singleton.mp hx]; omega
  · rcases List.mem_append.mp hx with hx | hx
    · exact h.fit x hx
    · rw [List.mem_singleton.mp hx]; exact hf
  · rcases List.mem_append.mp hx with hx | hx
    · exact h.few x hx
    · rw [List.mem_singleton.mp hx]; exact hl
theorem Rok.good {n:Nat} {ps:List (Int × Int)} {B:Nat} {rs:List Rw} (h:Rok n ps B rs):firstBad n ps rs rs.length=none:=by
  refine firstBad_none fun k hk=>?_
  have hr:rs[k]? = some rs[k]:=List.getElem?_eq_getElem hk
  have egd:rs.getD k ⟨0,0,none,[]⟩ = rs[k]:=by rw [List.getD_eq_getElem?_getD,hr]; rfl
  rw [egd,bad_fits,h.fit _ (List.getElem_mem hk)]
  have hany:((rs.take k).any fun a=>decide (keyOf a=keyOf rs[k]))=false:=by
    rw [List.any_eq_false]
    intro a ha hd
    have e:=key_rk (of_decide_eq_true hd)
    obtain ⟨j,hj,ea⟩:=List.mem_take_iff_getElem.mp ha
    have hj':j < k:=by omega
    have:=List.pairwise_iff_getElem.mp h.sort j k (by rw [List.length_map]; omega) (by rw [List.length_map]; exact hk) hj'
    rw [List.getElem_map,List.getElem_map,ea] at this
    omega
  rw [hany]; rfl
theorem fits_lane {n:Int} {ps:List (Int × Int)} {r:Rw} (h:fits n ps r=true):∀ k ∈ r.s,k < ps.length:=by
  unfold fits at h
  simp only [Bool.and_eq_true,List.all_eq_true,decide_eq_true_eq] at h
  intro k hk
  exact List.mem_range.mp (List.mem_filter.mp (h.2.2 k hk)).1
def wayOf (rs:List Rw) (k:Oks):Nat:=match lastR rs k with
  | some r=>Yd.setN r.s 0
  | none=>0
theorem last_mem {rs:List Rw} {k:Oks} {r:Rw} (h:lastR rs k=some r):r ∈ rs:=List.mem_reverse.mp (List.mem_of_find?_eq_some h)
def wyT (rs:List Rw):Wf:=fun p g k=>mN (wayOf rs (keyOf ⟨(p:Int),(g:Int),k,[]⟩))
def ToldJ (P:Program) (w:World) (ts:Ts):TJ:=fun H x n wy=>∃ (dx de:Addr) (lv:V) (kvs:List Ent) (rs:List Rw),H x=some (.ins ts.told dx [("land",lv),("entries", .ref de)])∧DicAt P w H de kvs∧(∀ k,valO kvs k=(lastR rs k).map setV)∧(∀ r ∈ rs,∀ k ∈ r.s,k < 40)∧wy=wyT rs
theorem ToldJ.keep {P:Program} {w:World} {ts:Ts} {H H':Hp} {x:Addr} {n:Nat} {wy:Wf} (h:ToldJ P w ts H x n wy) (k:KeepN H H'):ToldJ P w ts H' x n wy:=by
  obtain ⟨dx,de,lv,kvs,rs,h1,⟨h2,h3⟩,h4⟩:=h
  exact ⟨dx,de,lv,kvs,rs,k _ _ h1 True.intro,⟨k _ _ h2 True.intro,fun y hy=>k _ _ (h3 y hy) True.intro⟩,h4⟩
theorem mem_mN {ks:List Nat} {z:Nat} (h:z ∈ mN (Yd.setN ks 0)):z ∈ ks:=by
  have:=(List.mem_filter.mp h).2
  have h2:(Yd.setN ks 0).testBit z=true:=this
  rw [there_iff,decide_eq_true_eq] at h2
  obtain ⟨n,hn,e⟩:=iz_mem.mp h2
  have:n=z:=by omega
  exact this ▸ hn
theorem mN_nodup (m:Nat):(mN m).Nodup:=List.nodup_range.filter _
theorem wyT_lt {rs:List Rw} {n:Nat} (h:∀ r ∈ rs,∀ k ∈ r.s,k < n) (p g:Nat) (k:Option Nat):(∀ z ∈ wyT rs p g k,z < n)∧(wyT rs p g k).length ≤ n:=by
  have h1:∀ z ∈ wyT rs p g k,z < n:=fun z hz=>by
    unfold wyT wayOf at hz
    cases hl:lastR rs (keyOf ⟨(p:Int),(g:Int),k,[]⟩) with
    | none=>rw [hl] at hz; exact absurd hz (by show z ∉ mN 0; intro h; cases h)
    | some r=>rw [hl] at hz; exact h r (last_mem hl) z (mem_mN hz)
  exact ⟨h1,nodup_len n _ (mN_nodup _) h1⟩
section
variable {P:Program} {w:World} {K:PySem.W.Frag} {mg:Str→Option Value} {base:Heap}
theorem told_waysA {ts:Ts} {f:Addr} {fd:FuncData} (G:FnOk P w K mg base CX0 3 f fd ["self", "place", "goal", "came"] (spToldW P w ts)):FnOk P w K mg base CX0 3 f fd ["self", "place", "goal", "came"] (spWaysA (ToldJ P w ts)) :=
  G.imp fun vs H Q E ⟨x,n,wy,p,g,k,e,⟨dx,de,lv,kvs,rs,h1,h2,h3,h4,h5⟩,hp,hg,q⟩=>⟨x,dx,de,lv,kvs,⟨(p:Int),(g:Int),k,[]⟩,wayOf rs (keyOf ⟨(p:Int),(g:Int),k,[]⟩),e,h1,h2,by
    rw [h3]
    unfold wayOf
    cases lastR rs (keyOf ⟨(p:Int),(g:Int),k,[]⟩) <;> rfl,by
    unfold wayOf
    cases hl:lastR rs (keyOf ⟨(p:Int),(g:Int),k,[]⟩) with
    | none=>exact Nat.two_pow_pos _
    | some r=>exact Nat.lt_of_lt_of_le (set_lt (h4 r (last_mem hl))) (Nat.pow_le_pow_right (by decide) (by decide)),fun H' D s' hD=>q D _ (s'.new hD) (s'.free hD) (by rw [upd_same,h5]; rfl)⟩
def spLanes (K:PySem.W.Frag):Sp:=fun vs H Q _=>∃ (sc:Addr) (ns:List Int) (n:Nat),vs=[.ref sc, .int n]∧SqL K H sc (ns.map V.int)∧2 ≤ n∧n ≤ 12∧∀ (D:Addr) (lvs:List V) (ps:List (Int × Int)) (H':Hp),Same H H'→H D=none→H' D=some (.lst lvs)→Lns H' lvs ps→(∀ p ∈ ps,okP n p=true)→2 ≤ ps.length→ps.length ≤ 6→Q (.ref D) H'
abbrev NLn:List Str:=["_law_script", "_law_places", "_law_amount", "_law_lanes_here", "_law_k", "_law_draw"]
theorem scLn:FnScope NLn ["_law_script", "_law_places"] (defScope sLanes):=⟨rfl,rfl,rfl,by decide +kernel,rfl,by decide +kernel,by decide +kernel⟩
theorem ok_lanes {f fm fc:Addr} {fd dm dc:FuncData} (F:Fun K "_law_lanes" "_law_lanes" sLanes f fd) (T:Txt mg) (mm:mg "_law_mixed" = some (.ref fm)) (km:PySem.W.keepIn K (.ref fm)=true) (bm:Binds K dm ["_law_cell", "_law_k"] []) (Gm:FnOk P w K mg base CX0 1 fm dm ["_law_cell", "_law_k"] spMix)
    (mc:mg "_law_cell_at" = some (.ref fc)) (kc:PySem.W.keepIn K (.ref fc)=true) (bc:Binds K dc ["_law_script", "_law_k"] []) (Gc:FnOk P w K mg base CX0 1 fc dc ["_law_script", "_law_k"] (spCell K)):FnOk P w K mg base CX0 2 f fd ["_law_script", "_law_places"] (spLanes K):=by
  refine F.ok scLn (fun vs H Q E h=>?_) (fun cdv A outer s H vs Q E hr h=>?_)
  · obtain ⟨sc,ns,n,rfl,_⟩:=h
    rfl
  · obtain ⟨sc,ns,n,rfl,hS,hn2,hn12,q⟩:=h
    refine ⟨_,pss_cons (ps_set (i:=2) scLn.nd rfl (Or.inl rfl) (pe_op op_add pe_int (pe_op op_mod (pe_op op_fdiv (pe_call Gc hr rfl mc kc bc .nil pass0 (pa_cons (pv 0) (pa_cons pe_int pa_nil))) pe_int) pe_int)))
      (pss_cons (ps_set (i:=3) scLn.nd rfl (Or.inl rfl) (pe_lst pa_nil))
      (pss_cons (ps_for PassesOwn.never rfl (pi_range1 rfl T.range (pa_cons (pv 2) pa_nil)) (pg_name (i:=4) scLn.nd rfl (Or.inl rfl))
        (pss_cons (ps_set (i:=5) scLn.nd rfl (Or.inl rfl) (pe_call Gm hr rfl mm km bm .nil pass0 (pa_cons (pe_call Gc hr rfl mc kc bc .nil pass0 (pa_cons (pv 0) (pa_cons pe_int pa_nil))) (pa_cons (pv 4) pa_nil))))
        (pss_one (ps_if (PW.pt (pw_and (pt_cmpR op_eq (pe_op op_mod (pe_call Gc hr rfl mc kc bc .nil pass0 (pa_cons (pv 0) (pa_cons pe_int pa_nil))) pe_int) pe_int (nomark _)) (pw_and1 (pt_cmpR op_lt (pv 4) (pv 1) (nomark _)))))
          (pss_one (ps_expr (pe_bm PySem.F.plainAttrs_list PySem.F.slot_list_append PySem.F.type_list_append mt_append (pv 3) (pa_cons (pe_tup (pa_cons (pv 4) (pa_cons (pe_op op_mod (pe_op op_add (pv 4) pe_int) (pv 1)) pa_nil))) pa_nil))))
          (pss_one (ps_expr (pe_bm PySem.F.plainAttrs_list PySem.F.slot_list_append PySem.F.type_list_append mt_append (pv 3) (pa_cons (pe_tup (pa_cons (pe_op op_mod (pv 5) (pv 1)) (pa_cons (pe_op op_mod (pe_op op_add (pe_op op_add (pe_op op_mod (pv 5) (pv 1)) pe_int) (pe_op op_mod (pe_op op_fdiv (pv 5) pe_int) (pe_op op_sub (pv 1) pe_int))) (pv 1)) pa_nil))) pa_nil))))))))
      (pss_one (ps_ret (pv 3))))),?_⟩
    have two:(2:Nat) ≤ sizeLine:=by decide
    have hn0:(0:Int) < (n:Int):=by omega
    have hn1:(0:Int) < (n:Int) - 1:=by omega
    refine ⟨_,rfl,sc,ns,0,rfl,hS,fun d0=>⟨_,_,rfl,rfl,⟨by decide,by decide⟩,_,_,rfl,rfl,(by show (0:Int) < 5; decide),_,_,rfl,rfl,?_⟩⟩
    have am1:=Int.emod_nonneg (d0 / 3) (show (5:Int) ≠ 0 by decide)
    have am2:=Int.emod_lt_of_pos (d0 / 3) (show (0:Int) < 5 by decide)
    obtain ⟨am,eam,ham⟩:∃ am:Nat,2 + d0 / 3 % 5=(am:Int)∧2 ≤ am∧am ≤ 6:=⟨(2 + d0 / 3 % 5).toNat,by omega,by omega,by omega⟩
    dsimp only
    rw [eam]
    refine ⟨Nat.zero_le _,fun D hD=>?_⟩
    have s0:=(Same.refl H).new (o := .lst []) hD
    refine ⟨_,rfl,(am:Int),rfl,by omega,by omega,?_⟩
    rw [Int.toNat_natCast]
    refine for_range (n:=am) (fun i σ H2=>∃ (a4 a5:Option V) (lvs:List V) (ps:List (Int × Int)),Same H H2∧H2 D=some (.lst lvs)∧Lns H2 lvs ps∧(∀ p ∈ ps,okP n p=true)∧ps.length=i∧σ=[some (.ref sc),some (.int n),some (.int am),some (.ref D),a4,a5])
      ⟨none,none,[],[],s0,upd_same, .nil,(fun e he=>by cases he),rfl,rfl⟩ ?_ ?_
    · rintro i σ H2 hi ⟨a4,a5,lvs,ps,s2,gD,hLv,hok,hl,rfl⟩
      rw [Int.zero_add]
      have hS2:=s2.seq hS
      have hll:lvs.length=ps.length:=Paired.length hLv
      refine ⟨_,rfl,sc,ns,1,rfl,hS2,fun d1=>⟨_,rfl,d1,i,rfl,by omega,fun d hd=>?_⟩⟩
      have push:∀ (x y:Int),okP n (x,y)=true→∀ t1,H2 t1=none→∃ lv2,∃ (_:(upd H2 t1 (.tup [.int x, .int y])) D=some (.lst lvs)),∃ (a4 a5:Option V) (lvs':List V) (ps':List (Int × Int)),lv2=lvs'∧lvs' = lvs ++ [.ref t1]∧Same H (upd (upd H2 t1 (.tup [.int x, .int y])) D (.lst lv2))∧(upd (upd H2 t1 (.tup [.int x, .int y])) D (.lst lv2)) D=some (.lst lvs')∧Lns (upd (upd H2 t1 (.tup [.int x, .int y])) D (.lst lv2)) lvs' ps'∧(∀ p ∈ ps',okP n p=true)∧ps'.length=i + 1:=by
        intro x y hxy t1 h1
        have u1:=(Same.refl H2).new (o := .tup [.int x, .int y]) h1
        have v1:(upd H2 t1 (.tup [.int x, .int y])) t1=some (.tup [.int x, .int y]):=upd_same
        have nT:t1 ≠ D:=Ne.symm (ne_of_none gD h1)
        generalize upd H2 t1 (.tup [.int x, .int y])=H3 at u1 v1 ⊢
        have gD3:=u1 _ _ gD
        have kk:KeepN H3 (upd H3 D (.lst (lvs ++ [.ref t1]))):=lst_keep gD3
        refine ⟨lvs ++ [.ref t1],gD3,none,none,lvs ++ [.ref t1],ps ++ [(x,y)],rfl,rfl,fun b o e=>by rw [upd_ne (ne_of_none e hD)]; exact u1 _ _ (s2 _ _ e),upd_same,?_,fun p hp=>?_,by rw [List.length_append,hl]; rfl⟩
        · exact Lns.snoc (p:=(x,y)) ⟨t1,rfl,kk _ _ v1 True.intro⟩ (kk.lns (Lns.same u1 hLv))
        · rcases List.mem_append.mp hp with hp | hp
          · exact hok p hp
          · rw [List.mem_singleton.mp hp]; exact hxy
      refine ⟨_,rfl,sc,ns,1,rfl,hS2,fun d2=>⟨_,_,rfl,rfl,(by show (0:Int) < 2; decide),rfl,_,rfl,?_⟩⟩
      have go2:∀ (x y:Int),okP n (x,y)=true→(2 ≤ sizeLine∧∀ t1,H2 t1=none→∃ l xs yv,V.ref D = .ref l∧[V.ref t1]=[yv]∧(upd H2 t1 (.tup [.int x, .int y])) l=some (.lst xs)∧xs.length < sizeLine∧(fun σ H2=>∃ (a4 a5:Option V) (lvs:List V) (ps:List (Int × Int)),Same H H2∧H2 D=some (.lst lvs)∧Lns H2 lvs ps∧(∀ p ∈ ps,okP n p=true)∧ps.length=i + 1∧σ=[some (.ref sc),some (.int n),some (.int am),some (.ref D),a4,a5]) (([some (.ref sc),some (.int n),some (.int am),some (.ref D),some (.int (i:Int)),some (.int d)]:St)) (upd (upd H2 t1 (.tup [.int x, .int y])) l (.lst (xs ++ [yv])))):=by
        intro x y hxy
        refine ⟨two,fun t1 h1=>?_⟩
        obtain ⟨lv2,g3,_,_,lvs',ps',e1,e2,c1,c2,c3,c4,c5⟩:=push x y hxy t1 h1
        subst e1 e2
        exact ⟨D,lvs,_,rfl,rfl,g3,by rw [PySem.sizeLine_eq]; omega,_,_,_,ps',c1,c2,c3,c4,c5,rfl⟩
      have second:∀ Q0:Prop,Q0→Q0:=fun _ h=>h
      by_cases hc:decide (V.int (d2 % 2)=V.int 0)=true∧i < n
      · obtain ⟨hc1,hc2⟩:=hc
        rw [hc1]
        refine iteT ⟨_,rfl,_,rfl,_,_,rfl,rfl,_,rfl,?_⟩
        rw [decide_eq_true (show (i:Int) < (n:Int) by omega)]
        refine iteT ⟨_,rfl, .inl ⟨rfl,_,SqL.of gD⟩,_,rfl,_,rfl,_,_,rfl,rfl,_,rfl,_,_,rfl,rfl,hn0,?_⟩
        have e5:=Int.emod_nonneg ((i:Int) + 1) (show (n:Int) ≠ 0 by omega)
        have e6:=Int.emod_lt_of_pos ((i:Int) + 1) hn0
        have e7:((i:Int) + 1) % (n:Int) ≠ (i:Int):=by
          intro z
          rcases Int.lt_or_le ((i:Int) + 1) (n:Int) with h | h
          · rw [Int.emod_eq_of_lt (by omega) h] at z; omega
          · rw [show (i:Int) + 1=(n:Int) by omega,Int.emod_self] at z; omega
        exact go2 (i:Int) _ (by unfold okP; simp only [Bool.and_eq_true,decide_eq_true_eq,Bool.not_eq_true',decide_eq_false_iff_not]; exact ⟨⟨by omega,by omega⟩,⟨by omega,by omega⟩,fun z=>e7 z.symm⟩)
      · have rest:∀ Q0:Prop,((2 ≤ sizeLine∧∀ t1,H2 t1=none→∃ l xs yv,V.ref D = .ref l∧[V.ref t1]=[yv]∧(upd H2 t1 (.tup [.int (d % (n:Int)), .int ((d % (n:Int) + 1 + d / 16 % ((n:Int) - 1)) % (n:Int))])) l=some (.lst xs)∧xs.length < sizeLine∧(fun σ H2=>∃ (a4 a5:Option V) (lvs:List V) (ps:List (Int × Int)),Same H H2∧H2 D=some (.lst lvs)∧Lns H2 lvs ps∧(∀ p ∈ ps,okP n p=true)∧ps.length=i + 1∧σ=[some (.ref sc),some (.int n),some (.int am),some (.ref D),a4,a5]) (([some (.ref sc),some (.int n),some (.int am),some (.ref D),some (.int (i:Int)),some (.int d)]:St)) (upd (upd H2 t1 (.tup [.int (d % (n:Int)), .int ((d % (n:Int) + 1 + d / 16 % ((n:Int) - 1)) % (n:Int))])) l (.lst (xs ++ [yv]))))→Q0)→Q0:=fun Q0 hQ=>hQ (go2 _ _ (by
          have e1:=Int.emod_nonneg d (show (n:Int) ≠ 0 by omega)
          have e2:=Int.emod_lt_of_pos d hn0
          have e3:=Int.emod_nonneg (d / 16) (show (n:Int) - 1 ≠ 0 by omega)
          have e4:=Int.emod_lt_of_pos (d / 16) hn1
          generalize d % (n:Int)=st at e1 e2 ⊢
          generalize d / 16 % ((n:Int) - 1)=of' at e3 e4 ⊢
          have e5:=Int.emod_nonneg (st + 1 + of') (show (n:Int) ≠ 0 by omega)
          have e6:=Int.emod_lt_of_pos (st + 1 + of') hn0
          have e7:(st + 1 + of') % (n:Int) ≠ st:=by
            intro z
            rcases Int.lt_or_le (st + 1 + of') (n:Int) with h | h
            · rw [Int.emod_eq_of_lt (by omega) h] at z; omega
            · have:(st + 1 + of') % (n:Int)=st + 1 + of' - n:=by
                rw [show st + 1 + of' = (st + 1 + of' - n) + n by omega,Int.add_emod_right,Int.emod_eq_of_lt (by omega) (by omega)]; omega
              omega
          unfold okP
          simp only [Bool.and_eq_true,decide_eq_true_eq,Bool.not_eq_true',decide_eq_false_iff_not]
          exact ⟨⟨by omega,by omega⟩,⟨by omega,by omega⟩,fun z=>e7 z.symm⟩))
        have last:(2 ≤ sizeLine∧_):=rest _ id
        cases hb:decide (V.int (d2 % 2)=V.int 0) with
        | false=>exact iteF (iteF ⟨_,rfl, .inl ⟨rfl,_,SqL.of gD⟩,_,rfl,_,rfl,_,_,rfl,rfl,hn0,_,rfl,_,rfl,_,_,rfl,rfl,hn0,_,_,rfl,rfl,_,rfl,_,_,rfl,rfl,⟨by decide,by decide⟩,_,rfl,_,_,rfl,rfl,_,_,rfl,rfl,hn1,_,_,rfl,rfl,_,rfl,_,_,rfl,rfl,hn0,last⟩)
        | true =>
          have hin:¬ i < n:=fun z=>hc ⟨hb,z⟩
          refine iteT ⟨_,rfl,_,rfl,_,_,rfl,rfl,_,rfl,?_⟩
          rw [decide_eq_false (show ¬ (i:Int) < (n:Int) by omega)]
          exact iteF ⟨_,rfl, .inl ⟨rfl,_,SqL.of gD⟩,_,rfl,_,rfl,_,_,rfl,rfl,hn0,_,rfl,_,rfl,_,_,rfl,rfl,hn0,_,_,rfl,rfl,_,rfl,_,_,rfl,rfl,⟨by decide,by decide⟩,_,rfl,_,_,rfl,rfl,_,_,rfl,rfl,hn1,_,_,rfl,rfl,_,rfl,_,_,rfl,rfl,hn0,last⟩
    · rintro σ H2 ⟨a4,a5,lvs,ps,s2,gD,hLv,hok,hl,rfl⟩
      exact ⟨_,rfl,q D lvs ps H2 s2 hD gD hLv hok (by omega) (by omega)⟩
end
end K66
namespace K66
open PySem L2
theorem comp_ix {sel:Int × Int→Int} {ps:List (Int × Int)} {pl:Int} {g:TG} {tt:TT} {te:TE} {σ0:St} {H:Hp} {Q:VK} (hn:ps.length < sizeLine)
    (hs:∀ (i:Nat) (acc:List V) (N:List V→Hp→Prop) (pr:Int × Int),ps[i]? = some pr→N (if decide (sel pr=pl)=true then acc ++ [V.int i] else acc) H→g (.int i) σ0 H fun σ2 H2=>tt σ2 H2 fun b H3=>if b=true then te σ2 H3 fun y H4=>N (acc ++ [y]) H4 else N acc H3)
    (hq:∀ D,H D=none→Q (.ref D) (upd H D (.lst (natV (ixM sel ps pl))))):CompR (Itr 0 ps.length) g tt te σ0 Q H:=by
  refine comp_rng (lo:=0) (fun k=>decide (sel (ps.getD k (0,0))=pl)) (fun k=>V.int k) hn (fun i acc N hi h=>?_) hq
  obtain ⟨pr,hpr⟩:∃ pr,ps[i]? = some pr:=⟨ps[i],List.getElem?_eq_getElem hi⟩
  have eg:ps.getD i (0,0)=pr:=by rw [List.getD_eq_getElem?_getD,hpr]; rfl
  rw [Int.zero_add]
  rw [eg] at h
  exact hs i acc N pr hpr h
def RwX (x:Addr) (H:Hp) (v:V) (r:Rw):Prop:=∃ t l,v = .ref t∧RwT H t l r∧l ≠ x
abbrev Rxs (x:Addr) (H:Hp):List V→List Rw→Prop:=Paired (RwX x H)
theorem Rxs.imp {x:Addr} {H H':Hp} {G:V→Rw→Prop} (h:∀ v r,RwX x H v r→G v r):∀ {vs:List V} {rs:List Rw},Rxs x H vs rs→Paired G vs rs
  | _,_, .nil => .nil
  | _,_, .cons z r => .cons (h _ _ z) (Rxs.imp (H':=H') h r)
theorem Rxs.rws {x:Addr} {H:Hp} {vs:List V} {rs:List Rw} (h:Rxs x H vs rs):Rws H vs rs:=Rxs.imp (H':=H) (fun _ _ ⟨t,l,e,z,_⟩=>⟨t,l,e,z⟩) h
theorem Rxs.same {x:Addr} {H H':Hp} (s:Same H H') {vs:List V} {rs:List Rw} (h:Rxs x H vs rs):Rxs x H' vs rs:=Rxs.imp (H':=H) (fun _ _ ⟨t,l,e,z,n⟩=>⟨t,l,e,z.same s,n⟩) h
theorem Rxs.off {x:Addr} {H:Hp} {xs:List V} {o:HO} (hx:H x=some (.lst xs)) {vs:List V} {rs:List Rw} (h:Rxs x H vs rs):Rxs x (upd H x o) vs rs :=
  Rxs.imp (H':=H) (fun _ _ ⟨t,l,e,z,n⟩=>⟨t,l,e,⟨by rw [upd_ne (ne_of z.1 hx (by intro z; cases z))]; exact z.1,by rw [upd_ne n]; exact z.2⟩,n⟩) h
theorem Rxs.snoc {x:Addr} {H:Hp} {v:V} {r:Rw} (h:RwX x H v r):∀ {vs:List V} {rs:List Rw},Rxs x H vs rs→Rxs x H (vs ++ [v]) (rs ++ [r])
  | _,_, .nil => .cons h .nil
  | _,_, .cons z t => .cons z (Rxs.snoc h t)
def allC (m:Nat):List (Option Nat):=none :: (List.range m).map some
theorem allC_V (m:Nat):[V.non] ++ ((List.range m).map fun k:Nat=>V.int (k:Int))=(allC m).map cV:=by
  unfold allC
  rw [List.map_cons,List.map_map]
  rfl
theorem allC_get {m j:Nat} {v:V} (h:((allC m).map cV)[j]? = some v):∃ c,v=cV c∧cix c=j∧∀ k,c=some k→k < m:=by
  rw [List.getElem?_map] at h
  cases j with
  | zero=>exact ⟨none,(Option.some.inj h).symm,rfl,fun k e=>by cases e⟩
  | succ j =>
    unfold allC at h
    rw [List.getElem?_cons_succ,List.getElem?_map] at h
    by_cases hj:j < m
    · rw [List.getElem?_range hj] at h
      exact ⟨some j,(Option.some.inj h).symm,rfl,fun k e=>by cases e; exact hj⟩
    · rw [List.getElem?_eq_none (by rw [List.length_range]; omega)] at h
      cases h
theorem bit1 (m k:Nat):decide (V.int (Builtin.bitAnd ((m:Int) / 2 ^ (k:Int).toNat) 1)=V.int 1)=m.testBit k:=by
  rw [int_eq,Int.toNat_natCast,← Yd.has_bit m k]
theorem comp_natF {K:PySem.W.Frag} {a:Addr} {xs:List Nat} {g:TG} {tt:TT} {te:TE} {σ0:St} {H:Hp} {Q:VK} (q:Nat→Bool) (hn:xs.length < sizeLine) (ha:SqL K H a (natV xs))
    (hs:∀ (k:Nat) (acc:List V) (N:List V→Hp→Prop),k ∈ xs→N (if q k then acc ++ [V.int (k:Int)] else acc) H→g (.int (k:Int)) σ0 H fun σ2 H2=>tt σ2 H2 fun b H3=>if b=true then te σ2 H3 fun y H4=>N (acc ++ [y]) H4 else N acc H3)
    (hq:∀ D,H D=none→Q (.ref D) (upd H D (.lst (natV (xs.filter q))))):CompR (Itl K a) g tt te σ0 Q H:=by
  refine comp_lst (xs:=natV xs) (fun v=>match v with | .int k=>q k.toNat | _=>false) (fun v=>v) (by unfold natV; rw [List.length_map]; exact hn) ha (fun x acc N hx h=>?_) fun D hD=>?_
  · obtain ⟨k,hk,rfl⟩:=List.mem_map.mp hx
    exact hs k acc N hk h
  · have e:((natV xs).filter (fun v=>match v with | .int k=>q k.toNat | _=>false)).map (fun v=>v)=natV (xs.filter q):=by
      unfold natV
      rw [List.map_id'',List.filter_map]
      · congr 1
      · intro _; rfl
    rw [e]
    exact hq D hD
end K66
namespace K66
open PySem L2
theorem Rok.len {n:Nat} {ps:List (Int × Int)} {B:Nat} {rs:List Rw} (h:Rok n ps B rs):rs.length ≤ B:=by
  have:=nodup_len B (rs.map rkR) (h.sort.imp fun h=>Nat.ne_of_lt h) fun x hx=>by
    obtain ⟨r,hr,rfl⟩:=List.mem_map.mp hx
    exact h.low r hr
  rw [List.length_map] at this
  exact this
def lim (xs:List Nat) (t:Nat):Nat:=if t=0 then 0 else xs.getD (t - 1) 0 + 1
theorem lim_le {xs:List Nat} (hs:xs.Pairwise (· < ·)) {t p:Nat} (h:xs[t]? = some p):lim xs t ≤ p:=by
  unfold lim
  by_cases h0:t=0
  · rw [if_pos h0]; omega
  · rw [if_neg h0]
    obtain ⟨ht,e⟩:=List.getElem?_eq_some_iff.mp h
    have h1:=List.pairwise_iff_getElem.mp hs (t - 1) t (by omega) ht (by omega)
    rw [List.getD_eq_getElem?_getD,List.getElem?_eq_getElem (by omega)]
    rw [e] at h1
    exact h1
theorem lim_succ {xs:List Nat} {t p:Nat} (h:xs[t]? = some p):lim xs (t + 1)=p + 1:=by
  unfold lim
  rw [if_neg (by omega),Nat.add_sub_cancel,List.getD_eq_getElem?_getD,h]; rfl
theorem lim_end {xs:List Nat} (h:∀ p ∈ xs,p < 100):lim xs xs.length ≤ 100:=by
  unfold lim
  by_cases h0:xs.length=0
  · rw [if_pos h0]; omega
  · rw [if_neg h0,List.getD_eq_getElem?_getD,List.getElem?_eq_getElem (show xs.length - 1 < xs.length by omega)]
    exact h _ (List.getElem_mem _)
theorem due_good {n:Nat} {ps:List (Int × Int)} (h1:1 ≤ n) (h2:n ≤ 12) (h3:ps.length ≤ 40) (h:∀ p ∈ ps,okP n p=true):dueOf n ps = .good:=by
  unfold dueOf
  rw [decide_eq_true (show (1:Int) ≤ (n:Int)∧(n:Int) ≤ 12 by omega),if_neg (by decide),if_neg (by omega),badIx_none h]
def spLTab (P:Program) (w:World) (c:Cs) (ts:Ts):Sp:=fun vs H Q _=>∃ (l:Addr) (lvs:List V) (ps:List (Int × Int)) (n:Nat) (cl:Int),vs=[.ref l, .int n, .int cl]∧H l=some (.lst lvs)∧Lns H lvs ps∧(∀ p ∈ ps,okP n p=true)∧ps.length ≤ 6∧2 ≤ n∧n ≤ 4 ∧
  ∀ (x lx ldx lt:Addr) (tvs:List V) (wy:Wf) (H':Hp),Same H H'→H x=none→TbIn c ts.told (ToldJ P w ts) H' x lx ldx lt n tvs ps wy→(∀ p g k,(wy p g k).length ≤ 400)→Q (.ref x) H'
abbrev NTb:List Str:=["_law_lanes_here", "_law_places", "_law_cell", "_law_rows", "_law_goal", "_law_came", "_law_some", "_law_place", "_law_draw", "_law_out", "_law_ways"]
def forFor (s:Stmt):List Stmt:=match s with
  | .For _ _ b _ _=>b
  | _=>[]
def asgC (s:Stmt):Scope:=match s with
  | .Assign _ (.ListComp _ _ sc _) _=>sc
  | _=>{ kind := .function,names:=[],isGenerator:=false,isCoroutine:=false }
def nthS (b:List Stmt) (i:Nat):Stmt:=b.getD i (.Pass ⟨0,0,0,0⟩)
def innerTb:List Stmt:=forFor (nthS (forFor (nthS (forFor (nthS (defBody sLTab) 1)) 0)) 2)
section
variable {P:Program} {w:World} {K:PySem.W.Frag} {mg:Str→Option Value} {base:Heap}
theorem scTb:FnScope NTb ["_law_lanes_here", "_law_places", "_law_cell"] (defScope sLTab):=⟨rfl,rfl,rfl,by decide +kernel,rfl,by decide +kernel,by decide +kernel⟩
theorem bkTb1:Blk NTb (defScope sLTab) (asgC (nthS innerTb 1)) ["_law_lanes_here", "_law_place"] [0,7]:=⟨rfl,by decide +kernel,by decide +kernel,by decide +kernel,rfl,by decide +kernel⟩
theorem bkTb2:Blk NTb (defScope sLTab) (asgC (nthS innerTb 2)) ["_law_draw"] [8]:=⟨rfl,by decide +kernel,by decide +kernel,by decide +kernel,rfl,by decide +kernel⟩
theorem ndTb1:(["_law_lane", "_law_lanes_here", "_law_place"]:List Str).Nodup:=by decide +kernel
theorem ndTb2:(["_law_lane", "_law_draw"]:List Str).Nodup:=by decide +kernel
theorem ok_ltab {c:Cs} {ts:Ts} {f fm fi ft:Addr} {fd dm di dt:FuncData} (F:Fun K "_law_table" "_law_table" sLTab f fd) (T:Txt mg) (mm:mg "_law_mixed" = some (.ref fm)) (km:PySem.W.keepIn K (.ref fm)=true) (bm:Binds K dm ["_law_cell", "_law_k"] []) (Gm:FnOk P w K mg base CX0 1 fm dm ["_law_cell", "_law_k"] spMix)
    (mi:mg "Land" = some (.ref c.land)) (Mi:Mk K c.land fi) (bi:Binds K di ["self", "places", "lanes"] []) (Gi:FnOk P w K mg base (CXe P w) 4 fi di ["self", "places", "lanes"] (spInit K c))
    (mt:mg "Told" = some (.ref ts.told)) (Mt:Mk K ts.told ft) (bt:Binds K dt ["self", "land", "rows"] []) (Gt:FnOk P w K mg base (CXe P w) 5 ft dt ["self", "land", "rows"] (spTold P w K c ts)) :
    FnOk P w K mg base CX0 7 f fd ["_law_lanes_here", "_law_places", "_law_cell"] (spLTab P w c ts):=by
  refine F.ok scTb (fun vs H Q E h=>?_) (fun cdv A outer s H vs Q E hr h=>?_)
  · obtain ⟨l,lvs,ps,n,cl,rfl,_⟩:=h
    rfl
  · obtain ⟨l,lvs,ps,n,cl,rfl,gl,hLn,hok,hpl,hn2,hn4,q⟩:=h
    have hu:=hr.units
    have hr1:Room 1 _:=hr.mono (by decide)
    have hr5:Room 5 _:=hr.mono (by decide)
    refine ⟨_,pss_cons (ps_set (i:=3) scTb.nd rfl (Or.inl rfl) (pe_lst pa_nil))
      (pss_cons (ps_for PassesOwn.never rfl (pi_range1 rfl T.range (pa_cons (pv 1) pa_nil)) (pg_name (i:=4) scTb.nd rfl (Or.inl rfl))
        (pss_one (ps_for PassesOwn.never rfl (pi_list (pe_op op_cat (pe_lst (pa_cons pe_non pa_nil)) (pe_callTy (call_list_rng rfl) rfl T.list PySem.Pv.boot_list (pa_cons (pe_callTy call_rng rfl T.range PyProof.Rows.boot_range (pa_cons (pe_callB call_len_seq rfl T.len PySem.boot_len (pa_cons (pv 0) pa_nil)) pa_nil)) pa_nil)))) (pg_name (i:=5) scTb.nd rfl (Or.inl rfl))
          (pss_cons (ps_set (i:=6) scTb.nd rfl (Or.inl rfl) (pe_callTy (call_list_rng rfl) rfl T.list PySem.Pv.boot_list (pa_cons (pe_callTy call_rng rfl T.range PyProof.Rows.boot_range (pa_cons (pv 1) pa_nil)) pa_nil)))
          (pss_cons (ps_post (ps_if (pt_cmpR op_notN (pv 5) pe_non (nomark _)) (pss_one (ps_set (i:=6) scTb.nd rfl (Or.inl rfl) (pe_lst (pa_cons (pe_ix ix_tup (pe_ix ix_list (pv 0) (pv 5) (fun _ _=>rfl)) pe_int (fun _ _=>rfl)) pa_nil)))) pss_nil))
          (pss_one (ps_for PassesOwn.never rfl (pi_list (pv 6)) (pg_name (i:=7) scTb.nd rfl (Or.inr rfl))
            (pss_cons (ps_set (i:=8) scTb.nd rfl (Or.inr rfl) (pe_op op_fdiv (pe_call Gm hr1 rfl mm km bm .nil pass0 (pa_cons (pv 2) (pa_cons (pe_op op_add (pe_op op_add (pe_op op_mul pe_int (pv 4)) (pe_op op_mul pe_int (pv 7))) (pe_callB call_len_seq rfl T.len PySem.boot_len (pa_cons (pv 3) pa_nil))) pa_nil))) pe_int))
            (pss_cons (ps_setComp (i:=9) (own:=["_law_lane"]) (capN:=["_law_lanes_here", "_law_place"]) (cap:=[0,7]) bkTb1 rfl scTb.nd rfl rfl (pi_range1 rfl T.range (pa_cons (pe_callB call_len_seq rfl T.len PySem.boot_len (pa_cons (pv 0) pa_nil)) pa_nil))
              (fun C s' H' fp=>⟨pg_name (i:=0) ndTb1 rfl (Or.inl rfl),pts_one (pt_cmpR op_eq (pe_ix (show IxR _ (rIxT K) from ix_tup) (pe_ix (show IxR _ (rIxL K) from ix_list) (pv 1) (pv 0) (fun _ _=>rfl)) pe_int (fun _ _=>rfl)) (pv 2) (nomark _)),pv 0⟩))
            (pss_cons (ps_setComp (i:=10) (own:=["_law_lane"]) (capN:=["_law_draw"]) (cap:=[8]) bkTb2 rfl scTb.nd rfl rfl (pi_list (pv 9))
              (fun C s' H' fp=>⟨pg_name (i:=0) ndTb2 rfl (Or.inl rfl),pts_one (pt_cmpR op_eq (pe_op op_and (pe_op op_shr (pv 1) (pv 0)) pe_int) pe_int (nomark _)),pv 0⟩))
            (pss_cons (ps_post (ps_if (PW.pt (pw_and (pt_cmpR (op_eqI hu) (pv 10) (pe_lst pa_nil) (nomark _)) (pw_and1 (pt_cmpR op_gt (pe_op op_mod (pe_op op_fdiv (pv 8) pe_int) pe_int) pe_int (nomark _)))))
              (pss_one (ps_set (i:=10) scTb.nd rfl (Or.inl rfl) (pe_slice sl_list (pv 9) po_none (po_some pe_int)))) pss_nil))
            (pss_one (ps_if (pt_cmpR op_ne (pv 7) (pv 4) (nomark _))
              (pss_one (ps_expr (pe_bm PySem.F.plainAttrs_list PySem.F.slot_list_append PySem.F.type_list_append mt_append (pv 3) (pa_cons (pe_tup (pa_cons (pv 7) (pa_cons (pv 4) (pa_cons (pv 5) (pa_cons (pv 10) pa_nil))))) pa_nil)))) pss_nil)))))))))))))
      (pss_one (ps_ret (pe_make Mt Gt hr rfl mt bt .nil passE0 (pa_cons (pe_make Mi Gi hr5 rfl mi bi .nil passE0 (pa_cons (pv 1) (pa_cons (pe_callTy call_list_of rfl T.list PySem.Pv.boot_list (pa_cons (pv 0) pa_nil)) pa_nil))) (pa_cons (pv 3) pa_nil)))))),?_⟩
    have hll:lvs.length=ps.length:=Paired.length hLn
    refine ⟨Nat.zero_le _,fun D hD=>?_⟩
    have s0:=(Same.refl H).new (o := .lst []) hD
    have g0:(upd H D (.lst [])) D=some (.lst []):=upd_same
    show gName 3 (V.ref D) _ _ _
    generalize upd H D (.lst [])=H0 at s0 g0 ⊢
    refine ⟨_,rfl,(n:Int),rfl,by omega,by omega,?_⟩
    rw [Int.toNat_natCast]
    refine for_range (n:=n) (fun i σ H2=>∃ (a4 a5 a6 a7 a8 a9 a10:Option V) (rvs:List V) (rs:List Rw),Same H H2∧H2 D=some (.lst rvs)∧Rxs D H2 rvs rs∧Rok n ps (i * 10000) rs∧σ=[some (.ref l),some (.int n),some (.int cl),some (.ref D),a4,a5,a6,a7,a8,a9,a10])
      ⟨none,none,none,none,none,none,none,[],[],s0,g0, .nil,⟨List.Pairwise.nil,(fun r hr=>by cases hr),(fun r hr=>by cases hr),(fun r hr=>by cases hr)⟩,rfl⟩ ?_ ?_
    rotate_left
    · rintro σ H2 ⟨a4,a5,a6,a7,a8,a9,a10,rvs,rs,s2,g2,hR,hO,rfl⟩
      have hrl:rvs.length=rs.length:=Paired.length hR
      have hrm:=hO.len
      have gd:=due_good (ps:=ps) (n:=n) (by omega) (by omega) (by omega) hok
      refine ⟨_,rfl,_,rfl,l,_,rfl, .inl (SqL.of (s2 _ _ gl)),fun l2 hl2=>?_⟩
      have s3:=(Same.refl H2).new (o := .lst lvs) hl2
      have g3:(upd H2 l2 (.lst lvs)) l2=some (.lst lvs):=upd_same
      generalize upd H2 l2 (.lst lvs)=H3 at s3 g3 ⊢
      refine fun xl dxl nx ndx nex=>?_
      have s4:Same H3 (upd (upd H3 dxl (.own xl)) xl (.ins c.land dxl [])):=Same.new (Same.new (Same.refl H3) ndx) (by rw [upd_ne (Ne.symm nex)]; exact nx)
      refine ⟨xl,dxl,(n:Int),l2,lvs,ps,rfl,upd_same,SqL.of (s4 _ _ g3),Lns.same (s2.trans (s3.trans s4)) hLn,by omega,(fun h=>by rw [gd] at h; cases h),(fun k h=>by rw [gd] at h; cases h),(fun k h=>by rw [gd] at h; cases h),fun _ H5 lt tvs off hL=>⟨rfl,?_⟩⟩
      have s5:Same H3 H5:=fun b o e=>off b o (ne_of_none e nx) (s4 _ _ e)
      refine ⟨_,rfl,fun tb dtb nt ndt net=>?_⟩
      have s6:Same H5 (upd (upd H5 dtb (.own tb)) tb (.ins ts.told dtb [])):=Same.new (Same.new (Same.refl H5) ndt) (by rw [upd_ne (Ne.symm net)]; exact nt)
      have s26:=s3.trans (s5.trans s6)
      refine ⟨tb,dtb,xl,dxl,lt,D,(n:Int),tvs,rvs,ps,rs,rfl,upd_same,⟨s6 _ _ hL.1,s6 _ _ hL.2.1,Lns.same s6 hL.2.2⟩,SqL.of (s26 _ _ g2),Rws.same s26 hR.rws,by omega,by omega,fun r hr=>⟨fun k hk=>by have:=fits_lane (hO.fit r hr) k hk; omega,by have:=hO.few r hr; omega⟩,(fun i e=>by rw [hO.good] at e; cases e),fun _ H7 de kvs off7 hx7 hd7 hv7=>⟨rfl,?_⟩⟩
      have s7:Same H5 H7:=fun b o e=>off7 b o (ne_of_none e nt) (s6 _ _ e)
      have hlan:∀ r ∈ rs,∀ k ∈ r.s,k < ps.length:=fun r hr=>fits_lane (hO.fit r hr)
      refine q tb xl dxl lt tvs (wyT rs) H7 (s2.trans (s3.trans (s5.trans s7))) (s2.free (s3.free (s5.free nt))) ⟨⟨dtb,de,_,kvs,rs,hx7,hd7,hv7,(fun r hr k hk=>by have:=hlan r hr k hk; omega),rfl⟩,⟨dtb,_,hx7,rfl,rfl⟩,⟨s7 _ _ hL.1,s7 _ _ hL.2.1,Lns.same s7 hL.2.2⟩,by omega,by omega,fun p g k _ _ z hz=>(wyT_lt hlan p g k).1 z hz⟩ (fun p g k=>by have:=(wyT_lt hlan p g k).2; omega)
    rintro i σ H2 hi ⟨a4,a5,a6,a7,a8,a9,a10,rvs,rs,s2,g2,hR,hO,rfl⟩
    rw [Int.zero_add]
    refine ⟨by show 1 ≤ sizeLine; decide,fun o1 ho1=>?_⟩
    have t1:=(Same.refl H2).new (o := .lst [.non]) ho1
    have g1:(upd H2 o1 (.lst [.non])) o1=some (.lst [.non]):=upd_same
    generalize upd H2 o1 (.lst [.non])=H3 at t1 g1 ⊢
    refine ⟨_,rfl,l,_,rfl, .inl (SqL.of (t1 _ _ (s2 _ _ gl))),_,rfl,fun o2 ho2=>?_⟩
    rw [hll]
    have t2:=t1.new (o:=RngO o2 (ps.length:Int)) ho2
    have g2':(upd H3 o2 (RngO o2 (ps.length:Int))) o2=some (RngO o2 (ps.length:Int)):=upd_same
    have g1':(upd H3 o2 (RngO o2 (ps.length:Int))) o1=some (.lst [.non]):=by rw [upd_ne (ne_of_none g1 ho2)]; exact g1
    generalize upd H3 o2 (RngO o2 (ps.length:Int))=H4 at t2 g2' g1' ⊢
    refine ⟨o2,ps.length,rfl,g2',by omega,fun o3 ho3=>?_⟩
    have t3:=t2.new (o := .lst ((List.range ps.length).map fun k:Nat=>V.int (k:Int))) ho3
    have g3:(upd H4 o3 (.lst ((List.range ps.length).map fun k:Nat=>V.int (k:Int)))) o3=some (.lst ((List.range ps.length).map fun k:Nat=>V.int (k:Int))):=upd_same
    have g1'':(upd H4 o3 (.lst ((List.range ps.length).map fun k:Nat=>V.int (k:Int)))) o1=some (.lst [.non]):=by rw [upd_ne (ne_of_none g1' ho3)]; exact g1'
    generalize upd H4 o3 (.lst ((List.range ps.length).map fun k:Nat=>V.int (k:Int)))=H5 at t3 g3 g1'' ⊢
    refine ⟨o1,o3,_,_,rfl,rfl,g1'',g3,by rw [List.length_map,List.length_range,PySem.sizeLine_eq]; simp only [List.length_singleton]; omega,fun C hC=>?_⟩
    rw [allC_V]
    have t4:=t3.new (o := .lst ((allC ps.length).map cV)) hC
    have gC:(upd H5 C (.lst ((allC ps.length).map cV))) C=some (.lst ((allC ps.length).map cV)):=upd_same
    have nC:C ≠ D:=Ne.symm (ne_of_none (t3 _ _ g2) hC)
    generalize upd H5 C (.lst ((allC ps.length).map cV))=H6 at t4 gC ⊢
    refine ⟨C,rfl,⟨_,SqL.of gC⟩,?_⟩
    have hCl:((allC ps.length).map cV).length=ps.length + 1:=by unfold allC; rw [List.length_map,List.length_cons,List.length_map,List.length_range]
    refine for_list (K:=K) (a:=C) (xs:=(allC ps.length).map cV) (fun j σ H7=>∃ (a5 a6 a7 a8 a9 a10:Option V) (rvs:List V) (rs:List Rw),Same H H7∧H7 D=some (.lst rvs)∧H7 C=some (.lst ((allC ps.length).map cV))∧Rxs D H7 rvs rs∧Rok n ps ((i * 100 + j) * 100) rs∧σ=[some (.ref l),some (.int n),some (.int cl),some (.ref D),some (.int (i:Int)),a5,a6,a7,a8,a9,a10])
      ⟨_,_,_,_,_,_,rvs,rs,s2.trans t4,t4 _ _ g2,gC,hR.same t4,hO.up (by omega),rfl⟩ (fun j σ H7 _ ⟨_,_,_,_,_,_,_,_,_,_,g,_⟩=>SqL.of g) ?_ ?_
    rotate_left
    · rintro σ H7 ⟨a5,a6,a7,a8,a9,a10,rvs,rs,s7,g7,_,hR7,hO7,rfl⟩
      rw [hCl] at hO7
      exact ⟨_,_,_,_,_,_,_,rvs,rs,s7,g7,hR7,hO7.up (by omega),rfl⟩
    rintro j v σ H7 hv ⟨a5,a6,a7,a8,a9,a10,rvs,rs,s7,g7,gC7,hR7,hO7,rfl⟩
    have hj:j < ps.length + 1:=by rw [← hCl]; exact (List.getElem?_eq_some_iff.mp hv).1
    obtain ⟨cc,rfl,hcix,hcc⟩:=allC_get hv
    refine ⟨_,rfl,_,rfl,fun o5 ho5=>?_⟩
    have t5:=(Same.refl H7).new (o:=RngO o5 (n:Int)) ho5
    have g5:(upd H7 o5 (RngO o5 (n:Int))) o5=some (RngO o5 (n:Int)):=upd_same
    generalize upd H7 o5 (RngO o5 (n:Int))=H8 at t5 g5 ⊢
    refine ⟨o5,n,rfl,g5,by omega,fun o6 ho6=>?_⟩
    have t6:=t5.new (o := .lst ((List.range n).map fun k:Nat=>V.int (k:Int))) ho6
    have g6:(upd H8 o6 (.lst ((List.range n).map fun k:Nat=>V.int (k:Int)))) o6=some (.lst (natV (List.range n))):=upd_same
    have n6:o6 ≠ D:=Ne.symm (ne_of_none (t5 _ _ g7) ho6)
    generalize upd H8 o6 (.lst ((List.range n).map fun k:Nat=>V.int (k:Int)))=H9 at t6 g6 ⊢
    refine ⟨fun σ Ha=>∃ (So:Addr) (xs:List Nat),Same H7 Ha∧Ha So=some (.lst (natV xs))∧So ≠ D∧xs.Pairwise (· < ·)∧(∀ p ∈ xs,p < n∧∀ k,cc=some k→k ∈ ixM Prod.snd ps (p:Int))∧σ=[some (.ref l),some (.int n),some (.int cl),some (.ref D),some (.int (i:Int)),some (cV cc),some (.ref So),a7,a8,a9,a10],?_,?_⟩
    · refine ⟨_,rfl,rfl,_,rfl,?_⟩
      cases cc with
      | none=>exact iteF ⟨o6,List.range n,t6,g6,n6,List.pairwise_lt_range,(fun p hp=>⟨List.mem_range.mp hp,fun k e=>by cases e⟩),rfl⟩
      | some k =>
        have hk:=hcc k rfl
        obtain ⟨v,hv',u,rfl,gu⟩:=Lns.get2 hLn (List.getElem?_eq_getElem hk)
        have s9:=s7.trans t6
        refine iteT ⟨_,rfl,_,rfl,l,lvs,(k:Int),_,rfl,rfl,SqL.of (s9 _ _ gl),atI_nat hv',u,_,1,_,rfl,rfl,SqT.of (s9 _ _ gu),atI_nat (j:=1) rfl,by show 1 ≤ sizeLine; decide,fun So hSo=>?_⟩
        have hokk:=hok _ (List.getElem_mem hk)
        unfold okP at hokk
        simp only [Bool.and_eq_true,decide_eq_true_eq,Bool.not_eq_true',decide_eq_false_iff_not] at hokk
        obtain ⟨p0,hp0⟩:∃ p0:Nat,(ps[k]).2=(p0:Int):=⟨(ps[k]).2.toNat,by omega⟩
        have egk:ps.getD k (0,0)=ps[k]:=by rw [List.getD_eq_getElem?_getD,List.getElem?_eq_getElem hk]; rfl
        refine ⟨So,[p0],t6.new hSo,by rw [upd_same,hp0]; rfl,Ne.symm (ne_of_none (t6 _ _ g7) hSo),by simp,(fun p hp=>?_),rfl⟩
        rw [List.mem_singleton.mp hp]
        refine ⟨by omega,fun k' e=>?_⟩
        cases e
        exact List.mem_filter.mpr ⟨List.mem_range.mpr hk,decide_eq_true (by show (ps.getD k (0,0)).2=_; rw [egk]; exact hp0)⟩
    rintro σ Ha ⟨So,xs,tS,gS,nS,hsrt,hxp,rfl⟩
    refine ⟨_,rfl,So,rfl,⟨_,SqL.of gS⟩,?_⟩
    refine for_list (K:=K) (a:=So) (xs:=natV xs) (fun t σ Hb=>∃ (a7 a8 a9 a10:Option V) (rvs:List V) (rs:List Rw),Same H Hb∧Hb D=some (.lst rvs)∧Hb C=some (.lst ((allC ps.length).map cV))∧Hb So=some (.lst (natV xs))∧Rxs D Hb rvs rs∧Rok n ps ((i * 100 + j) * 100 + lim xs t) rs∧σ=[some (.ref l),some (.int n),some (.int cl),some (.ref D),some (.int (i:Int)),some (cV cc),some (.ref So),a7,a8,a9,a10])
      ⟨_,_,_,_,rvs,rs,s7.trans tS,tS _ _ g7,tS _ _ gC7,gS,hR7.same tS,hO7.up (by omega),rfl⟩ (fun t σ Hb _ ⟨_,_,_,_,_,_,_,_,_,g,_⟩=>SqL.of g) ?_ ?_
    rotate_left
    · rintro σ Hb ⟨a7,a8,a9,a10,rvs,rs,sb,gb,gCb,gSb,hRb,hOb,rfl⟩
      have hxl':(natV xs).length=xs.length:=by unfold natV; rw [List.length_map]
      rw [hxl'] at hOb
      have:=lim_end (xs:=xs) fun p hp=>by have:=(hxp p hp).1; omega
      exact ⟨_,_,_,_,_,_,rvs,rs,sb,gb,gCb,hRb,hOb.up (by omega),rfl⟩
    rintro t v σ Hb hv2 ⟨a7,a8,a9,a10,rvs,rs,sb,gb,gCb,gSb,hRb,hOb,rfl⟩
    obtain ⟨p,hp,rfl⟩:=natV_get hv2
    obtain ⟨hpn,hpc⟩:=hxp p (List.mem_of_getElem? hp)
    have hlp:=lim_le hsrt hp
    have hls:=lim_succ hp
    have hrl:rvs.length=rs.length:=Paired.length hRb
    have hrm:=hOb.len
    refine ⟨_,rfl,_,rfl,_,_,rfl,rfl, .inl ⟨by decide,by decide⟩,_,rfl,_,_,rfl,rfl, .inl ⟨by decide,by decide⟩,_,_,rfl,rfl,_,rfl,D,_,rfl, .inl (SqL.of gb),_,_,rfl,rfl,cl,61 * i + 7 * p + rvs.length,?_,by omega,fun d hd=>⟨_,_,rfl,rfl,⟨by decide,by decide⟩,?_⟩⟩
    · show [V.int cl,V.int (61 * (i:Int) + 7 * (p:Int) + ((rvs.length:Nat):Int))] ++ []=_
      rw [show ((61 * i + 7 * p + rvs.length:Nat):Int)=61 * (i:Int) + 7 * (p:Int) + ((rvs.length:Nat):Int) by omega]; rfl
    obtain ⟨m,hm⟩:∃ m:Nat,d / 8=(m:Int):=⟨(d / 8).toNat,by omega⟩
    dsimp only
    rw [hm]
    refine ⟨_,rfl,l,_,rfl, .inl (SqL.of (sb _ _ gl)),(lvs.length:Int),rfl,by omega,by omega,?_⟩
    rw [Int.toNat_natCast,hll]
    refine comp_ix (sel:=Prod.fst) (ps:=ps) (pl:=(p:Int)) (by rw [PySem.sizeLine_eq]; omega) (fun z acc N pr hpr h=>?_) (fun Ou hOu=>?_)
    · obtain ⟨v,hv,u,rfl,gu⟩:=Lns.get2 hLn hpr
      refine ⟨_,rfl,_,rfl,l,lvs,_,_,rfl,rfl,SqL.of (sb _ _ gl),atI_nat hv,u,_,0,_,rfl,rfl,SqT.of (sb _ _ gu),atI_nat (j:=0) rfl,_,rfl,rfl,_,rfl,?_⟩
      rw [int_eq]
      cases hb:decide (pr.1=(p:Int)) with
      | true =>
        have hb':decide (Prod.fst pr=(p:Int))=true:=hb
        rw [hb'] at h
        exact iteT ⟨_,rfl,h⟩
      | false =>
        have hb':decide (Prod.fst pr=(p:Int))=false:=hb
        rw [hb'] at h
        exact iteF h
    have hil:(ixM Prod.fst ps (p:Int)).length ≤ 6:=by
      have:=List.length_filter_le (fun k=>decide (Prod.fst (ps.getD k (0,0))=(p:Int))) (List.range ps.length)
      rw [List.length_range] at this
      unfold ixM
      omega
    have u1:=(Same.refl Hb).new (o := .lst (natV (ixM Prod.fst ps (p:Int)))) hOu
    have gO:(upd Hb Ou (.lst (natV (ixM Prod.fst ps (p:Int))))) Ou=some (.lst (natV (ixM Prod.fst ps (p:Int)))):=upd_same
    show gName 9 (V.ref Ou) _ (upd Hb Ou (.lst (natV (ixM Prod.fst ps (p:Int))))) _
    generalize upd Hb Ou (.lst (natV (ixM Prod.fst ps (p:Int))))=Hc at u1 gO ⊢
    generalize hout:ixM Prod.fst ps (p:Int)=out at hil gO ⊢
    refine ⟨_,rfl,Ou,rfl,⟨_,SqL.of gO⟩,?_⟩
    refine comp_natF (fun k=>m.testBit k) (by rw [PySem.sizeLine_eq]; omega) (SqL.of gO) (fun k acc N hk h=>?_) (fun Wa hWa=>?_)
    · refine ⟨_,rfl,_,rfl,_,_,rfl,rfl,(show (0:Int) ≤ (k:Int) by omega),_,_,rfl,rfl,rfl,_,rfl,?_⟩
      dsimp only
      rw [bit1]
      cases hb:m.testBit k with
      | true=>rw [hb] at h; exact iteT ⟨_,rfl,h⟩
      | false=>rw [hb] at h; exact iteF h
    have u2:=u1.new (o := .lst (natV (out.filter fun k=>m.testBit k))) hWa
    have gW:(upd Hc Wa (.lst (natV (out.filter fun k=>m.testBit k)))) Wa=some (.lst (natV (out.filter fun k=>m.testBit k))):=upd_same
    have gO2:(upd Hc Wa (.lst (natV (out.filter fun k=>m.testBit k)))) Ou=some (.lst (natV out)):=by rw [upd_ne (ne_of_none gO hWa)]; exact gO
    have nW:Wa ≠ D:=Ne.symm (ne_of_none (u1 _ _ gb) hWa)
    show gName 10 (V.ref Wa) _ (upd Hc Wa (.lst (natV (out.filter fun k=>m.testBit k)))) _
    generalize upd Hc Wa (.lst (natV (out.filter fun k=>m.testBit k)))=Hd at u2 gW gO2 ⊢
    refine ⟨fun σ He=>∃ (Wb:Addr) (us:List Nat),Same Hb He∧He Wb=some (.lst (natV us))∧Wb ≠ D∧(∀ k ∈ us,k ∈ out)∧us.length ≤ 6∧σ=[some (.ref l),some (.int n),some (.int cl),some (.ref D),some (.int (i:Int)),some (cV cc),some (.ref So),some (.int (p:Int)),some (.int (m:Int)),some (.ref Ou),some (.ref Wb)],?_,?_⟩
    · refine ⟨_,rfl,Nat.zero_le _,fun o7 ho7=>?_⟩
      have u3:=u2.new (o := .lst []) ho7
      have gW3:(upd Hd o7 (.lst [])) Wa=some (.lst (natV (out.filter fun k=>m.testBit k))):=by rw [upd_ne (ne_of_none gW ho7)]; exact gW
      have gO3:(upd Hd o7 (.lst [])) Ou=some (.lst (natV out)):=by rw [upd_ne (ne_of_none gO2 ho7)]; exact gO2
      have g7':(upd Hd o7 (.lst [])) o7=some (.lst (([]:List Int).map V.int)):=upd_same
      generalize upd Hd o7 (.lst [])=He at u3 gW3 gO3 g7' ⊢
      have stay:∃ (Wb:Addr) (us:List Nat),Same Hb He∧He Wb=some (.lst (natV us))∧Wb ≠ D∧(∀ k ∈ us,k ∈ out)∧us.length ≤ 6∧([some (.ref l),some (.int n),some (.int cl),some (.ref D),some (.int (i:Int)),some (cV cc),some (.ref So),some (.int (p:Int)),some (.int (m:Int)),some (.ref Ou),some (.ref Wa)]:St)=[some (.ref l),some (.int n),some (.int cl),some (.ref D),some (.int (i:Int)),some (cV cc),some (.ref So),some (.int (p:Int)),some (.int (m:Int)),some (.ref Ou),some (.ref Wb)] :=
        ⟨Wa,_,u3,gW3,nW,(fun k hk=>(List.mem_filter.mp hk).1),Nat.le_trans (List.length_filter_le _ _) hil,rfl⟩
      refine ⟨Wa,o7,iz (out.filter fun k=>m.testBit k),[],rfl,rfl,by rw [← natV_iz]; exact SqL.of gW3,SqL.of g7',_,rfl,?_⟩
      cases hb:decide (iz (out.filter fun k=>m.testBit k)=[]) with
      | false=>exact iteF (iteF stay)
      | true =>
        refine iteT ⟨_,rfl,_,_,rfl,rfl,⟨by decide,by decide⟩,_,_,rfl,rfl,(by show (0:Int) < 4; decide),_,_,rfl,rfl,_,rfl,?_⟩
        dsimp only
        cases hb2:decide ((0:Int) < (m:Int) / 64 % 4) with
        | false=>exact iteF stay
        | true =>
          refine iteT ⟨_,rfl,_,rfl,Ou,_,rfl,SqL.of gO3,fun Wb hWb=>?_⟩
          refine ⟨Wb,out.take 1,u3.new hWb,?_,Ne.symm (ne_of_none (u3 _ _ gb) hWb),(fun k hk=>List.mem_of_mem_take hk),by rw [List.length_take]; omega,rfl⟩
          rw [upd_same,show ((1:Int))=((1:Nat):Int) from rfl]
          exact congrArg (fun z=>some (HO.lst z)) (cut_to out 1)
    rintro σ He ⟨Wb,us,u4,gWb,nWb,hus,hul,rfl⟩
    refine ⟨_,rfl,_,rfl,rfl,_,rfl,?_⟩
    rw [int_eq]
    by_cases hpi:(p:Int)=(i:Int)
    · rw [decide_eq_true hpi]
      exact iteF ⟨_,_,_,_,rvs,rs,sb.trans u4,u4 _ _ gb,u4 _ _ gCb,u4 _ _ gSb,hRb.same u4,hOb.up (by omega),rfl⟩
    rw [decide_eq_false hpi]
    refine iteT ⟨_,rfl, .inl ⟨rfl,_,SqL.of (u4 _ _ gb)⟩,_,rfl,_,rfl,_,rfl,_,rfl,by show 4 ≤ sizeLine; decide,fun tt htt=>?_⟩
    have u5:=u4.new (o := .tup [.int (p:Int), .int (i:Int),cV cc, .ref Wb]) htt
    have gT:(upd He tt (.tup [.int (p:Int), .int (i:Int),cV cc, .ref Wb])) tt=some (.tup [.int (p:Int), .int (i:Int),cV cc, .ref Wb]):=upd_same
    have gWc:(upd He tt (.tup [.int (p:Int), .int (i:Int),cV cc, .ref Wb])) Wb=some (.lst (natV us)):=by rw [upd_ne (ne_of_none gWb htt)]; exact gWb
    generalize upd He tt (.tup [.int (p:Int), .int (i:Int),cV cc, .ref Wb])=Hf at u5 gT gWc ⊢
    have gDf:=u5 _ _ gb
    refine ⟨D,rvs,_,rfl,rfl,gDf,by rw [PySem.sizeLine_eq]; omega,?_⟩
    have hfit:fits n ps ⟨(p:Int),(i:Int),cc,us⟩ = true:=by
      unfold fits
      have ho:okP n ((p:Int),(i:Int))=true:=by
        unfold okP
        simp only [Bool.and_eq_true,decide_eq_true_eq,Bool.not_eq_true',decide_eq_false_iff_not]
        exact ⟨⟨by omega,by omega⟩,⟨by omega,by omega⟩,hpi⟩
      rw [ho,Bool.true_and]
      have hs:(us.all fun z=>decide (z ∈ ixM Prod.fst ps (p:Int)))=true:=by
        rw [List.all_eq_true]
        exact fun z hz=>decide_eq_true (by rw [hout]; exact hus z hz)
      dsimp only
      rw [hs,Bool.and_true]
      cases cc with
      | none=>rfl
      | some k=>exact decide_eq_true (hpc k rfl)
    have erk:rkR ⟨(p:Int),(i:Int),cc,us⟩ = (i * 100 + j) * 100 + p:=by
      unfold rkR
      show (((i:Int)).toNat * 100 + cix cc) * 100 + ((p:Int)).toNat=_
      rw [Int.toNat_natCast,Int.toNat_natCast,hcix]
    have hOn:=hOb.snoc (r:=⟨(p:Int),(i:Int),cc,us⟩) (by rw [erk]; omega) hfit (by show us.length ≤ 40; omega)
    refine ⟨_,_,_,_,rvs ++ [.ref tt],rs ++ [⟨(p:Int),(i:Int),cc,us⟩],fun b o e=>by rw [upd_ne (ne_of_none e hD)]; exact u5 _ _ (sb _ _ e),upd_same,?_,?_,?_,hOn.up (by rw [erk,hls]; omega),rfl⟩
    · rw [upd_ne nC]; exact u5 _ _ gCb
    · rw [upd_ne nS]; exact u5 _ _ gSb
    · have hRf:=Rxs.snoc (r:=⟨(p:Int),(i:Int),cc,us⟩) ⟨tt,Wb,rfl,⟨gT,gWc⟩,nWb⟩ (hRb.same u5)
      exact Rxs.off gDf hRf
end
end K66
namespace K66
open PySem L2
def ScV (x:V):Prop:=(∃ i,x = .int i)∨∃ t,x = .str t∧PyData.strOk t=true
structure Pst (a:YA) (s:YS):Prop where
  lanes:s.lanes.length=a.ps.length
  lies:s.lies.length=a.n
  q0:∀ (k:Nat) (ln:LnS),s.lanes[k]? = some ln→ln.qs=[]
  l0:∀ (p:Nat) (qs:List (Int × Int)),s.lies[p]? = some qs→qs=[]
  lets:∀ (m:Nat) (t:LtS),s.letters[m]? = some t→t.gone=0∧t.way=[]∧0 ≤ t.len∧t.len ≤ 60∧∃ x y:Nat,t.start=(x:Int)∧t.goal=(y:Int)∧x < a.n∧y < a.n
  done:∀ d ∈ s.done,∀ x ∈ d,ScV x
theorem sum0 {α:Type} (f:α→Nat):∀ {L:List α},(∀ (k:Nat) (x:α),L[k]? = some x→f x=0)→(L.map f).sum=0
  | [],_=>rfl
  | x :: L,h=>by
    have h1:=h 0 x rfl
    have h2:=sum0 f (L:=L) fun k y hy=>h (k + 1) y hy
    simp only [List.map_cons,List.sum_cons]; omega
theorem sum0I {α:Type} (f:α→Int):∀ {L:List α},(∀ (k:Nat) (x:α),L[k]? = some x→f x=0)→(L.map f).sum=0
  | [],_=>rfl
  | x :: L,h=>by
    have h1:=h 0 x rfl
    have h2:=sum0I f (L:=L) fun k y hy=>h (k + 1) y hy
    simp only [List.map_cons,List.sum_cons]; omega
theorem Pst.jnv {a:YA} {s:YS} (h:Pst a s) (few:s.letters.length ≤ 60) (p40:a.ps.length ≤ 40):Jnv a s:=by
  refine ⟨h.lanes,h.lies,few,p40,fun m t ht=>(h.lets m t ht).2.2.2.2,fun m t ht=>?_,fun k ln hk q hq=>?_,fun m t ht=>?_,fun m t ht _=>(h.lets m t ht).2.1,fun m t ht i l hi=>?_,fun m t ht l ln hl=>?_,fun k ln hk i j z q hi=>?_,fun k ln hk m t hm=>?_,?_⟩
  · rw [(h.lets m t ht).2.1]; exact ⟨(fun l hl=>by cases hl),List.nodup_nil⟩
  · rw [h.q0 k ln hk] at hq; cases hq
  · obtain ⟨h1,h2,h3,h4,_⟩:=h.lets m t ht
    rw [h1]; exact ⟨by omega,h3,h4⟩
  · rw [(h.lets m t ht).2.1] at hi; cases hi
  · rw [(h.lets m t ht).2.1] at hl; cases hl
  · rw [h.q0 k ln hk] at hi; cases hi
  · rw [h.q0 k ln hk] at hm; cases hm
  · have h1:sumQ s=0:=sum0 _ fun k ln hk=>by rw [h.q0 k ln hk]; rfl
    have h2:sumL s=0:=sum0 _ fun p qs hp=>by rw [h.l0 p qs hp]; rfl
    have h3:sumG s=0:=sum0I _ fun m t ht=>(h.lets m t ht).1
    rw [h1,h2,h3]; rfl
theorem Pst.post {a:YA} {s:YS} (h:Pst a s) {x y:Nat} {l u:Int} (hx:x < a.n) (hy:y < a.n) (hl:0 ≤ l∧l ≤ 60):Pst a (postS s x y l u):=by
  refine ⟨h.lanes,h.lies,h.q0,h.l0,fun m t ht=>?_,fun d hd z hz=>?_⟩
  · have ht:(s.letters ++ [⟨(x:Int),(y:Int),l,u,0,[]⟩])[m]? = some t:=ht
    by_cases hm:m < s.letters.length
    · rw [List.getElem?_append_left hm] at ht; exact h.lets m t ht
    · have h3:=(List.getElem?_eq_some_iff.mp ht).1
      rw [List.length_append,List.length_singleton] at h3
      have em:m=s.letters.length:=by omega
      subst em
      rw [List.getElem?_concat_length] at ht
      cases ht
      exact ⟨rfl,rfl,hl.1,hl.2,x,y,rfl,rfl,hx,hy⟩
  · rcases List.mem_append.mp hd with hd | hd
    · exact h.done d hd z hz
    · rw [List.mem_singleton.mp hd] at hz
      simp only [List.mem_cons,List.not_mem_nil,or_false] at hz
      rcases hz with rfl | rfl | rfl | rfl | rfl
      · exact .inr ⟨_,rfl,by decide +kernel⟩
      · exact .inl ⟨_,rfl⟩
      · exact .inl ⟨_,rfl⟩
      · exact .inl ⟨_,rfl⟩
      · exact .inl ⟨_,rfl⟩
def spLPost (K:PySem.W.Frag) (c:Cs) (TC:Addr) (J:TJ) (ys:Ys):Sp:=fun vs H Q _=>∃ (a:YA) (s:YS) (cs:Addr) (ns:List Int),vs=[.ref a.y, .ref a.tb, .int a.n, .ref cs]∧YAt K ys H a s∧TAt c TC J H a∧Pst a s∧H cs=some (.lst (ns.map V.int))∧cs ∉ a.four∧ns.length ≤ 10∧s.letters.length ≤ 40∧s.done.length ≤ 100∧2 ≤ a.n ∧
  ∀ (H':Hp) (s':YS),OffE [a.le,a.dn] H H'→YAt K ys H' a s'→Pst a s'→s'.letters.length ≤ s.letters.length + ns.length→s'.done.length ≤ s.done.length + ns.length→Q .non H'
theorem pdue_good {n a b:Nat} {wy:Wf} {m:Nat} {l u:Int} (ha:a < n) (hb:b < n) (hl:1 ≤ l∧l ≤ 60) (hu:okW (.int u)=true) (hab:a ≠ b) (hw:wy a b none ≠ []) (hm:m < 60):pdue n wy m (.int a) (.int b) (.int l) (.int u) = .good:=by
  unfold pdue
  rw [show okv (.int (a:Int)) 0 ((n:Int) - 1)=true from decide_eq_true (by omega),show okv (.int (b:Int)) 0 ((n:Int) - 1)=true from decide_eq_true (by omega),show okv (.int l) 1 60=true from decide_eq_true hl,hu,if_neg (by decide),if_neg (by decide),if_neg (by decide)]
  rw [if_neg (by
    rintro (h | h)
    · have h:(a:Int)=(b:Int):=h
      omega
    · have h:wy ((a:Int)).toNat ((b:Int)).toNat none=[]:=h
      rw [Int.toNat_natCast,Int.toNat_natCast] at h
      exact hw h),if_neg (by omega)]
section
variable {P:Program} {w:World} {K:PySem.W.Frag} {mg:Str→Option Value} {base:Heap}
abbrev NLp:List Str:=["_law_yard", "_law_table_here", "_law_places", "_law_cells", "_law_cell", "_law_start", "_law_goal"]
theorem scLp:FnScope NLp ["_law_yard", "_law_table_here", "_law_places", "_law_cells"] (defScope sLPost):=⟨rfl,rfl,rfl,by decide +kernel,rfl,by decide +kernel,by decide +kernel⟩
theorem ok_lpost {c:Cs} {ys:Ys} {x:Xs} {J:TJ} {TC f fw fp:Addr} {fd dw dp:FuncData} (F:Fun K "_law_post" "_law_post" sLPost f fd) (Y:Yrd K ys) (W:Wy K TC fw dw J) (Gw:FnOk P w K mg base CX0 3 fw dw ["self", "place", "goal", "came"] (spWaysA J))
    (mp:Meth K ys.yard "post" fp) (bp:Binds K dp PPo []) (Gp:FnOk P w K mg base (CXe P w) 4 fp dp PPo (spPost K c TC J ys x)) :
    FnOk P w K mg base CX0 5 f fd ["_law_yard", "_law_table_here", "_law_places", "_law_cells"] (spLPost K c TC J ys):=by
  refine F.ok scLp (fun vs H Q E h=>?_) (fun cdv A outer s H vs Q E hr h=>?_)
  · obtain ⟨a,s,cs,ns,rfl,_⟩:=h
    rfl
  · obtain ⟨a,st,cs,ns,rfl,hY,hT,hP,gcs,ncs,hnl,hsl,hdl,hn2,q⟩:=h
    have hu:=hr.units
    have hr3:Room 3 _:=hr.mono (by decide)
    refine ⟨_,pss_one (ps_for PassesOwn.never rfl (pi_list (pv 3)) (pg_name (i:=4) scLp.nd rfl (Or.inl rfl))
      (pss_cons (ps_set (i:=5) scLp.nd rfl (Or.inl rfl) (pe_op op_mod (pv 4) (pv 2)))
      (pss_cons (ps_set (i:=6) scLp.nd rfl (Or.inl rfl) (pe_op op_mod (pe_op op_add (pe_op op_add (pv 5) pe_int) (pe_op op_mod (pe_op op_fdiv (pv 4) pe_int) (pe_op op_sub (pv 2) pe_int))) (pv 2)))
      (pss_one (ps_if (pt_cmpR (op_neI hu) (pe_meth (pv 1) W.cl W.m Gw hr3 W.b .nil pass0 (pa_cons (pv 5) (pa_cons (pv 6) (pa_cons pe_non pa_nil)))) (pe_lst pa_nil) (nomark _))
        (pss_one (ps_expr (pe_meth (pv 0) Y.cl mp Gp hr bp .nil passE0 (pa_cons (pv 5) (pa_cons (pv 6) (pa_cons (pe_op op_add pe_int (pe_op op_mod (pe_op op_fdiv (pv 4) pe_int) pe_int)) (pa_cons (pe_op op_mod (pv 4) (pe_op op_pow pe_int pe_int)) pa_nil))))))) pss_nil))))),?_⟩
    have np:(0:Int) < (a.n:Int):=by omega
    have np1:(0:Int) < (a.n:Int) - 1:=by omega
    refine ⟨_,rfl,cs,rfl,⟨_,SqL.of gcs⟩,?_⟩
    refine for_list (K:=K) (a:=cs) (xs:=ns.map V.int) (fun i σ H2=>∃ (a4 a5 a6:Option V) (s2:YS),OffE [a.le,a.dn] H H2∧H2 cs=some (.lst (ns.map V.int))∧YAt K ys H2 a s2∧Pst a s2∧s2.letters.length ≤ st.letters.length + i∧s2.done.length ≤ st.done.length + i∧σ=[some (.ref a.y),some (.ref a.tb),some (.int a.n),some (.ref cs),a4,a5,a6])
      ⟨none,none,none,st,Same.offE (Same.refl H),gcs,hY,hP,by omega,by omega,rfl⟩ (fun i σ H2 _ ⟨_,_,_,_,_,g,_⟩=>SqL.of g) ?_ ?_
    rotate_left
    · rintro σ H2 ⟨a4,a5,a6,s2,o2,_,hY2,hP2,h1,h2,rfl⟩
      rw [List.length_map] at h1 h2
      exact q H2 s2 o2 hY2 hP2 h1 h2
    rintro i v σ H2 hv ⟨a4,a5,a6,s2,o2,g2,hY2,hP2,h1,h2,rfl⟩
    have hi:i < ns.length:=by have:=(List.getElem?_eq_some_iff.mp hv).1; rw [List.length_map] at this; exact this
    obtain ⟨d,rfl⟩:∃ d,v=V.int d:=by
      rw [List.getElem?_map,List.getElem?_eq_getElem hi] at hv
      exact ⟨_,(Option.some.inj hv).symm⟩
    have hT2:TAt c TC J H2 a:=TbIn.keep W hT (OffE.keepN (fun b hb=>by
      simp only [List.mem_cons,List.not_mem_nil,or_false] at hb
      rcases hb with rfl | rfl
      · exact hY.lsts _ (by simp)
      · exact hY.lsts _ (by simp)) o2)
    refine ⟨_,rfl,_,rfl,_,_,rfl,rfl,np,?_⟩
    show gName 5 (V.int (d % (a.n:Int))) _ _ _
    have e1:=Int.emod_nonneg d (show (a.n:Int) ≠ 0 by omega)
    have e2:=Int.emod_lt_of_pos d np
    obtain ⟨a',ha',han⟩:∃ a':Nat,d % (a.n:Int)=(a':Int)∧a' < a.n:=⟨(d % (a.n:Int)).toNat,by omega,by omega⟩
    rw [ha']
    refine ⟨_,rfl,_,_,rfl,rfl,_,rfl,_,_,rfl,rfl,⟨by decide,by decide⟩,_,rfl,_,_,rfl,rfl,_,_,rfl,rfl,np1,_,_,rfl,rfl,_,rfl,_,_,rfl,rfl,np,?_⟩
    show gName 6 (V.int (((a':Int) + 1 + d / 4 % ((a.n:Int) - 1)) % (a.n:Int))) _ _ _
    have e3:=Int.emod_nonneg (d / 4) (show (a.n:Int) - 1 ≠ 0 by omega)
    have e4:=Int.emod_lt_of_pos (d / 4) np1
    obtain ⟨b',hb',hbn,hab⟩:∃ b':Nat,((a':Int) + 1 + d / 4 % ((a.n:Int) - 1)) % (a.n:Int)=(b':Int)∧b' < a.n∧a' ≠ b':=by
      generalize d / 4 % ((a.n:Int) - 1)=f at e3 e4 ⊢
      have e5:=Int.emod_nonneg ((a':Int) + 1 + f) (show (a.n:Int) ≠ 0 by omega)
      have e6:=Int.emod_lt_of_pos ((a':Int) + 1 + f) np
      refine ⟨(((a':Int) + 1 + f) % (a.n:Int)).toNat,by omega,by omega,fun z=>?_⟩
      rcases Int.lt_or_le ((a':Int) + 1 + f) (a.n:Int) with h | h
      · rw [Int.emod_eq_of_lt (by omega) h] at z; omega
      · have:((a':Int) + 1 + f) % (a.n:Int)=(a':Int) + 1 + f - a.n:=by
          rw [show (a':Int) + 1 + f=((a':Int) + 1 + f - a.n) + a.n by omega,Int.add_emod_right,Int.emod_eq_of_lt (by omega) (by omega)]; omega
        omega
    rw [hb']
    obtain ⟨dxt,fst,htb,hland,hways⟩:=hT2.i
    refine ⟨_,rfl,a.tb,dxt,fst,rfl,htb,hways,_,rfl,_,rfl,a.tb,a.n,a.wy,a',b',none,rfl,hT2.j,han,hbn,fun D H3 s3 hD gD=>⟨Nat.zero_le _,fun o7 ho7=>?_⟩⟩
    have s4:=s3.new (o := .lst []) ho7
    have gD4:(upd H3 o7 (.lst [])) D=some (.lst (nV (a.wy a' b' none))):=by rw [upd_ne (ne_of_none gD ho7)]; exact gD
    have g7:(upd H3 o7 (.lst [])) o7=some (.lst (([]:List Int).map V.int)):=upd_same
    generalize upd H3 o7 (.lst [])=H4 at s4 gD4 g7 ⊢
    have hY4:=YardAt.same hY2 s4
    have o4:OffE [a.le,a.dn] H H4:=o2.trans (Same.offE s4)
    refine ⟨D,o7,iz (a.wy a' b' none),[],rfl,rfl,by rw [← nV_iz]; exact SqL.of gD4,SqL.of g7,_,rfl,?_⟩
    by_cases hw:a.wy a' b' none=[]
    · rw [decide_eq_true (show iz (a.wy a' b' none)=[] by rw [hw]; rfl)]
      exact iteF ⟨_,_,_,s2,o4,s4 _ _ g2,hY4,hP2,by omega,by omega,rfl⟩
    have hiz:¬ iz (a.wy a' b' none)=[]:=fun z=>hw (by unfold iz at z; exact List.map_eq_nil_iff.mp z)
    rw [decide_eq_false hiz]
    refine iteT ⟨_,rfl,a.y,a.dy,_,rfl,hY4.ins,rfl,_,rfl,_,rfl,_,rfl,_,_,rfl,rfl,⟨by decide,by decide⟩,_,_,rfl,rfl,(by show (0:Int) < 4; decide),_,_,rfl,rfl,_,rfl,_,_,rfl,rfl,⟨by decide,by decide,by decide⟩,_,_,rfl,rfl,(by show (0:Int) < 10 ^ (60:Int).toNat; decide +kernel),?_⟩
    have w1:=Int.emod_nonneg d (show (10 ^ (60:Int).toNat:Int) ≠ 0 by decide +kernel)
    have w2:=Int.emod_lt_of_pos d (show (0:Int) < 10 ^ (60:Int).toNat by decide +kernel)
    have l1:=Int.emod_nonneg (d / 12) (show (4:Int) ≠ 0 by decide)
    have l2:=Int.emod_lt_of_pos (d / 12) (show (0:Int) < 4 by decide)
    dsimp only
    generalize d % 10 ^ (60:Int).toNat=wd at w1 w2 ⊢
    have hwd:okW (.int wd)=true:=by
      unfold okW
      exact decide_eq_true (by rw [if_neg (by omega)]; exact w2)
    obtain ⟨len,hlen,hlr⟩:∃ len:Int,1 + d / 12 % 4=len∧1 ≤ len∧len ≤ 60:=⟨_,rfl,by omega,by omega⟩
    rw [hlen]
    have gd:=pdue_good (n:=a.n) (wy:=a.wy) (m:=s2.letters.length) han hbn hlr hwd hab hw (by omega)
    have hT4:TAt c TC J H4 a:=TbIn.keep W hT2 (Same.keepN s4)
    refine ⟨a.y,a.dy,a.tb,a.ro,a.la,a.le,a.li,a.dn,a.lx,a.ldx,a.lt,a.n,a.tvs,a.ps,a.wy,s2, .int a', .int b', .int len, .int wd,rfl,hY4,hT4, .int _, .int _, .int _, .int _,by omega,by omega,(fun h=>by rw [gd] at h; cases h),(fun h=>by rw [gd] at h; cases h),(fun h=>by rw [gd] at h; cases h),(fun h=>by rw [gd] at h; cases h),(fun h=>by rw [gd] at h; cases h),fun _ H5 o5 hY5=>?_⟩
    refine ⟨_,_,_,postS s2 a' b' len wd,o4.trans o5,?_,hY5,hP2.post han hbn ⟨by omega,hlr.2⟩,?_,?_,rfl⟩
    · exact o5 _ _ (fun z=>ncs (by simp only [List.mem_cons,List.not_mem_nil,or_false] at z ⊢; rcases z with z | z <;> simp [z])) (s4 _ _ g2)
    · show (s2.letters ++ [_]).length ≤ _
      rw [List.length_append,List.length_singleton]; omega
    · show (s2.done ++ [_]).length ≤ _
      rw [List.length_append,List.length_singleton]; omega
end
end K66
namespace K66
open PySem L2
theorem want_eq {a:YA} {s:YS} {k m:Nat} {c:Int} {lk:LnS} {t:LtS} (hk:s.lanes[k]? = some lk) (hq:lk.qs.head? = some ((m:Int),c)) (ht:s.letters[m]? = some t) :
    wantS a s k=if c=0 then (onw a k t.goal.toNat).filter (fun l=>!decide (l ∈ t.way)) else (t.way.drop (t.way.idxOf k + 1)).take 1:=by
  unfold wantS frontQ
  rw [hk]
  dsimp only
  rw [hq]
  dsimp only
  rw [Int.toNat_natCast,ht]
theorem want_end {a:YA} {s:YS} {k m:Nat} {c:Int} {lk:LnS} {t:LtS} (J:Jnv a s) (hk:s.lanes[k]? = some lk) (hq:lk.qs.head? = some ((m:Int),c)) (ht:s.letters[m]? = some t) (he:endL a k=t.goal):wantS a s k=[]:=by
  rw [want_eq hk hq ht]
  by_cases hc:c=0
  · rw [if_pos hc]
    obtain ⟨x0,y0,e1,e2,_,_⟩:=J.lets m t ht
    unfold onw
    rw [if_pos (by show endL a k=_; rw [he,e2,Int.toNat_natCast])]; rfl
  · rw [if_neg hc,(J.next hk hq hc ht).1 he,List.drop_length]; rfl
def spLWant (K:PySem.W.Frag) (c:Cs) (TC:Addr) (J:TJ) (ys:Ys):Sp:=fun vs H Q _=>∃ (a:YA) (s:YS) (k m:Nat) (cn:Int) (lk:LnS) (pt:Addr),vs=[.ref a.y, .ref a.tb, .int k, .ref pt]∧YIn K c TC J ys H a s∧Jnv a s∧s.lanes[k]? = some lk∧lk.qs.head? = some ((m:Int),cn)∧H pt=some (.tup [.int m, .int cn]) ∧
  ∀ (u:Addr) (H':Hp),Same H H'→H' u=some (.tup (nV (wantS a s k)))→Q (.ref u) H'
def ifRetT (s:Stmt):Scope:=match s with
  | .If _ [.Return (some (.Call _ [.ListComp _ _ sc _] _ _)) _] _ _=>sc
  | _=>{ kind := .function,names:=[],isGenerator:=false,isCoroutine:=false }
abbrev NLW:List Str:=["_law_yard", "_law_table_here", "_law_lane", "_law_front", "_law_letter", "_law_count", "_law_start", "_law_goal", "_law_length", "_law_word", "_law_way", "_law_end"]
abbrev PLW:List Str:=["_law_yard", "_law_table_here", "_law_lane", "_law_front"]
section
variable {P:Program} {w:World} {K:PySem.W.Frag} {mg:Str→Option Value} {base:Heap}
theorem scLW:FnScope NLW PLW (defScope sLWant):=⟨rfl,rfl,rfl,by decide +kernel,rfl,by decide +kernel,by decide +kernel⟩
theorem bkLW:Blk NLW (defScope sLWant) (ifRetT ((defBody sLWant).getD 5 (.Pass ⟨0,0,0,0⟩))) ["_law_way"] [10]:=⟨rfl,by decide +kernel,by decide +kernel,by decide +kernel,rfl,by decide +kernel⟩
theorem ndLW:(["_law_other", "_law_way"]:List Str).Nodup:=by decide +kernel
theorem ok_lwant {c:Cs} {ys:Ys} {J:TJ} {TC f fw fl ft fe:Addr} {fd dw dl dt de:FuncData} (F:Fun K "_law_wanted" "_law_wanted" sLWant f fd) (T:Txt mg) (Y:Yrd K ys) (L:Lnd K c) (W:Wy K TC fw dw J) (Gw:FnOk P w K mg base CX0 3 fw dw ["self", "place", "goal", "came"] (spWaysA J))
    (ml:Meth K ys.yard "letter_told" fl) (bl:Binds K dl ["self", "number"] []) (Gl:FnOk P w K mg base CX0 1 fl dl ["self", "number"] (spLetT K ys))
    (mt:Meth K ys.yard "way_told" ft) (bt:Binds K dt ["self", "number"] []) (Gt:FnOk P w K mg base CX0 1 ft dt ["self", "number"] (spWayT K ys))
    (M:EndM K c fe de) (Ge:FnOk P w K mg base CX0 1 fe de ["self", "lane"] (spAt c Prod.snd)) :
    FnOk P w K mg base CX0 4 f fd PLW (spLWant K c TC J ys):=by
  refine F.ok scLW (fun vs H Q E h=>?_) (fun cdv A outer s H vs Q E hr h=>?_)
  · obtain ⟨a,s,k,m,cn,lk,pt,rfl,_⟩:=h
    rfl
  · obtain ⟨a,st,k,m,cn,lk,pt,rfl,hI,hJ,hk,hq,hpt,q⟩:=h
    have hr1:Room 1 _:=hr.mono (by decide)
    refine ⟨_,pss_cons (ps_asg (pv 3) (pg_tup rfl (pgs_cons (pg_name (i:=4) scLW.nd rfl (Or.inl rfl)) (pgs_cons (pg_name (i:=5) scLW.nd rfl (Or.inl rfl)) pgs_nil))))
      (pss_cons (ps_asg (pe_meth (pv 0) Y.cl ml Gl hr1 bl .nil pass0 (pa_cons (pv 4) pa_nil)) (pg_tup rfl (pgs_cons (pg_name (i:=6) scLW.nd rfl (Or.inl rfl)) (pgs_cons (pg_name (i:=7) scLW.nd rfl (Or.inl rfl)) (pgs_cons (pg_name (i:=8) scLW.nd rfl (Or.inl rfl)) (pgs_cons (pg_name (i:=9) scLW.nd rfl (Or.inl rfl)) pgs_nil))))))
      (pss_cons (ps_set (i:=10) scLW.nd rfl (Or.inr rfl) (pe_meth (pv 0) Y.cl mt Gt hr1 bt .nil pass0 (pa_cons (pv 4) pa_nil)))
      (pss_cons (ps_set (i:=11) scLW.nd rfl (Or.inl rfl) (pe_meth (pe_fld (pv 1) rfl) L.cl M.m Ge hr1 M.b .nil pass0 (pa_cons (pv 2) pa_nil)))
      (pss_cons (ps_if (pt_cmpR op_eq (pv 11) (pv 7) (nomark _)) (pss_one (ps_ret (pe_tup pa_nil))) pss_nil)
      (pss_cons (ps_if (pt_cmpR op_eq (pv 5) pe_int (nomark _)) (pss_one (ps_ret (pe_callTy call_tuple_of rfl T.tuple PySem.Pv.boot_tuple (pa_cons (pe_comp (own:=["_law_other"]) (capN:=["_law_way"]) (cap:=[10]) bkLW rfl (pi_list (pe_meth (pv 1) W.cl W.m Gw hr W.b .nil pass0 (pa_cons (pv 11) (pa_cons (pv 7) (pa_cons (pv 2) pa_nil)))))
        (fun C s' H' fp=>⟨pg_name (i:=0) ndLW rfl (Or.inl rfl),pts_one (pt_cmpR (show OpR _ (compareOp .NotIn) (rIn K true) from op_notIn_seq) (pv 0) (pv 1) (by with_unfolding_all rfl)),pv 0⟩)) pa_nil)))) pss_nil)
      (pss_one (ps_ret (pe_tup (pa_cons (pe_ix ix_list (pv 10) (pe_op op_add (pe_bm PySem.F.plainAttrs_list PySem.F.slot_list_index PySem.F.type_list_index mt_lindex (pv 10) (pa_cons (pv 2) pa_nil)) pe_int) (fun _ _=>rfl)) pa_nil))))))))),?_⟩
    obtain ⟨m',t,em,ht,hkw⟩:=hI.G.pcs k lk hk _ (List.mem_of_head? hq)
    have:m=m':=by have:(m:Int)=(m':Int):=em; omega
    subst this
    obtain ⟨x0,y0,e1,e2,hx0,hy0⟩:=hI.G.lets m t ht
    obtain ⟨hwl,hw9⟩:=hI.G.ways m t ht
    refine ⟨_,rfl,pt,_,rfl,SqT.of hpt,rfl,_,_,rfl,_,_,rfl,rfl,?_⟩
    refine ⟨_,rfl,a.y,a.dy,_,rfl,hI.Y.ins,rfl,_,rfl,a.y,a.dy,a.tb,a.ro,a.la,a.le,a.li,a.dn,st,m,t,rfl,hI.Y,ht,fun t1 H1 s1 g1=>?_⟩
    refine ⟨t1,_,rfl,SqT.of g1,rfl,_,_,rfl,_,_,rfl,_,_,rfl,_,_,rfl,rfl,?_⟩
    have hI1:=hI.same W s1
    refine ⟨_,rfl,a.y,a.dy,_,rfl,hI1.Y.ins,rfl,_,rfl,a.y,a.dy,a.tb,a.ro,a.la,a.le,a.li,a.dn,st,m,t,rfl,hI1.Y,ht,fun wa H2 s2 hwa gwa=>?_⟩
    have hI2:=hI1.same W s2
    obtain ⟨dxt,fst,htb,hland,hways⟩:=hI2.T.i
    have hkl:k < st.lanes.length:=(List.getElem?_eq_some_iff.mp hk).1
    have hkp:k < a.ps.length:=by rw [← hI.G.lanes]; exact hkl
    have he:=List.getElem?_eq_getElem hkp
    have heD:a.ps.getD k (0,0)=a.ps[k]:=by rw [List.getD_eq_getElem?_getD,he]; rfl
    obtain ⟨e,ee,hen⟩:=hI.O.ends k _ he
    have eL:endL a k=(e:Int):=by unfold endL; rw [heD,ee]
    refine ⟨_,rfl,a.tb,TC,dxt,fst,_,rfl,htb,W.cl,W.nl,hland,a.lx,a.ldx,_,rfl,hI2.T.l.1,rfl,_,rfl,a.lx,a.ldx,a.lt,(a.n:Int),a.tvs,a.ps,k,_,rfl,hI2.T.l,he,?_⟩
    rw [ee]
    refine ⟨_,rfl,_,rfl,rfl,_,rfl,?_⟩
    rw [int_eq']
    by_cases hg:(e:Int)=t.goal
    · rw [decide_eq_true hg]
      refine iteT ⟨by show 0 ≤ sizeLine; exact Nat.zero_le _,fun u hu=>?_⟩
      refine q u _ ((s1.trans s2).new hu) ?_
      rw [want_end hJ hk hq ht (by rw [eL]; exact hg)]
      exact upd_same
    rw [decide_eq_false hg]
    refine iteF ⟨_,rfl,rfl,_,rfl,?_⟩
    rw [int_eq']
    have hnl:endL a k ≠ t.goal:=by rw [eL]; exact hg
    by_cases hc:cn=0
    · rw [decide_eq_true hc]
      have ew:wantS a st k=(a.wy e y0 (some k)).filter fun l=>!decide (l ∈ t.way):=by
        rw [want_eq hk hq ht,if_pos hc,e2,Int.toNat_natCast]
        unfold onw
        rw [if_neg (by rw [heD,ee]; intro z; exact hg (by rw [z,e2])),heD,ee,Int.toNat_natCast]
      refine iteT ⟨_,rfl,a.tb,dxt,fst,rfl,htb,hways,_,rfl,_,rfl,_,rfl,?_⟩
      rw [e2]
      refine ⟨a.tb,a.n,a.wy,e,y0,some k,rfl,hI2.T.j,hen,hy0,fun D H3 s3 hD gD=>⟨D,rfl,⟨_,SqL.of gD⟩,?_⟩⟩
      have hol:=hI.O.few e y0 (some k)
      refine comp_lst (fun v=>match v with | .int i=>!decide (i ∈ iz t.way) | _=>false) (fun v=>v) (by rw [nV_len,PySem.sizeLine_eq]; omega) (SqL.of gD) (fun y acc N hy h=>?_) (fun D2 hD2=>?_)
      · obtain ⟨u,hu,rfl⟩:=nV_mem hy
        refine ⟨_,rfl,_,rfl,wa,_,rfl, .inl (SqL.of (s3 _ _ gwa)),rfl,by rw [nV_iz]; exact flat_ints _,_,rfl,?_⟩
        rw [nV_iz,inV_int]
        have h:N (if (!decide ((u:Int) ∈ iz t.way))=true then acc ++ [V.int u] else acc) H3:=h
        cases hb:decide ((u:Int) ∈ iz t.way) with
        | true =>
          rw [hb] at h
          exact iteF h
        | false =>
          rw [hb] at h
          exact iteT ⟨_,rfl,h⟩
      · have e':((nV (a.wy e y0 (some k))).filter (fun v=>match v with | .int i=>!decide (i ∈ iz t.way) | _=>false)).map (fun v=>v)=nV (wantS a st k):=by
          rw [ew,List.map_id']
          unfold nV
          rw [List.filter_map]
          congr 1
          refine List.filter_congr fun u _=>?_
          show (!decide ((u:Int) ∈ iz t.way))=_
          rw [iz_dec]
        rw [e']
        have s4:=(s1.trans (s2.trans s3)).new (o := .lst (nV (wantS a st k))) hD2
        exact ⟨D2,_,rfl, .inl ⟨SqL.of upd_same,fun u hu=>q u _ (s4.new hu) upd_same⟩⟩
    · rw [decide_eq_false hc]
      have hnx:=(hJ.next hk hq hc ht).2 hnl
      have hi:=List.getElem?_eq_getElem hnx
      have ew:wantS a st k=[t.way[t.way.idxOf k + 1]]:=by
        rw [want_eq hk hq ht,if_neg hc,List.drop_eq_getElem_cons hnx]; rfl
      refine iteF ⟨_,rfl,_,rfl, .inl ⟨rfl,_,SqL.of gwa⟩,_,rfl,wa,iz t.way,(k:Int),rfl,rfl,by rw [← nV_iz]; exact gwa,iz_mem.mpr ⟨k,hkw,rfl⟩,by unfold iz; rw [List.length_map]; omega,_,_,rfl,rfl,?_⟩
      rw [idx_iz]
      refine ⟨wa,_,_,_,rfl,rfl,SqL.of gwa,atI_nat (j:=t.way.idxOf k + 1) (nV_get hi),by show 1 ≤ sizeLine; decide,fun u hu=>?_⟩
      refine q u _ ((s1.trans s2).new hu) ?_
      rw [ew]
      exact upd_same
end
end K66
namespace K66
open PySem L2
theorem comp_intR {g:TG} {te:TE} {σ0:St} {H:Hp} {Q:VK} {n:Nat} (f:Nat→Int) (hn:n < sizeLine)
    (hs:∀ (i:Nat) (H1:Hp) (N:V→Hp→Prop),i < n→Same H H1→(∀ H2,Same H1 H2→N (.int (f i)) H2)→g (.int i) σ0 H1 fun σ2 H2=>te σ2 H2 N)
    (hq:∀ D H1,Same H H1→H1 D=none→Q (.ref D) (upd H1 D (.lst (((List.range n).map f).map V.int)))):CompR (Itr 0 n) g tYes te σ0 Q H:=by
  refine comp_gen n hn (fun i acc H'=>Same H H'∧acc=((List.range i).map f).map V.int) ⟨Same.refl _,rfl⟩ (fun i acc H' h=>by rw [h.2,List.length_map,List.length_map,List.length_range]; exact Nat.le_refl _) (fun i acc H' hi h=>?_) (fun acc H' h=>?_)
  · obtain ⟨s,rfl⟩:=h
    refine ⟨hi,fun v H2 y=>?_⟩
    obtain ⟨rfl,rfl⟩:=y
    rw [Int.zero_add]
    exact hs i H2 (fun y H4=>Same H H4∧((List.range i).map f).map V.int ++ [y]=((List.range (i + 1)).map f).map V.int) hi s fun H3 s3=>⟨s.trans s3,by rw [List.range_succ,List.map_append,List.map_append]; rfl⟩
  · obtain ⟨s,rfl⟩:=h
    exact ⟨Nat.le_refl _,fun D hD=>hq D H' s hD⟩
def wtD (w:Nat × List Nat):PyData := .tuple [.int w.1, .tuple (w.2.map fun z:Nat => .int z)]
theorem dens_nV {K:PySem.W.Frag} {H:Hp}:∀ us:List Nat,Dens K H (nV us) (us.map fun z:Nat=>PyData.int z)
  | [] => .nil
  | u :: us => .cons (.int _) (dens_nV us)
theorem den_wt {K:PySem.W.Frag} {H:Hp} {v:V} {w:Nat × List Nat} (h:WtV H v w):Den K H v (wtD w):=by
  obtain ⟨t,u,rfl,h1,h2⟩:=h
  exact .tup (SqT.of h1) (.cons (.int _) (.cons (.tup (SqT.of h2) (dens_nV _)) .nil))
theorem dens_wt {K:PySem.W.Frag} {H:Hp}:∀ {vs:List V} {ws:List (Nat × List Nat)},Paired (WtV H) vs ws→Dens K H vs (ws.map wtD)
  | _,_, .nil => .nil
  | _,_, .cons h r => .cons (den_wt h) (dens_wt r)
theorem shp_wt (ws:List (Nat × List Nat)):Shp (.list (ws.map wtD)) 64:=(shp_list (m:=2) fun z hz=>by
  obtain ⟨w,_,rfl⟩:=List.mem_map.mp hz
  refine shp_tuple (m:=1) fun y hy=>?_
  simp only [List.mem_cons,List.not_mem_nil,or_false] at hy
  rcases hy with rfl | rfl
  · exact (shp_int _).le (by decide)
  · refine shp_tuple (m:=0) fun y hy=>?_
    obtain ⟨u,_,rfl⟩:=List.mem_map.mp hy
    exact shp_int _).le (by decide)
def pairD (p:Int × Int):PyData := .tuple [.int p.1, .int p.2]
theorem dens_lns {K:PySem.W.Frag} {H:Hp}:∀ {vs:List V} {ps:List (Int × Int)},Lns H vs ps→Dens K H vs (ps.map pairD)
  | _,_, .nil => .nil
  | _,_, .cons ⟨t,e,h⟩ r => .cons (by subst e; exact .tup (SqT.of h) (.cons (.int _) (.cons (.int _) .nil))) (dens_lns r)
theorem shp_pairs (ps:List (Int × Int)):Shp (.list (ps.map pairD)) 64:=(shp_list (m:=1) fun z hz=>by
  obtain ⟨p,_,rfl⟩:=List.mem_map.mp hz
  exact shp_tuple (m:=0) fun y hy=>by
    simp only [List.mem_cons,List.not_mem_nil,or_false] at hy
    rcases hy with rfl | rfl <;> exact shp_int _).le (by decide)
theorem shp_mvs (ms:List Mv):Shp (.list (ms.map mvD)) 64:=(shp_list (m:=1) fun z hz=>by
  obtain ⟨m,_,rfl⟩:=List.mem_map.mp hz
  exact shp_mv m).le (by decide)
theorem shp_nil:Shp (.list []) 64:=(shp_list (m:=0) fun z hz=>by cases hz).le (by decide)
theorem eqv_nil {α:Type} (f:α→PyData) (l:List α):PyData.eqv (.list (l.map f)) (.list [])=l.isEmpty:=by
  cases l <;> simp [PyData.eqv,PyData.eqvAll]
theorem eqN {K:PySem.W.Frag} {x y:V} {H:Hp} {Q:VK} {α:Type} {f:α→PyData} {l:List α} (h1:Den K H x (.list (l.map f))) (h2:Den K H y (.list [])) (s:Shp (.list (l.map f)) 64) (q:Q (.bl l.isEmpty) H):rEqD K x y H Q :=
  ⟨_,_,h1,h2,s.shaped (Nat.le_refl _),shp_nil.shaped (Nat.le_refl _),by rw [eqv_nil]; exact q⟩
theorem neN {K:PySem.W.Frag} {x y:V} {H:Hp} {Q:VK} {α:Type} {f:α→PyData} {l:List α} (h1:Den K H x (.list (l.map f))) (h2:Den K H y (.list [])) (s:Shp (.list (l.map f)) 64) (q:Q (.bl (!l.isEmpty)) H):rNeD K x y H Q :=
  ⟨_,_,h1,h2,s.shaped (Nat.le_refl _),shp_nil.shaped (Nat.le_refl _),by rw [eqv_nil]; exact q⟩
def lyI (s:YS):Int:=(s.lies.map fun q=>(q.length:Int)).sum
theorem ly_sum:∀ L:List (List (Int × Int)),(((L.map fun q=>q.length).sum:Nat):Int)=(L.map fun q=>(q.length:Int)).sum
  | []=>rfl
  | q :: L=>by
    have:=ly_sum L
    simp only [List.map_cons,List.sum_cons]; omega
theorem stuck_eq {a:YA} {s:YS} (J:Jnv a s):decide (lyI s < sumLen s) = !endB s:=by
  have h:=J.lying.1
  unfold sumL at h
  rw [ly_sum] at h
  unfold endB lyI sumLen at *
  by_cases e:(s.letters.map fun t=>t.len).sum=(s.lies.map fun q=>(q.length:Int)).sum
  · rw [decide_eq_false (by omega),decide_eq_true e]; rfl
  · rw [decide_eq_true (by omega),decide_eq_false e]; rfl
def spLRight (K:PySem.W.Frag) (c:Cs) (TC:Addr) (J:TJ) (ys:Ys):Sp:=fun vs H Q _=>∃ (a:YA) (s:YS),vs=[.ref a.y, .ref a.tb]∧YIn K c TC J ys H a s∧Jnv a s∧∀ H',Same H H'→Q (.bl true) H'
def asgSum (s:Stmt):Scope:=match s with
  | .Assign _ (.Call _ [.ListComp _ _ sc _] _ _) _=>sc
  | _=>{ kind := .function,names:=[],isGenerator:=false,isCoroutine:=false }
structure RgM (P:Program) (w:World) (K:PySem.W.Frag) (mg:Str→Option Value) (base:Heap) (c:Cs) (TC:Addr) (J:TJ) (ys:Ys) (ft fw fa fy fl fp fm fs:Addr) (dt dw da dy dl dp dm ds:FuncData):Prop where
  mt:Meth K ys.yard "lane_told" ft
  bt:Binds K dt ["self", "lane"] []
  Gt:FnOk P w K mg base CX0 2 ft dt ["self", "lane"] (spLaneT K ys)
  mw:mg "_law_wanted" = some (.ref fw)
  kw:PySem.W.keepIn K (.ref fw)=true
  bw:Binds K dw PLW []
  Gw:FnOk P w K mg base CX0 4 fw dw PLW (spLWant K c TC J ys)
  ma:mg "waits" = some (.ref fa)
  ka:PySem.W.keepIn K (.ref fa)=true
  ba:Binds K da ["yard"] []
  Ga:FnOk P w K mg base CX0 6 fa da ["yard"] (spWaits K c TC J ys)
  my:Meth K ys.yard "lying" fy
  by':Binds K dy ["self", "place"] []
  Gy:FnOk P w K mg base CX0 1 fy dy ["self", "place"] (spLying K ys)
  ml:Meth K ys.yard "letter_told" fl
  bl:Binds K dl ["self", "number"] []
  Gl:FnOk P w K mg base CX0 1 fl dl ["self", "number"] (spLetT K ys)
  mp:Meth K ys.yard "posted" fp
  bp:Binds K dp ["self"] []
  Gp:FnOk P w K mg base CX0 1 fp dp ["self"] (spPosted K ys)
  mm:Meth K ys.yard "moves" fm
  bm:Binds K dm ["self"] []
  Gm:FnOk P w K mg base CX0 7 fm dm ["self"] (spMoves K c TC J ys)
  ms:mg "still" = some (.ref fs)
  ks:PySem.W.keepIn K (.ref fs)=true
  bs:Binds K ds ["yard"] []
  Gs:FnOk P w K mg base CX0 8 fs ds ["yard"] (spStill K c TC J ys)
abbrev NRi:List Str:=["_law_yard", "_law_table_here", "_law_due", "_law_lane", "_law_queue", "_law_found", "_law_lying", "_law_pieces", "_law_stuck", "_law_told"]
section
variable {P:Program} {w:World} {K:PySem.W.Frag} {mg:Str→Option Value} {base:Heap}
theorem scRi:FnScope NRi ["_law_yard", "_law_table_here"] (defScope sLRight):=⟨rfl,rfl,rfl,by decide +kernel,rfl,by decide +kernel,by decide +kernel⟩
theorem bkRi1:Blk NRi (defScope sLRight) (asgSum ((defBody sLRight).getD 5 (.Pass ⟨0,0,0,0⟩))) ["_law_yard"] [0]:=⟨rfl,by decide +kernel,by decide +kernel,by decide +kernel,rfl,by decide +kernel⟩
theorem bkRi2:Blk NRi (defScope sLRight) (asgSum ((defBody sLRight).getD 6 (.Pass ⟨0,0,0,0⟩))) ["_law_yard"] [0]:=⟨rfl,by decide +kernel,by decide +kernel,by decide +kernel,rfl,by decide +kernel⟩
theorem ndRi1:(["_law_place", "_law_yard"]:List Str).Nodup:=by decide +kernel
theorem ndRi2:(["_law_letter", "_law_yard"]:List Str).Nodup:=by decide +kernel
theorem ok_lright {c:Cs} {ys:Ys} {J:TJ} {TC f fw2 ft fw fa fy fl fp fm fs:Addr} {fd dw2 dt dw da dy dl dp dm ds:FuncData} (F:Fun K "_law_right" "_law_right" sLRight f fd) (T:Txt mg) (Z:Kinds K) (zll:PySem.W.kitOne K (.type "list") (.type "list")=some true) (Y:Yrd K ys) (L:Lnd K c) (W:Wy K TC fw2 dw2 J)
    (M:RgM P w K mg base c TC J ys ft fw fa fy fl fp fm fs dt dw da dy dl dp dm ds) :
    FnOk P w K mg base CX0 9 f fd ["_law_yard", "_law_table_here"] (spLRight K c TC J ys):=by
  refine F.ok scRi (fun vs H Q E h=>?_) (fun cdv A outer s H vs Q E hr h=>?_)
  · obtain ⟨a,s,rfl,_⟩:=h
    rfl
  · obtain ⟨a,st,rfl,hI,hJ,q⟩:=h
    have hu:=hr.units
    have hr1:Room 1 _:=hr.mono (by decide)
    have hr2:Room 2 _:=hr.mono (by decide)
    have hr4:Room 4 _:=hr.mono (by decide)
    have hr6:Room 6 _:=hr.mono (by decide)
    have hr7:Room 7 _:=hr.mono (by decide)
    refine ⟨_,pss_cons (ps_set (i:=2) scRi.nd rfl (Or.inl rfl) (pe_lst pa_nil))
      (pss_cons (ps_for PassesOwn.never rfl (pi_range1 rfl T.range (pa_cons (pe_callB call_len_seq rfl T.len PySem.boot_len (pa_cons (pe_fld (pe_fld (pv 1) rfl) rfl) pa_nil)) pa_nil)) (pg_name (i:=3) scRi.nd rfl (Or.inl rfl))
        (pss_cons (ps_set (i:=4) scRi.nd rfl (Or.inl rfl) (pe_ix ix_tup (pe_meth (pv 0) Y.cl M.mt M.Gt hr2 M.bt .nil pass0 (pa_cons (pv 3) pa_nil)) pe_int (fun _ _=>rfl)))
        (pss_one (ps_if (pt_cmpR (op_neD hu) (pv 4) (pe_lst pa_nil) (nomark _))
          (pss_one (ps_expr (pe_bm PySem.F.plainAttrs_list PySem.F.slot_list_append PySem.F.type_list_append mt_append (pv 2) (pa_cons (pe_tup (pa_cons (pv 3) (pa_cons (pe_call M.Gw hr4 rfl M.mw M.kw M.bw .nil pass0 (pa_cons (pv 0) (pa_cons (pv 1) (pa_cons (pv 3) (pa_cons (pe_ix ix_list (pv 4) pe_int (fun _ _=>rfl)) pa_nil))))) pa_nil))) pa_nil)))) pss_nil))))
      (pss_cons (ps_set (i:=5) scRi.nd rfl (Or.inl rfl) (pe_call M.Ga hr6 rfl M.ma M.ka M.ba .nil pass0 (pa_cons (pv 0) pa_nil)))
      (pss_cons (ps_if (PW.pt (pw_or (pt_not (pt_val (pe_callB call_isV rfl T.isi PyProof.Rows.boot_isinstance (pa_cons (pv 5) (pa_cons (pe_bltn (v := .ty "list") rfl T.list PySem.Pv.boot_list rfl) pa_nil))))) (pw_or1 (pt_cmpR (op_neD hu) (pv 5) (pv 2) (nomark _))))) (pss_one (ps_ret pe_bl)) pss_nil)
      (pss_cons (ps_expr (pe_bm PySem.F.plainAttrs_list PySem.F.slot_list_append PySem.F.type_list_append mt_append (pv 5) (pa_cons (pe_tup (pa_cons pe_int (pa_cons (pe_tup (pa_cons pe_int pa_nil)) pa_nil))) pa_nil)))
      (pss_cons (ps_set (i:=6) scRi.nd rfl (Or.inl rfl) (pe_callB (call_sum rfl) rfl T.sum PyProof.Rows.boot_sum (pa_cons (pe_comp (own:=["_law_place"]) (capN:=["_law_yard"]) (cap:=[0]) bkRi1 rfl (pi_range1 rfl T.range (pa_cons (pe_fld (pe_fld (pv 1) rfl) rfl) pa_nil)) (fun C s' H' fp=>⟨pg_name (i:=0) ndRi1 rfl (Or.inl rfl),pts_nil,pe_callB (show CallR _ (.builtin "len") (rLen K) from call_len_seq) rfl T.len PySem.boot_len (pa_cons (pe_meth (pv 1) Y.cl M.my M.Gy hr1 M.by' .nil pass0 (pa_cons (pv 0) pa_nil)) pa_nil)⟩)) pa_nil)))
      (pss_cons (ps_set (i:=7) scRi.nd rfl (Or.inl rfl) (pe_callB (call_sum rfl) rfl T.sum PyProof.Rows.boot_sum (pa_cons (pe_comp (own:=["_law_letter"]) (capN:=["_law_yard"]) (cap:=[0]) bkRi2 rfl (pi_range1 rfl T.range (pa_cons (pe_meth0 (pv 0) Y.cl M.mp M.Gp hr1 M.bp .nil pass0) pa_nil)) (fun C s' H' fp=>⟨pg_name (i:=0) ndRi2 rfl (Or.inl rfl),pts_nil,pe_ix (show IxR _ (rIxT K) from ix_tup) (pe_meth (pv 1) Y.cl M.ml M.Gl hr1 M.bl .nil pass0 (pa_cons (pv 0) pa_nil)) pe_int (fun _ _=>rfl)⟩)) pa_nil)))
      (pss_cons (ps_set (i:=8) scRi.nd rfl (Or.inl rfl) (pe_and (pe_cmpR (op_eqD hu) (pe_meth0 (pv 0) Y.cl M.mm M.Gm hr7 M.bm .nil pass0) (pe_lst pa_nil) (nomark _)) (pe_one (pe_cmpR op_lt (pv 6) (pv 7) (nomark _)))))
      (pss_cons (ps_set (i:=9) scRi.nd rfl (Or.inl rfl) (pe_call M.Gs hr rfl M.ms M.ks M.bs .nil pass0 (pa_cons (pv 0) pa_nil)))
      (pss_one (ps_ret (pe_and (pe_cmpR (op_eqD hu) (pe_call M.Ga hr6 rfl M.ma M.ka M.ba .nil pass0 (pa_cons (pv 0) pa_nil)) (pv 2) (nomark _)) (pe_and (pe_callB call_isV rfl T.isi PyProof.Rows.boot_isinstance (pa_cons (pv 9) (pa_cons (pe_bltn (v := .ty "bool") rfl T.bool PySem.Pv.boot_bool rfl) pa_nil))) (pe_and (pe_cmpR op_eq (pv 9) (pv 8) (nomark _)) (pe_one (pe_cmpR op_eq (pe_call M.Gs hr rfl M.ms M.ks M.bs .nil pass0 (pa_cons (pv 0) pa_nil)) (pv 9) (nomark _)))))))))))))))),?_⟩
    have h40:=hI.T.few
    have hln:=hI.G.lanes
    have hn12:=hI.T.n12
    have hfew:=hI.G.few
    have hlies:=hI.G.lies
    obtain ⟨dxt,fst,htb,hland,hways⟩:=hI.T.i
    have htl:a.tvs.length=a.ps.length:=Paired.length hI.T.l.2.2
    refine ⟨Nat.zero_le _,fun Du hDu=>?_⟩
    have s0:=(Same.refl H).new (o := .lst []) hDu
    have g0:(upd H Du (.lst [])) Du=some (.lst []):=upd_same
    show gName 2 (V.ref Du) _ _ _
    generalize upd H Du (.lst [])=H0 at s0 g0 ⊢
    refine ⟨_,rfl,a.tb,TC,dxt,fst,_,rfl,s0 _ _ htb,W.cl,W.nl,hland,a.lx,c.land,a.ldx,_,_,rfl,s0 _ _ hI.T.l.1,L.cl,L.nl,rfl,a.lt,_,rfl, .inr (SqT.of (s0 _ _ hI.T.l.2.1)),((a.tvs.length:Nat):Int),rfl,by omega,by omega,?_⟩
    rw [Int.toNat_natCast,htl]
    refine for_range (n:=a.ps.length) (fun i σ H2=>∃ (a3 a4:Option V) (fvs:List V),Same H H2∧H2 Du=some (.lst fvs)∧Paired (WtV H2) fvs (waitsS a st i)∧σ=[some (.ref a.y),some (.ref a.tb),some (.ref Du),a3,a4,none,none,none,none,none]) ⟨none,none,[],s0,g0, .nil,rfl⟩ ?_ ?_
    · rintro i σ H2 hi ⟨a3,a4,fvs,s2,g2,p2,rfl⟩
      rw [Int.zero_add]
      have hI2:=hI.same W s2
      have hil:i < st.lanes.length:=by omega
      obtain ⟨ln,hlni⟩:∃ ln,st.lanes[i]? = some ln:=⟨_,List.getElem?_eq_getElem hil⟩
      have eF:frontQ st i=ln.qs.head?:=by unfold frontQ; rw [hlni]
      have hfl:fvs.length ≤ 40:=by rw [Paired.length p2]; have:=waits_len a st i; omega
      refine ⟨_,rfl,a.y,a.dy,_,rfl,hI2.Y.ins,rfl,_,rfl,a.y,a.dy,a.tb,a.ro,a.la,a.le,a.li,a.dn,st,i,ln,rfl,hI2.Y,hlni,fun t ql pvs H3 s3 hql gt gql hL=>?_⟩
      refine ⟨t,_,3,_,rfl,rfl,SqT.of gt,atI_nat (j:=3) rfl,?_⟩
      refine ⟨_,rfl,Nat.zero_le _,fun o1 ho1=>?_⟩
      have s4:=s3.new (o := .lst []) ho1
      have go1:(upd H3 o1 (.lst [])) o1=some (.lst []):=upd_same
      have gql4:(upd H3 o1 (.lst [])) ql=some (.lst pvs):=by rw [upd_ne (ne_of_none gql ho1)]; exact gql
      have hL4:Lns (upd H3 o1 (.lst [])) pvs ln.qs:=Lns.same ((Same.refl H3).new ho1) hL
      generalize upd H3 o1 (.lst [])=H4 at s4 go1 gql4 hL4 ⊢
      refine neN (f:=pairD) (l:=ln.qs) (.lst (SqL.of gql4) (dens_lns hL4)) (.lst (SqL.of go1) .nil) (shp_pairs _) ⟨_,rfl,?_⟩
      rw [waits_succ,eF]
      have hI4:=hI2.same W s4
      cases hqs:ln.qs with
      | nil=>exact iteF ⟨_,_,fvs,s2.trans s4,s4 _ _ g2,Paired.mono (fun _ _ z=>z.keep (Same.keepN s4)) p2,rfl⟩
      | cons q0 r0 =>
        obtain ⟨m,t0,em,ht0,hkw⟩:=hI.G.pcs i ln hlni q0 (by rw [hqs]; exact List.mem_cons_self)
        obtain ⟨m0,cq⟩:=q0
        have em:m0=(m:Int):=em
        subst em
        have hhd:ln.qs.head? = some ((m:Int),cq):=by rw [hqs]; rfl
        obtain ⟨v,hv,pt,rfl,hpt⟩:=Lns.get2 (i:=0) hL4 (head_idx hhd)
        refine iteT ⟨_,rfl, .inl ⟨rfl,_,SqL.of (s4 _ _ g2)⟩,_,rfl,_,rfl,_,rfl,_,rfl,_,rfl,ql,_,0,_,rfl,rfl,SqL.of gql4,atI_nat (j:=0) hv,a,st,i,m,cq,ln,pt,rfl,hI4,hJ,hlni,hhd,hpt,fun u H5 s5 gu=>?_⟩
        refine ⟨by show 2 ≤ sizeLine; decide,fun t6 ht6=>?_⟩
        have s6:=(s4.trans s5).new (o := .tup [.int i, .ref u]) ht6
        have g6:(upd H5 t6 (.tup [.int i, .ref u])) t6=some (.tup [.int i, .ref u]):=upd_same
        have g6u:(upd H5 t6 (.tup [.int i, .ref u])) u=some (.tup (nV (wantS a st i))):=by rw [upd_ne (ne_of_none gu ht6)]; exact gu
        generalize upd H5 t6 (.tup [.int i, .ref u])=H6 at s6 g6 g6u ⊢
        have kk:KeepN H6 (upd H6 Du (.lst (fvs ++ [.ref t6]))):=lst_keep (s6 _ _ g2)
        refine ⟨Du,fvs,_,rfl,rfl,s6 _ _ g2,by rw [PySem.sizeLine_eq]; omega,?_⟩
        refine ⟨_,_,fvs ++ [.ref t6],fun b o e=>by rw [upd_ne (ne_of_none e hDu)]; exact s6 _ _ (s2 _ _ e),upd_same,?_,rfl⟩
        show Paired _ _ (waitsS a st i ++ [(i,wantS a st i)])
        exact Paired.snoc ⟨t6,u,rfl,kk _ _ g6 True.intro,kk _ _ g6u True.intro⟩ (Paired.mono (fun _ _ z=>z.keep (KeepN.trans (Same.keepN s6) kk)) p2)
    rintro σ H2 ⟨a3,a4,dvs,s2,gDu,pDu,rfl⟩
    have hI2:=hI.same W s2
    refine ⟨_,rfl,a,st,rfl,hI2,fun Fd fvs H3 s3 hFd gFd pFd=>?_⟩
    have gDu3:=s3 _ _ gDu
    have pDu3:Paired (WtV H3) dvs (waitsS a st a.ps.length):=Paired.mono (fun _ _ z=>z.keep (Same.keepN s3)) pDu
    refine ⟨_,rfl, .ref Fd,_, "list",true,rfl, .lst gFd,zll,_,rfl,iteF ⟨_,rfl,_,rfl,?_⟩⟩
    refine neS (d := .list ((waitsS a st a.ps.length).map wtD)) (.lst (SqL.of gFd) (dens_wt pFd)) (.lst (SqL.of gDu3) (dens_wt pDu3)) (shp_wt _) ⟨_,rfl,iteF ?_⟩
    have hfl:fvs.length ≤ 40:=by rw [Paired.length pFd]; have:=waits_len a st a.ps.length; omega
    refine ⟨_,rfl, .inl ⟨rfl,_,SqL.of gFd⟩,by show 1 ≤ sizeLine; decide,fun o1 ho1=>⟨by show 2 ≤ sizeLine; decide,fun o2 ho2=>?_⟩⟩
    have s4:=(s3.new (o := .tup [.int 0]) ho1).new (o := .tup [.int 0, .ref o1]) ho2
    have gF4:(upd (upd H3 o1 (.tup [.int 0])) o2 (.tup [.int 0, .ref o1])) Fd=some (.lst fvs):=by rw [upd_ne (by intro z; rw [← z,upd_ne (ne_of_none gFd ho1),gFd] at ho2; cases ho2),upd_ne (ne_of_none gFd ho1)]; exact gFd
    generalize upd (upd H3 o1 (.tup [.int 0])) o2 (.tup [.int 0, .ref o1])=H4 at s4 gF4 ⊢
    refine ⟨Fd,fvs,_,rfl,rfl,gF4,by rw [PySem.sizeLine_eq]; omega,?_⟩
    have s5:Same H2 (upd H4 Fd (.lst (fvs ++ [.ref o2]))):=fun b o e=>by rw [upd_ne (ne_of_none e hFd)]; exact s4 _ _ e
    generalize upd H4 Fd (.lst (fvs ++ [.ref o2]))=H5 at s5 ⊢
    have hI5:=hI2.same W s5
    have gDu5:=s5 _ _ gDu
    have pDu5:Paired (WtV H5) dvs (waitsS a st a.ps.length):=Paired.mono (fun _ _ z=>z.keep (Same.keepN s5)) pDu
    obtain ⟨dxt5,fst5,htb5,hland5,hways5⟩:=hI5.T.i
    refine ⟨_,rfl,a.tb,TC,dxt5,fst5,_,rfl,htb5,W.cl,W.nl,hland5,a.lx,c.land,a.ldx,_,_,rfl,hI5.T.l.1,L.cl,L.np,rfl,(a.n:Int),rfl,by omega,by omega,?_⟩
    rw [Int.toNat_natCast]
    refine comp_intR (fun i=>((st.lies.getD i []).length:Int)) (by rw [PySem.sizeLine_eq]; omega) (fun i H6 N hi s6 hN=>?_) (fun D6 H6 s6 hD6=>?_)
    · have hI6:=hI5.same W s6
      have hil:i < st.lies.length:=by omega
      have hli:=List.getElem?_eq_getElem hil
      have egd:st.lies.getD i []=st.lies[i]:=by rw [List.getD_eq_getElem?_getD,hli]; rfl
      rw [egd] at hN
      refine ⟨_,rfl,a.y,a.dy,_,rfl,hI6.Y.ins,rfl,_,rfl,a,st,i,st.lies[i],rfl,hI6.Y,hli,fun D pvs H7 s7 hD gD hL=>?_⟩
      refine ⟨D,pvs,rfl, .inl (SqL.of gD),?_⟩
      rw [Paired.length hL]
      exact hN H7 s7
    have ely:(List.range a.n).map (fun i=>((st.lies.getD i []).length:Int))=st.lies.map fun q=>(q.length:Int):=by rw [← hlies]; exact range_getD st.lies [] fun q=>(q.length:Int)
    rw [ely]
    have s7:=(s6).new (o := .lst ((st.lies.map fun q=>(q.length:Int)).map V.int)) hD6
    have g7:(upd H6 D6 (.lst ((st.lies.map fun q=>(q.length:Int)).map V.int))) D6=some (.lst ((st.lies.map fun q=>(q.length:Int)).map V.int)):=upd_same
    generalize upd H6 D6 (.lst ((st.lies.map fun q=>(q.length:Int)).map V.int))=H7 at s7 g7 ⊢
    refine ⟨D6,_,rfl,SqL.of g7,?_⟩
    show gName 6 (V.int (lyI st)) _ _ _
    have hI7:=hI5.same W s7
    refine ⟨_,rfl,a.y,a.dy,_,rfl,hI7.Y.ins,rfl,a.y,a.dy,a.tb,a.ro,a.la,a.le,a.li,a.dn,st,rfl,hI7.Y,(st.letters.length:Int),rfl,by omega,by omega,?_⟩
    rw [Int.toNat_natCast]
    refine comp_intR (fun i=>(st.letters.getD i ⟨0,0,0,0,0,[]⟩).len) (by rw [PySem.sizeLine_eq]; omega) (fun i H8 N hi s8 hN=>?_) (fun D8 H8 s8 hD8=>?_)
    · have hI8:=hI7.same W s8
      have hlt:=List.getElem?_eq_getElem hi
      have egd:st.letters.getD i ⟨0,0,0,0,0,[]⟩ = st.letters[i]:=by rw [List.getD_eq_getElem?_getD,hlt]; rfl
      rw [egd] at hN
      refine ⟨_,rfl,a.y,a.dy,_,rfl,hI8.Y.ins,rfl,_,rfl,a.y,a.dy,a.tb,a.ro,a.la,a.le,a.li,a.dn,st,i,st.letters[i],rfl,hI8.Y,hlt,fun t H9 s9 gt=>?_⟩
      exact ⟨t,_,2,_,rfl,rfl,SqT.of gt,atI_nat (j:=2) rfl,hN H9 s9⟩
    have ele:(List.range st.letters.length).map (fun i=>(st.letters.getD i ⟨0,0,0,0,0,[]⟩).len)=st.letters.map fun t=>t.len:=range_getD st.letters _ fun t=>t.len
    rw [ele]
    have s9:=(s7.trans s8).new (o := .lst ((st.letters.map fun t=>t.len).map V.int)) hD8
    have g9:(upd H8 D8 (.lst ((st.letters.map fun t=>t.len).map V.int))) D8=some (.lst ((st.letters.map fun t=>t.len).map V.int)):=upd_same
    generalize upd H8 D8 (.lst ((st.letters.map fun t=>t.len).map V.int))=H9 at s9 g9 ⊢
    refine ⟨D8,_,rfl,SqL.of g9,?_⟩
    show gName 7 (V.int (sumLen st)) _ _ _
    have hI9:=hI5.same W s9
    refine ⟨_,rfl,a.y,a.dy,_,rfl,hI9.Y.ins,rfl,a,st,rfl,hI9,fun Dm mvs Ha sa hDm gDm hpm=>⟨Nat.zero_le _,fun o3 ho3=>?_⟩⟩
    have sb:=sa.new (o := .lst []) ho3
    have go3:(upd Ha o3 (.lst [])) o3=some (.lst []):=upd_same
    have gDm':(upd Ha o3 (.lst [])) Dm=some (.lst mvs):=by rw [upd_ne (ne_of_none gDm ho3)]; exact gDm
    have hpm':=Paired.mono (fun _ _ z=>z.keep (Same.keepN ((Same.refl Ha).new (o := .lst []) ho3))) hpm
    generalize upd Ha o3 (.lst [])=Hb at sb go3 gDm' hpm' ⊢
    refine eqN (f:=mvD) (l:=movesS a st) (.lst (SqL.of gDm') (dens_mv hpm')) (.lst (SqL.of go3) .nil) (shp_mvs _) ⟨_,rfl,?_⟩
    have hIb:=hI9.same W sb
    have s5b:=s9.trans sb
    have gDub:=s5b _ _ gDu5
    have pDub:Paired (WtV Hb) dvs (waitsS a st a.ps.length):=Paired.mono (fun _ _ z=>z.keep (Same.keepN s5b)) pDu5
    have sHb:Same H Hb:=s2.trans (s5.trans s5b)
    have rest:∀ sv:Bool,sv=stillS a st→∀ σ',σ' = ([some (.ref a.y),some (.ref a.tb),some (.ref Du),a3,a4,some (.ref Fd),some (.int (lyI st)),some (.int (sumLen st)),some (.bl sv),none]:St)→True:=fun _ _ _ _=>True.intro
    cases hm:(movesS a st).isEmpty with
    | false =>
      have hs:stillS a st=false:=by unfold stillS; rw [hm]; rfl
      refine iteF ⟨_,rfl,a,st,rfl,hIb,fun Hc sc=>?_⟩
      rw [hs]
      refine ⟨_,rfl,a,st,rfl,hIb.same W sc,fun Fe fve Hd sd hFe gFe pFe=>⟨_,rfl,?_⟩⟩
      refine eqS (d := .list ((waitsS a st a.ps.length).map wtD)) (.lst (SqL.of gFe) (dens_wt pFe)) (.lst (SqL.of (sd _ _ (sc _ _ gDub))) (dens_wt (Paired.mono (fun _ _ z=>z.keep (Same.keepN (sc.trans sd))) pDub))) (shp_wt _) ⟨true,rfl,iteT ?_⟩
      refine ⟨_,rfl, .bl false,_, "bool",true,rfl, .bl false,Z.bb,true,rfl,iteT ⟨_,rfl,_,rfl,rfl,_,rfl,iteT ?_⟩⟩
      refine ⟨_,rfl,a,st,rfl,hIb.same W (sc.trans sd),fun He se=>?_⟩
      rw [hs]
      exact ⟨_,rfl,rfl,q He (sHb.trans (sc.trans (sd.trans se)))⟩
    | true =>
      have hs:stillS a st=decide (lyI st < sumLen st):=by unfold stillS; rw [hm,stuck_eq hJ]; rfl
      refine iteT ⟨_,rfl,_,rfl,_,_,rfl,rfl,?_⟩
      refine ⟨_,rfl,a,st,rfl,hIb,fun Hc sc=>?_⟩
      rw [hs]
      refine ⟨_,rfl,a,st,rfl,hIb.same W sc,fun Fe fve Hd sd hFe gFe pFe=>⟨_,rfl,?_⟩⟩
      refine eqS (d := .list ((waitsS a st a.ps.length).map wtD)) (.lst (SqL.of gFe) (dens_wt pFe)) (.lst (SqL.of (sd _ _ (sc _ _ gDub))) (dens_wt (Paired.mono (fun _ _ z=>z.keep (Same.keepN (sc.trans sd))) pDub))) (shp_wt _) ⟨true,rfl,iteT ?_⟩
      refine ⟨_,rfl, .bl _,_, "bool",true,rfl, .bl _,Z.bb,true,rfl,iteT ⟨_,rfl,_,rfl,rfl,true,congrArg V.bl (decide_eq_true rfl),iteT ?_⟩⟩
      refine ⟨_,rfl,a,st,rfl,hIb.same W (sc.trans sd),fun He se=>?_⟩
      rw [hs]
      refine ⟨_,rfl,rfl,?_⟩
      rw [decide_eq_true rfl]
      exact q He (sHb.trans (sc.trans (sd.trans se)))
end
end K66
namespace K66
open PySem L2
theorem same_off {ex:List Addr} {H H1 H2:Hp} (s:Same H H1) (o:OffE ex H1 H2) (hn:∀ b ∈ ex,H b=none):Same H H2:=fun b u e=>o b _ (fun z=>by rw [hn b z] at e; cases e) (s b u e)
theorem cut_ints (ns:List Int) (i j:Nat):∃ ms:List Int,cutV (ns.map V.int) (some (i:Int)) (some (j:Int))=ms.map V.int∧ms.length ≤ j - i:=by
  refine ⟨(ns.drop (min i ns.length)).take (min j ns.length - min i ns.length),?_,?_⟩
  · unfold cutV
    rw [show HT.sIx (ns.map V.int).length 0 (some (i:Int))=min i (ns.map V.int).length from HT.sIx_nat _ _ i,show HT.sIx (ns.map V.int).length (ns.map V.int).length (some (j:Int))=min j (ns.map V.int).length from HT.sIx_nat _ _ j,List.length_map,List.map_take,List.map_drop]
  · rw [List.length_take,List.length_drop]; omega
def vD:V→PyData
  | .int i => .int i
  | .str t => .str t
  | _ => .none
def rowD (m:List V):PyData := .tuple (m.map vD)
theorem dens_sc {K:PySem.W.Frag} {H:Hp}:∀ {m:List V},(∀ x ∈ m,ScV x)→Dens K H m (m.map vD)
  | [],_ => .nil
  | x :: m,h=>by
    refine .cons ?_ (dens_sc fun y hy=>h y (List.mem_cons_of_mem _ hy))
    rcases h x List.mem_cons_self with ⟨i,rfl⟩ | ⟨t,rfl,_⟩
    · exact .int i
    · exact .str t
theorem dens_done {K:PySem.W.Frag} {H:Hp}:∀ {vs:List V} {ms:List (List V)},Paired (MvV H) vs ms→(∀ m ∈ ms,∀ x ∈ m,ScV x)→Dens K H vs (ms.map rowD)
  | _,_, .nil,_ => .nil
  | _,_, .cons ⟨t,e,h⟩ r,hm=>by
    subst e
    exact .cons (.tup (SqT.of h) (dens_sc (hm _ List.mem_cons_self))) (dens_done r fun m hm'=>hm m (List.mem_cons_of_mem _ hm'))
theorem shp_done {ms:List (List V)} (h:∀ m ∈ ms,∀ x ∈ m,ScV x):Shp (.list (ms.map rowD)) 64:=(shp_list (m:=1) fun z hz=>by
  obtain ⟨m,hm,rfl⟩:=List.mem_map.mp hz
  refine shp_tuple (m:=0) fun y hy=>?_
  obtain ⟨x,hx,rfl⟩:=List.mem_map.mp hy
  rcases h m hm x hx with ⟨i,rfl⟩ | ⟨t,rfl,ht⟩
  · exact shp_int _
  · exact shp_str ht).le (by decide)
theorem mv_sc (m:Mv):∀ x ∈ mvV m,ScV x:=by
  intro x hx
  cases m <;> simp only [mvV,List.mem_cons,List.not_mem_nil,or_false] at hx
  · rcases hx with rfl | rfl | rfl
    · exact .inr ⟨_,rfl,by decide +kernel⟩
    · exact .inl ⟨_,rfl⟩
    · exact .inl ⟨_,rfl⟩
  · rcases hx with rfl | rfl | rfl
    · exact .inr ⟨_,rfl,by decide +kernel⟩
    · exact .inl ⟨_,rfl⟩
    · exact .inl ⟨_,rfl⟩
  · rcases hx with rfl | rfl
    · exact .inr ⟨_,rfl,by decide +kernel⟩
    · exact .inl ⟨_,rfl⟩
  · rcases hx with rfl | rfl
    · exact .inr ⟨_,rfl,by decide +kernel⟩
    · exact .inl ⟨_,rfl⟩
theorem Jnv.done {a:YA} {s:YS} (J:Jnv a s) (d:List (List V)):Jnv a { s with done:=d }:=⟨J.lanes,J.lies,J.few,J.p40,J.lets,J.ways,J.pcs,J.glen,J.none0,J.last,J.head,J.first,J.at0,J.sum⟩
theorem pst0 {a:YA} {rvs:List V} (h:rvs.length=a.ps.length):Pst a (Y0 rvs a.n):=by
  refine ⟨by show (rvs.map ln0).length=_; rw [List.length_map]; exact h,by show (List.replicate a.n []).length=_; rw [List.length_replicate],fun k ln hk=>?_,fun p qs hp=>?_,fun m t ht=>?_,fun d hd=>?_⟩
  · have hk:(rvs.map ln0)[k]? = some ln:=hk
    rw [List.getElem?_map] at hk
    cases hr:rvs[k]? with
    | none=>rw [hr] at hk; cases hk
    | some v=>rw [hr] at hk; cases hk; rfl
  · have hp:(List.replicate a.n ([]:List (Int × Int)))[p]? = some qs:=hp
    exact List.eq_of_mem_replicate (List.mem_of_getElem? hp)
  · have ht:([]:List LtS)[m]? = some t:=ht
    cases ht
  · have hd:d ∈ ([]:List (List V)):=hd
    cases hd
def spLaw (K:PySem.W.Frag):Sp:=fun vs H Q _=>∃ (a:Addr) (ns:List Int),vs=[.ref a]∧SqL K H a (ns.map V.int)∧ns.length ≤ 63∧∀ H',Q (.bl true) H'
abbrev NLw:List Str:=["_law_script", "_law_places", "_law_lanes_here", "_law_table_here", "_law_cell", "_law_yard", "_law_pick", "_law_moves", "_law_past"]
def mkC (s:Stmt):Scope:=match s with
  | .Assign _ (.Call _ [_, .ListComp _ _ sc _] _ _) _=>sc
  | _=>{ kind := .function,names:=[],isGenerator:=false,isCoroutine:=false }
structure Fns (P:Program) (w:World) (K:PySem.W.Frag) (mg:Str→Option Value) (base:Heap) (c:Cs) (ts:Ts) (ys:Ys) (nr:Addr) (fc fl ft fy fp fr fm fd fh:Addr) (dc dl dt dy dp dr dm dd dh:FuncData):Prop where
  mc:mg "_law_cell_at" = some (.ref fc)
  kc:PySem.W.keepIn K (.ref fc)=true
  bc:Binds K dc ["_law_script", "_law_k"] []
  Gc:FnOk P w K mg base CX0 1 fc dc ["_law_script", "_law_k"] (spCell K)
  ml:mg "_law_lanes" = some (.ref fl)
  kl:PySem.W.keepIn K (.ref fl)=true
  bl:Binds K dl ["_law_script", "_law_places"] []
  Gl:FnOk P w K mg base CX0 2 fl dl ["_law_script", "_law_places"] (spLanes K)
  mt:mg "_law_table" = some (.ref ft)
  kt:PySem.W.keepIn K (.ref ft)=true
  bt:Binds K dt ["_law_lanes_here", "_law_places", "_law_cell"] []
  Gt:FnOk P w K mg base CX0 7 ft dt ["_law_lanes_here", "_law_places", "_law_cell"] (spLTab P w c ts)
  my:mg "Yard" = some (.ref ys.yard)
  My:Mk K ys.yard fy
  by0:Binds K dy ["self", "table", "rooms"] []
  Gy:FnOk P w K mg base (CXe P w) 4 fy dy ["self", "table", "rooms"] (spYdI K c ts.told (ToldJ P w ts) ys nr)
  mp:mg "_law_post" = some (.ref fp)
  kp:PySem.W.keepIn K (.ref fp)=true
  bp:Binds K dp ["_law_yard", "_law_table_here", "_law_places", "_law_cells"] []
  Gp:FnOk P w K mg base CX0 5 fp dp ["_law_yard", "_law_table_here", "_law_places", "_law_cells"] (spLPost K c ts.told (ToldJ P w ts) ys)
  mr:mg "_law_right" = some (.ref fr)
  kr:PySem.W.keepIn K (.ref fr)=true
  br:Binds K dr ["_law_yard", "_law_table_here"] []
  Gr:FnOk P w K mg base CX0 9 fr dr ["_law_yard", "_law_table_here"] (spLRight K c ts.told (ToldJ P w ts) ys)
  mm:Meth K ys.yard "moves" fm
  bm:Binds K dm ["self"] []
  Gm:FnOk P w K mg base CX0 7 fm dm ["self"] (spMoves K c ts.told (ToldJ P w ts) ys)
  md:Meth K ys.yard "do" fd
  bd:Binds K dd ["self", "move"] []
  Gd:FnOk P w K mg base (CXe P w) 8 fd dd ["self", "move"] (spDo K c ts.told (ToldJ P w ts) ys)
  mh:Meth K ys.yard "history" fh
  bh:Binds K dh ["self"] []
  Gh:FnOk P w K mg base CX0 1 fh dh ["self"] (spHist K ys)
section
variable {P:Program} {w:World} {K:PySem.W.Frag} {mg:Str→Option Value} {base:Heap}
theorem scLw:FnScope NLw ["_law_script"] (defScope sLaw):=⟨rfl,rfl,rfl,by decide +kernel,rfl,by decide +kernel,by decide +kernel⟩
theorem bkLw:Blk NLw (defScope sLaw) (mkC ((defBody sLaw).getD 4 (.Pass ⟨0,0,0,0⟩))) ["_law_cell"] [4]:=⟨rfl,by decide +kernel,by decide +kernel,by decide +kernel,rfl,by decide +kernel⟩
theorem ndLw:(["_law_k", "_law_cell"]:List Str).Nodup:=by decide +kernel
theorem ok_law {c:Cs} {ts:Ts} {ys:Ys} {nr f fw fc fl ft fy fp fr fm fd fh:Addr} {df dw dc dl dt dy dp dr dm dd dh:FuncData} (F:Fun K "law" "law" sLaw f df) (T:Txt mg) (Y:Yrd K ys) (W:Wy K ts.told fw dw (ToldJ P w ts)) (D:Fns P w K mg base c ts ys nr fc fl ft fy fp fr fm fd fh dc dl dt dy dp dr dm dd dh) :
    FnOk P w K mg base CX0 10 f df ["_law_script"] (spLaw K):=by
  refine F.ok scLw (fun vs H Q E h=>?_) (fun cdv A outer s H vs Q E hr h=>?_)
  · obtain ⟨a,ns,rfl,_⟩:=h
    rfl
  · obtain ⟨sc,ns,rfl,hS,hlen,q⟩:=h
    have hu:=hr.units
    have hr1:Room 1 _:=hr.mono (by decide)
    have hr2:Room 2 _:=hr.mono (by decide)
    have hr5:Room 5 _:=hr.mono (by decide)
    have hr7:Room 7 _:=hr.mono (by decide)
    have hr8:Room 8 _:=hr.mono (by decide)
    refine ⟨_,pss_cons (ps_set (i:=1) scLw.nd rfl (Or.inl rfl) (pe_op op_add pe_int (pe_op op_mod (pe_call D.Gc hr1 rfl D.mc D.kc D.bc .nil pass0 (pa_cons (pv 0) (pa_cons pe_int pa_nil))) pe_int)))
      (pss_cons (ps_set (i:=2) scLw.nd rfl (Or.inl rfl) (pe_call D.Gl hr2 rfl D.ml D.kl D.bl .nil pass0 (pa_cons (pv 0) (pa_cons (pv 1) pa_nil))))
      (pss_cons (ps_set (i:=3) scLw.nd rfl (Or.inl rfl) (pe_call D.Gt hr7 rfl D.mt D.kt D.bt .nil pass0 (pa_cons (pv 2) (pa_cons (pv 1) (pa_cons (pe_call D.Gc hr1 rfl D.mc D.kc D.bc .nil pass0 (pa_cons (pv 0) (pa_cons pe_int pa_nil))) pa_nil)))))
      (pss_cons (ps_set (i:=4) scLw.nd rfl (Or.inr rfl) (pe_op op_fdiv (pe_call D.Gc hr1 rfl D.mc D.kc D.bc .nil pass0 (pa_cons (pv 0) (pa_cons pe_int pa_nil))) pe_int))
      (pss_cons (ps_set (i:=5) scLw.nd rfl (Or.inl rfl) (pe_make D.My D.Gy hr5 rfl D.my D.by0 .nil passE0 (pa_cons (pv 3) (pa_cons (pe_comp (own:=["_law_k"]) (capN:=["_law_cell"]) (cap:=[4]) bkLw rfl (pi_range1 rfl T.range (pa_cons (pe_callB call_len_seq rfl T.len PySem.boot_len (pa_cons (pv 2) pa_nil)) pa_nil)) (fun C s' H' fp=>⟨pg_name (i:=0) ndLw rfl (Or.inl rfl),pts_nil,pe_op op_add pe_int (pe_op op_mod (pe_op op_fdiv (pv 1) (pe_op op_add (pv 0) pe_int)) pe_int)⟩)) pa_nil))))
      (pss_cons (ps_expr (pe_call D.Gp hr5 rfl D.mp D.kp D.bp .nil pass0 (pa_cons (pv 5) (pa_cons (pv 3) (pa_cons (pv 1) (pa_cons (pe_slice sl_list (pv 0) (po_some pe_int) (po_some pe_int)) pa_nil))))))
      (pss_cons (ps_if (pt_not (pt_val (pe_call D.Gr hr rfl D.mr D.kr D.br .nil pass0 (pa_cons (pv 5) (pa_cons (pv 3) pa_nil))))) (pss_one (ps_ret pe_bl)) pss_nil)
      (pss_cons (ps_for PassesOwn.never rfl (pi_list (pe_slice sl_list (pv 0) (po_some pe_int) (po_some pe_int))) (pg_name (i:=6) scLw.nd rfl (Or.inl rfl))
        (pss_cons (ps_set (i:=7) scLw.nd rfl (Or.inl rfl) (pe_meth0 (pv 5) Y.cl D.mm D.Gm hr7 D.bm .nil pass0))
        (pss_one (ps_if (pt_cmpR (op_neD hu) (pv 7) (pe_lst pa_nil) (nomark _))
          (pss_cons (ps_expr (pe_meth (pv 5) Y.cl D.md D.Gd hr8 D.bd .nil passE0 (pa_cons (pe_ix ix_list (pv 7) (pe_op op_mod (pv 6) (pe_callB call_len_seq rfl T.len PySem.boot_len (pa_cons (pv 7) pa_nil))) (fun _ _=>rfl)) pa_nil)))
          (pss_cons (ps_set (i:=8) scLw.nd rfl (Or.inl rfl) (pe_meth0 (pv 5) Y.cl D.mh D.Gh hr1 D.bh .nil pass0))
          (pss_one (ps_if (PW.pt (pw_or (pt_not (pt_val (pe_call D.Gr hr rfl D.mr D.kr D.br .nil pass0 (pa_cons (pv 5) (pa_cons (pv 3) pa_nil))))) (pw_or1 (pt_cmpR (op_neD hu) (pe_meth0 (pv 5) Y.cl D.mh D.Gh hr1 D.bh .nil pass0) (pv 8) (nomark _))))) (pss_one (ps_ret pe_bl)) pss_nil)))) pss_nil))))
      (pss_one (ps_ret pe_bl))))))))),?_⟩
    refine ⟨_,rfl,sc,ns,0,rfl,hS,fun d0=>⟨_,_,rfl,rfl,(by show (0:Int) < 3; decide),_,_,rfl,rfl,?_⟩⟩
    obtain ⟨n,hn,hn2,hn4⟩:∃ n:Nat,(2:Int) + d0 % 3=(n:Int)∧2 ≤ n∧n ≤ 4:=⟨(2 + d0 % 3).toNat,by omega,by omega,by omega⟩
    dsimp only
    rw [hn]
    refine ⟨_,rfl,_,rfl,sc,ns,n,rfl,hS,hn2,by omega,fun l lvs ps H1 s1 nl gl hLn hok hp2 hp6=>?_⟩
    refine ⟨_,rfl,_,rfl,_,rfl,sc,ns,2,rfl,s1.seq hS,fun d1=>⟨l,lvs,ps,n,d1,rfl,gl,hLn,hok,hp6,hn2,hn4,fun tb xl dxl lt tvs wy H2 s2 ntb hT hfew=>?_⟩⟩
    have sH2:=s1.trans s2
    refine ⟨_,rfl,sc,ns,0,rfl,sH2.seq hS,fun d2=>⟨_,_,rfl,rfl,⟨by decide,by decide⟩,?_⟩⟩
    have hll:lvs.length=ps.length:=Paired.length hLn
    refine ⟨_,rfl,_,rfl,l,_,rfl, .inl (SqL.of (s2 _ _ gl)),((lvs.length:Nat):Int),rfl,by omega,by omega,?_⟩
    rw [Int.toNat_natCast,hll]
    refine comp_rng (lo:=0) (fun _=>true) (fun k=>V.int (1 + d2 / 15 / ((k:Int) + 1) % 3)) (by rw [PySem.sizeLine_eq]; omega) (fun k acc N hk h=>?_) (fun Ro hRo=>?_)
    · rw [Int.zero_add]
      exact ⟨_,rfl,_,rfl,_,_,rfl,rfl,_,_,rfl,rfl,⟨by omega,by omega⟩,_,_,rfl,rfl,(by show (0:Int) < 3; decide),_,_,rfl,rfl,h⟩
    have hrl:(((List.range ps.length).filter fun _=>true).map fun k:Nat=>V.int (1 + d2 / 15 / ((k:Int) + 1) % 3)).length=ps.length:=by rw [List.length_map,List.filter_eq_self.mpr (fun _ _=>rfl),List.length_range]
    have hrv:∀ v ∈ ((List.range ps.length).filter fun _=>true).map fun k:Nat=>V.int (1 + d2 / 15 / ((k:Int) + 1) % 3),∃ r:Int,v = .int r∧1 ≤ r∧r ≤ 60:=fun v hv=>by
      obtain ⟨k,_,rfl⟩:=List.mem_map.mp hv
      exact ⟨_,rfl,by omega,by omega⟩
    have hokR:okR ps.length (((List.range ps.length).filter fun _=>true).map fun k:Nat=>V.int (1 + d2 / 15 / ((k:Int) + 1) % 3))=true:=by
      unfold okR
      rw [hrl,decide_eq_true rfl,Bool.true_and,List.all_eq_true]
      intro v hv
      obtain ⟨r,rfl,h1,h2⟩:=hrv v hv
      exact decide_eq_true ⟨h1,h2⟩
    generalize ((List.range ps.length).filter fun _=>true).map (fun k:Nat=>V.int (1 + d2 / 15 / ((k:Int) + 1) % 3))=rvs at hrl hrv hokR ⊢
    have s3:=(Same.refl H2).new (o := .lst rvs) hRo
    have gRo:(upd H2 Ro (.lst rvs)) Ro=some (.lst rvs):=upd_same
    generalize upd H2 Ro (.lst rvs)=H3 at s3 gRo ⊢
    refine fun y dy ny ndy ney=>?_
    have s4:Same H3 (upd (upd H3 dy (.own y)) y (.ins ys.yard dy [])):=Same.new (Same.new (Same.refl H3) ndy) (by rw [upd_ne (Ne.symm ney)]; exact ny)
    refine ⟨y,dy,tb,xl,dxl,lt,n,tvs,ps,wy,_,rvs,rfl,upd_same,hT.keep W (Same.keepN (s3.trans s4)), .inr ⟨Ro,rfl, .inl (SqL.of (s4 _ _ gRo)),by omega,(fun v hv=>by obtain ⟨r,rfl,_⟩:=hrv v hv; exact .int r),fun h=>by rw [hokR] at h; cases h⟩,fun _ ro la le li dn H5 o5 nla nle nli ndn hY=>⟨rfl,?_⟩⟩
    have s5:Same H3 H5:=fun b o e=>o5 b o (fun z=>by rw [List.mem_singleton.mp z,ny] at e; cases e) (s4 _ _ e)
    have sH3:=sH2.trans s3
    have sH5:=sH3.trans s5
    have fresh:∀ b ∈ [la,le,li,dn],H b=none:=fun b hb=>by
      have h4:Same H (upd (upd H3 dy (.own y)) y (.ins ys.yard dy [])):=sH3.trans s4
      simp only [List.mem_cons,List.not_mem_nil,or_false] at hb
      rcases hb with rfl | rfl | rfl | rfl
      · exact h4.free nla
      · exact h4.free nle
      · exact h4.free nli
      · exact h4.free ndn
    have hTY:TbIn c ts.told (ToldJ P w ts) H5 tb xl dxl lt n tvs ps wy:=hT.keep W (Same.keepN (s3.trans s5))
    obtain ⟨a,ha⟩:∃ a:YA,a = ⟨y,dy,tb,ro,la,le,li,dn,xl,dxl,lt,n,tvs,ps,wy⟩:=⟨_,rfl⟩
    have hYa:YAt K ys H5 a (Y0 rvs a.n):=by rw [ha]; exact hY
    have hTa:TAt c ts.told (ToldJ P w ts) H5 a:=by rw [ha]; exact hTY
    have e1:a.y=y:=by rw [ha]
    have e2:a.tb=tb:=by rw [ha]
    have e3:a.n=n:=by rw [ha]
    have e4:a.ps=ps:=by rw [ha]
    have hfr:∀ b ∈ a.four,H b=none:=by rw [ha]; exact fresh
    have hOa:TOk a:=by
      rw [ha]
      refine ⟨fun l pr hl=>?_,hfew⟩
      have hokk:=hok pr (List.mem_of_getElem? hl)
      unfold okP at hokk
      simp only [Bool.and_eq_true,decide_eq_true_eq,Bool.not_eq_true',decide_eq_false_iff_not] at hokk
      exact ⟨pr.2.toNat,by omega,by show pr.2.toNat < n; omega⟩
    clear hY hTY hT o5 s4
    rw [← e1,← e2,← e3]
    have hps:a.ps.length ≤ 6:=by rw [e4]; exact hp6
    have hPst:Pst a (Y0 rvs a.n):=pst0 (by rw [e4]; exact hrl)
    obtain ⟨ms,hms,hml⟩:=cut_ints ns 3 9
    refine ⟨_,rfl,_,rfl,_,rfl,_,rfl,_,rfl,_,rfl,sc,_,rfl,sH5.seq hS,fun cs hcs=>?_⟩
    rw [show cutV (ns.map V.int) (some 3) (some 9)=ms.map V.int from hms]
    have s6:=(Same.refl H5).new (o := .lst (ms.map V.int)) hcs
    have gcs:(upd H5 cs (.lst (ms.map V.int))) cs=some (.lst (ms.map V.int)):=upd_same
    have ncs:cs ∉ a.four:=not_four hYa hcs
    generalize upd H5 cs (.lst (ms.map V.int))=H6 at s6 gcs ⊢
    refine ⟨a,Y0 rvs a.n,cs,ms,rfl,YardAt.same hYa s6,TbIn.keep W hTa (Same.keepN s6),hPst,gcs,ncs,by omega,Nat.zero_le _,Nat.zero_le _,by rw [e3]; exact hn2,fun H7 st o7 hY7 hP7 hl7 hd7=>?_⟩
    have sH7:Same H H7:=same_off (sH5.trans s6) o7 fun b hb=>hfr b (by simp only [List.mem_cons,List.not_mem_nil,or_false] at hb ⊢; rcases hb with rfl | rfl <;> simp)
    have hT7:TAt c ts.told (ToldJ P w ts) H7 a:=TbIn.keep W (TbIn.keep W hTa (Same.keepN s6)) (OffE.keepN (fun b hb=>(YardAt.same hYa s6).lsts b (by simp only [List.mem_cons,List.not_mem_nil,or_false] at hb ⊢; rcases hb with rfl | rfl <;> simp)) o7)
    have hl7':st.letters.length ≤ 60:=by
      have:(Y0 rvs a.n).letters.length=0:=rfl
      omega
    have hd7':st.done.length ≤ 100:=by
      have:(Y0 rvs a.n).done.length=0:=rfl
      omega
    have hJ7:Jnv a st:=hP7.jnv hl7' (by omega)
    have hI7:YIn K c ts.told (ToldJ P w ts) ys H7 a st:=⟨hY7,hT7,hOa,hJ7.ok⟩
    have hsc7:=hP7.done
    clear o7 hP7 hl7 hd7 hl7' hPst hYa hTa
    refine ⟨_,rfl,_,rfl,a,st,rfl,hI7,hJ7,fun H8 s8=>⟨_,rfl,iteF ?_⟩⟩
    have sH8:=sH7.trans s8
    have hI8:=hI7.same W s8
    obtain ⟨ks,hks,hkl⟩:=cut_ints ns 9 49
    refine ⟨_,rfl,_,rfl,_,rfl,sc,_,rfl,sH8.seq hS,fun Sl hSl=>?_⟩
    rw [show cutV (ns.map V.int) (some 9) (some 49)=ks.map V.int from hks]
    have s9:=(Same.refl H8).new (o := .lst (ks.map V.int)) hSl
    have gSl:(upd H8 Sl (.lst (ks.map V.int))) Sl=some (.lst (ks.map V.int)):=upd_same
    have nSl:Sl ∉ a.four:=not_four hI8.Y hSl
    generalize upd H8 Sl (.lst (ks.map V.int))=H9 at s9 gSl ⊢
    refine ⟨Sl,rfl,⟨_,SqL.of gSl⟩,?_⟩
    refine for_list (K:=K) (a:=Sl) (xs:=ks.map V.int) (fun i σ Ha=>∃ (a6 a7 a8:Option V) (s2:YS),Ha Sl=some (.lst (ks.map V.int))∧YIn K c ts.told (ToldJ P w ts) ys Ha a s2∧Jnv a s2∧s2.done.length ≤ 100 + i∧(∀ d ∈ s2.done,∀ x ∈ d,ScV x)∧σ=[some (.ref sc),some (.int a.n),some (.ref l),some (.ref a.tb),some (.int (d2 / 15)),some (.ref a.y),a6,a7,a8])
      ⟨none,none,none,st,gSl,hI8.same W s9,hJ7,by omega,hsc7,rfl⟩ (fun i σ Ha _ ⟨_,_,_,_,g,_⟩=>SqL.of g) ?_ ?_
    rotate_left
    · rintro σ Ha _
      exact q Ha
    rintro i v σ Ha hv ⟨a6,a7,a8,sa,gSa,hIa,hJa,hda,hsa,rfl⟩
    have hi:i < ks.length:=by have:=(List.getElem?_eq_some_iff.mp hv).1; rw [List.length_map] at this; exact this
    obtain ⟨d,rfl⟩:∃ d,v=V.int d:=by
      rw [List.getElem?_map,List.getElem?_eq_getElem hi] at hv
      exact ⟨_,(Option.some.inj hv).symm⟩
    refine ⟨_,rfl,a.y,a.dy,_,rfl,hIa.Y.ins,rfl,a,sa,rfl,hIa,fun Dm mvs Hb sb hDm gDm hpm=>?_⟩
    have hIb:=hIa.same W sb
    refine ⟨_,rfl,Nat.zero_le _,fun o1 ho1=>?_⟩
    have sc1:=sb.new (o := .lst []) ho1
    have go1:(upd Hb o1 (.lst [])) o1=some (.lst []):=upd_same
    have gDm1:(upd Hb o1 (.lst [])) Dm=some (.lst mvs):=by rw [upd_ne (ne_of_none gDm ho1)]; exact gDm
    have hpm1:=Paired.mono (fun _ _ z=>z.keep (Same.keepN ((Same.refl Hb).new (o := .lst []) ho1))) hpm
    generalize upd Hb o1 (.lst [])=Hc at sc1 go1 gDm1 hpm1 ⊢
    have hIc:=hIa.same W sc1
    refine neN (f:=mvD) (l:=movesS a sa) (.lst (SqL.of gDm1) (dens_mv hpm1)) (.lst (SqL.of go1) .nil) (shp_mvs _) ⟨_,rfl,?_⟩
    cases hme:(movesS a sa).isEmpty with
    | true=>exact iteF ⟨_,_,_,sa,sc1 _ _ gSa,hIc,hJa,by omega,hsa,rfl⟩
    | false =>
      have hmvl:mvs.length=(movesS a sa).length:=by rw [Paired.length hpm1,List.length_map]
      have hpos:0 < mvs.length:=by
        rw [hmvl]
        cases hx:movesS a sa with
        | nil=>rw [hx] at hme; cases hme
        | cons _ _=>exact Nat.succ_pos _
      have np:(0:Int) < ((mvs.length:Nat):Int):=by omega
      have z1:=Int.emod_nonneg d (show ((mvs.length:Nat):Int) ≠ 0 by omega)
      have z2:=Int.emod_lt_of_pos d np
      obtain ⟨k,hk,hkm⟩:∃ k:Nat,d % ((mvs.length:Nat):Int)=(k:Int)∧k < mvs.length:=⟨(d % ((mvs.length:Nat):Int)).toNat,by omega,by omega⟩
      have hvk:=List.getElem?_eq_getElem hkm
      obtain ⟨mv,hmv,p,hpe,hp⟩:=Paired.at hpm1 hvk
      obtain ⟨m,hmm,rfl⟩:∃ m,m ∈ movesS a sa∧mvV m=mv:=by
        rw [List.getElem?_map] at hmv
        cases hx:(movesS a sa)[k]? with
        | none=>rw [hx] at hmv; cases hmv
        | some m=>rw [hx] at hmv; exact ⟨m,List.mem_of_getElem? hx,Option.some.inj hmv⟩
      rw [hpe] at hvk
      refine iteT ⟨_,rfl,a.y,a.dy,_,rfl,hIc.Y.ins,rfl,_,rfl,_,rfl,_,rfl,Dm,_,rfl, .inl (SqL.of gDm1),_,_,rfl,rfl,np,Dm,mvs,(k:Int), .ref p,rfl,congrArg V.int hk,SqL.of gDm1,atI_nat hvk,a,sa,p,m,rfl,hIc,hp,hmm,hJa.sml (by omega),fun Hd s' hst od hYd=>?_⟩
      have hJd:Jnv a { s' with done:=sa.done ++ [mvV m] }:=(hJa.step hst).done _
      have hTd:TAt c ts.told (ToldJ P w ts) Hd a:=TbIn.keep W hIc.T (OffE.keepN (fun b hb=>hIc.Y.lsts b hb) od)
      have hId:YIn K c ts.told (ToldJ P w ts) ys Hd a { s' with done:=sa.done ++ [mvV m] }:=⟨hYd,hTd,hOa,hJd.ok⟩
      have gSd:=od _ _ nSl (sc1 _ _ gSa)
      have hsd:∀ dd ∈ sa.done ++ [mvV m],∀ x ∈ dd,ScV x:=fun dd hdd x hx=>by
        rcases List.mem_append.mp hdd with z | z
        · exact hsa dd z x hx
        · rw [List.mem_singleton.mp z] at hx; exact mv_sc m x hx
      refine ⟨_,rfl,a.y,a.dy,_,rfl,hId.Y.ins,rfl,a.y,a.dy,a.tb,a.ro,a.la,a.le,a.li,a.dn,_,rfl,hId.Y,fun Pa pvs He se hPa gPa pPa=>?_⟩
      have hIe:=hId.same W se
      refine ⟨_,rfl,_,rfl,a,_,rfl,hIe,hJd,fun Hf sf=>⟨_,rfl,iteF ?_⟩⟩
      have hIf:=hIe.same W sf
      refine ⟨_,rfl,a.y,a.dy,_,rfl,hIf.Y.ins,rfl,a.y,a.dy,a.tb,a.ro,a.la,a.le,a.li,a.dn,_,rfl,hIf.Y,fun Pb pws Hg sg hPb gPb pPb=>⟨_,rfl,?_⟩⟩
      refine neS (d := .list ((sa.done ++ [mvV m]).map rowD)) (.lst (SqL.of gPb) (dens_done pPb hsd)) (.lst (SqL.of (sg _ _ (sf _ _ gPa))) (dens_done (Paired.mono (fun _ _ z=>z.keep (Same.keepN (sf.trans sg))) pPa) hsd)) (shp_done hsd) ⟨_,rfl,iteF ?_⟩
      exact ⟨_,_,_,_,sg _ _ (sf _ _ (se _ _ gSd)),hIf.same W sg,hJd,by show (sa.done ++ [mvV m]).length ≤ _; rw [List.length_append,List.length_singleton]; omega,hsd,rfl⟩
end
end K66
namespace K66
open PySem L2
theorem len_of1 {α:Type} {P:List α→Prop} (h:∀ a0,P [a0]):∀ us:List α,us.length=1→P us
  | [a0],_=>h a0
theorem len_of2 {α:Type} {P:List α→Prop} (h:∀ a0 a1,P [a0,a1]):∀ us:List α,us.length=2→P us
  | [a0,a1],_=>h a0 a1
theorem len_of3 {α:Type} {P:List α→Prop} (h:∀ a0 a1 a2,P [a0,a1,a2]):∀ us:List α,us.length=3→P us
  | [a0,a1,a2],_=>h a0 a1 a2
theorem len_of4 {α:Type} {P:List α→Prop} (h:∀ a0 a1 a2 a3,P [a0,a1,a2,a3]):∀ us:List α,us.length=4→P us
  | [a0,a1,a2,a3],_=>h a0 a1 a2 a3
theorem len_of5 {α:Type} {P:List α→Prop} (h:∀ a0 a1 a2 a3 a4,P [a0,a1,a2,a3,a4]):∀ us:List α,us.length=5→P us
  | [a0,a1,a2,a3,a4],_=>h a0 a1 a2 a3 a4
theorem all_mk {l:PySem.W.OpenLaw} {w:World} {K:PySem.W.Frag} {h:Heap} {mg:Str→Option Value} {fa cL cN cT cR cE cB cD cM cP cG cW cZ cF cQ cA cH cJ f1 f2 f3 f4 f5 f6 f7 f8 f9 f10 f11 f12 f13 f14 f15 f16 f17 f18 f19 f20 f21 f22 f23 f24 f25 f26 f27 f28 f29 f30 f31 f32 f33 f34 f35 f36 f37 f38 f39 f40 f41 f42 f43 f44 f45 f46 f47 f48 f49 f50 f51 f52 f53 f54 f55 f56 f57 f58 f59 f60 f61 f62 f63 f64 f65:Addr} {t1 t2 t3 t4 t5:Tok} (X:K.In h) (G:h.Ns mainGlobals mg) (hfa:mg "law" = some (.ref fa))
    {od1 an1 od2 an2 od3 an3 od4 an4 od5 an5 od6 an6 od7 an7 od8 an8 od9 an9 od10 an10 od11 an11 od12 an12 od13 an13 od14 an14 od15 an15 od16 an16 od17 an17 od18 an18 od19 an19 od20 an20 od21 an21 od22 an22 od23 an23 od24 an24 od25 an25 od26 an26 od27 an27 od28 an28 od29 an29 od30 an30 od31 an31 od32 an32 od33 an33 od34 an34 od35 an35 od36 an36 od37 an37 od38 an38 od39 an39 od40 an40 od41 an41 od42 an42 od43 an43 od44 an44 od45 an45 od46 an46 od47 an47 od48 an48 od49 an49 od50 an50 od51 an51 od52 an52 od53 an53 od54 an54 od55 an55 od56 an56 od57 an57 od58 an58 od59 an59 od60 an60 od61 an61 od62 an62 od63 an63 od64 an64 od65 an65:Option Addr} {sl1 sl2 sl3 sl4 sl5 sl6 sl7 sl8 sl9 sl10 sl11 sl12 sl13 sl14 sl15 sl16 sl17 sl18 sl19 sl20 sl21 sl22 sl23 sl24 sl25 sl26 sl27 sl28 sl29 sl30 sl31 sl32 sl33 sl34 sl35 sl36 sl37 sl38 sl39 sl40 sl41 sl42 sl43 sl44 sl45 sl46 sl47 sl48 sl49 sl50 sl51 sl52 sl53 sl54 sl55 sl56 sl57 sl58 sl59 sl60 sl61 sl62 sl63 sl64 sl65:Array (Option Value)} {oc1 kV1 dc1 pm1 cd1 ct1 oc2 kV2 dc2 pm2 cd2 ct2 oc3 kV3 dc3 pm3 cd3 ct3 oc4 kV4 dc4 pm4 cd4 ct4 oc5 kV5 dc5 pm5 cd5 ct5 oc6 kV6 dc6 pm6 cd6 ct6 oc7 kV7 dc7 pm7 cd7 ct7 oc8 kV8 dc8 pm8 cd8 ct8 oc9 kV9 dc9 pm9 cd9 ct9 oc10 kV10 dc10 pm10 cd10 ct10 oc11 kV11 dc11 pm11 cd11 ct11 oc12 kV12 dc12 pm12 cd12 ct12 oc13 kV13 dc13 pm13 cd13 ct13 oc14 kV14 dc14 pm14 cd14 ct14 oc15 kV15 dc15 pm15 cd15 ct15 oc16 kV16 dc16 pm16 cd16 ct16 oc17 kV17 dc17 pm17 cd17 ct17 oc18 kV18 dc18 pm18 cd18 ct18 oc19 kV19 dc19 pm19 cd19 ct19 oc20 kV20 dc20 pm20 cd20 ct20 oc21 kV21 dc21 pm21 cd21 ct21 oc22 kV22 dc22 pm22 cd22 ct22 oc23 kV23 dc23 pm23 cd23 ct23 oc24 kV24 dc24 pm24 cd24 ct24 oc25 kV25 dc25 pm25 cd25 ct25 oc26 kV26 dc26 pm26 cd26 ct26 oc27 kV27 dc27 pm27 cd27 ct27 oc28 kV28 dc28 pm28 cd28 ct28 oc29 kV29 dc29 pm29 cd29 ct29 oc30 kV30 dc30 pm30 cd30 ct30 oc31 kV31 dc31 pm31 cd31 ct31 oc32 kV32 dc32 pm32 cd32 ct32 oc33 kV33 dc33 pm33 cd33 ct33 oc34 kV34 dc34 pm34 cd34 ct34 oc35 kV35 dc35 pm35 cd35 ct35 oc36 kV36 dc36 pm36 cd36 ct36 oc37 kV37 dc37 pm37 cd37 ct37 oc38 kV38 dc38 pm38 cd38 ct38 oc39 kV39 dc39 pm39 cd39 ct39 oc40 kV40 dc40 pm40 cd40 ct40 oc41 kV41 dc41 pm41 cd41 ct41 oc42 kV42 dc42 pm42 cd42 ct42 oc43 kV43 dc43 pm43 cd43 ct43 oc44 kV44 dc44 pm44 cd44 ct44 oc45 kV45 dc45 pm45 cd45 ct45 oc46 kV46 dc46 pm46 cd46 ct46 oc47 kV47 dc47 pm47 cd47 ct47 oc48 kV48 dc48 pm48 cd48 ct48 oc49 kV49 dc49 pm49 cd49 ct49 oc50 kV50 dc50 pm50 cd50 ct50 oc51 kV51 dc51 pm51 cd51 ct51 oc52 kV52 dc52 pm52 cd52 ct52 oc53 kV53 dc53 pm53 cd53 ct53 oc54 kV54 dc54 pm54 cd54 ct54 oc55 kV55 dc55 pm55 cd55 ct55 oc56 kV56 dc56 pm56 cd56 ct56 oc57 kV57 dc57 pm57 cd57 ct57 oc58 kV58 dc58 pm58 cd58 ct58 oc59 kV59 dc59 pm59 cd59 ct59 oc60 kV60 dc60 pm60 cd60 ct60 oc61 kV61 dc61 pm61 cd61 ct61 oc62 kV62 dc62 pm62 cd62 ct62 oc63 kV63 dc63 pm63 cd63 ct63 oc64 kV64 dc64 pm64 cd64 ct64 oc65 kV65 dc65 pm65 cd65 ct65:Value}
    {dT44 dT45:Addr} {tO44 tO45:Value} {tD44 tD45:Option Addr} {tN44 tN45:Nat} {tk45:Tok}  {tS44 tS45:Array (Option Value)}
    (gcL:PySem.W.nsIn K mainGlobals "Land" = some (some (.ref cL)))
    (gcN:PySem.W.nsIn K mainGlobals "NoPlaces" = some (some (.ref cN)))
    (gcT:PySem.W.nsIn K mainGlobals "TooMany" = some (some (.ref cT)))
    (gcR:PySem.W.nsIn K mainGlobals "NoRoad" = some (some (.ref cR)))
    (gcE:PySem.W.nsIn K mainGlobals "NoEntry" = some (some (.ref cE)))
    (gcB:PySem.W.nsIn K mainGlobals "Table" = some (some (.ref cB)))
    (gcD:PySem.W.nsIn K mainGlobals "Told" = some (some (.ref cD)))
    (gcM:PySem.W.nsIn K mainGlobals "NoRooms" = some (some (.ref cM)))
    (gcP:PySem.W.nsIn K mainGlobals "NoPlace" = some (some (.ref cP)))
    (gcG:PySem.W.nsIn K mainGlobals "NoLength" = some (some (.ref cG)))
    (gcW:PySem.W.nsIn K mainGlobals "NoWord" = some (some (.ref cW)))
    (gcZ:PySem.W.nsIn K mainGlobals "NoWay" = some (some (.ref cZ)))
    (gcF:PySem.W.nsIn K mainGlobals "Full" = some (some (.ref cF)))
    (gcQ:PySem.W.nsIn K mainGlobals "NoMove" = some (some (.ref cQ)))
    (gcA:PySem.W.nsIn K mainGlobals "Lane" = some (some (.ref cA)))
    (gcH:PySem.W.nsIn K mainGlobals "Letter" = some (some (.ref cH)))
    (gcJ:PySem.W.nsIn K mainGlobals "Yard" = some (some (.ref cJ)))
    (a1:PySem.W.nsIn K mainGlobals "has" = some (some (.ref f1)))
    (l1:K.lookup f1=some ⟨oc1,od1, .func (PySem.W.fnOf "has" "has" (defArgs sHas) (defBody sHas) (defScope sHas) .none kV1 dc1 pm1 an1 cd1 ct1),sl1⟩)
    (c1:PySem.W.codeIn K cd1 "has" = true)
    (k1:PySem.W.keepIn K (.ref f1)=true)
    (a2:PySem.W.nsIn K mainGlobals "members" = some (some (.ref f2)))
    (l2:K.lookup f2=some ⟨oc2,od2, .func (PySem.W.fnOf "members" "members" (defArgs sMem) (defBody sMem) (defScope sMem) .none kV2 dc2 pm2 an2 cd2 ct2),sl2⟩)
    (c2:PySem.W.codeIn K cd2 "members" = true)
    (k2:PySem.W.keepIn K (.ref f2)=true)
    (a3:PySem.W.nsIn K mainGlobals "set_of" = some (some (.ref f3)))
    (l3:K.lookup f3=some ⟨oc3,od3, .func (PySem.W.fnOf "set_of" "set_of" (defArgs sSet) (defBody sSet) (defScope sSet) .none kV3 dc3 pm3 an3 cd3 ct3),sl3⟩)
    (c3:PySem.W.codeIn K cd3 "set_of" = true)
    (k3:PySem.W.keepIn K (.ref f3)=true)
    (a4:PySem.W.nsIn K mainGlobals "is_whole" = some (some (.ref f4)))
    (l4:K.lookup f4=some ⟨oc4,od4, .func (PySem.W.fnOf "is_whole" "is_whole" (defArgs sWhole) (defBody sWhole) (defScope sWhole) .none kV4 dc4 pm4 an4 cd4 ct4),sl4⟩)
    (c4:PySem.W.codeIn K cd4 "is_whole" = true)
    (k4:PySem.W.keepIn K (.ref f4)=true)
    (a5:PySem.W.nsIn K mainGlobals "is_within" = some (some (.ref f5)))
    (l5:K.lookup f5=some ⟨oc5,od5, .func (PySem.W.fnOf "is_within" "is_within" (defArgs sWithin) (defBody sWithin) (defScope sWithin) .none kV5 dc5 pm5 an5 cd5 ct5),sl5⟩)
    (c5:PySem.W.codeIn K cd5 "is_within" = true)
    (k5:PySem.W.keepIn K (.ref f5)=true)
    (a6:PySem.W.nsIn K mainGlobals "is_one_of" = some (some (.ref f6)))
    (l6:K.lookup f6=some ⟨oc6,od6, .func (PySem.W.fnOf "is_one_of" "is_one_of" (defArgs sOne) (defBody sOne) (defScope sOne) .none kV6 dc6 pm6 an6 cd6 ct6),sl6⟩)
    (c6:PySem.W.codeIn K cd6 "is_one_of" = true)
    (k6:PySem.W.keepIn K (.ref f6)=true)
    (a7:PySem.W.nsIn K mainGlobals "are_two_places" = some (some (.ref f7)))
    (l7:K.lookup f7=some ⟨oc7,od7, .func (PySem.W.fnOf "are_two_places" "are_two_places" (defArgs sTwo) (defBody sTwo) (defScope sTwo) .none kV7 dc7 pm7 an7 cd7 ct7),sl7⟩)
    (c7:PySem.W.codeIn K cd7 "are_two_places" = true)
    (k7:PySem.W.keepIn K (.ref f7)=true)
    (a8:PySem.W.nsIn K mainGlobals "row_fits" = some (some (.ref f8)))
    (l8:K.lookup f8=some ⟨oc8,od8, .func (PySem.W.fnOf "row_fits" "row_fits" (defArgs sFits) (defBody sFits) (defScope sFits) .none kV8 dc8 pm8 an8 cd8 ct8),sl8⟩)
    (c8:PySem.W.codeIn K cd8 "row_fits" = true)
    (k8:PySem.W.keepIn K (.ref f8)=true)
    (a9:PySem.W.nsIn K mainGlobals "onward" = some (some (.ref f9)))
    (l9:K.lookup f9=some ⟨oc9,od9, .func (PySem.W.fnOf "onward" "onward" (defArgs sOn) (defBody sOn) (defScope sOn) .none kV9 dc9 pm9 an9 cd9 ct9),sl9⟩)
    (c9:PySem.W.codeIn K cd9 "onward" = true)
    (k9:PySem.W.keepIn K (.ref f9)=true)
    (a10:PySem.W.nsIn K mainGlobals "rooms_of" = some (some (.ref f10)))
    (l10:K.lookup f10=some ⟨oc10,od10, .func (PySem.W.fnOf "rooms_of" "rooms_of" (defArgs sRooms) (defBody sRooms) (defScope sRooms) .none kV10 dc10 pm10 an10 cd10 ct10),sl10⟩)
    (c10:PySem.W.codeIn K cd10 "rooms_of" = true)
    (k10:PySem.W.keepIn K (.ref f10)=true)
    (a11:PySem.W.nsIn K mainGlobals "is_word" = some (some (.ref f11)))
    (l11:K.lookup f11=some ⟨oc11,od11, .func (PySem.W.fnOf "is_word" "is_word" (defArgs sWord) (defBody sWord) (defScope sWord) .none kV11 dc11 pm11 an11 cd11 ct11),sl11⟩)
    (c11:PySem.W.codeIn K cd11 "is_word" = true)
    (k11:PySem.W.keepIn K (.ref f11)=true)
    (a12:PySem.W.nsIn K mainGlobals "is_move" = some (some (.ref f12)))
    (l12:K.lookup f12=some ⟨oc12,od12, .func (PySem.W.fnOf "is_move" "is_move" (defArgs sIsMv) (defBody sIsMv) (defScope sIsMv) .none kV12 dc12 pm12 an12 cd12 ct12),sl12⟩)
    (c12:PySem.W.codeIn K cd12 "is_move" = true)
    (k12:PySem.W.keepIn K (.ref f12)=true)
    (a13:PySem.W.nsIn K mainGlobals "still" = some (some (.ref f13)))
    (l13:K.lookup f13=some ⟨oc13,od13, .func (PySem.W.fnOf "still" "still" (defArgs sStill) (defBody sStill) (defScope sStill) .none kV13 dc13 pm13 an13 cd13 ct13),sl13⟩)
    (c13:PySem.W.codeIn K cd13 "still" = true)
    (k13:PySem.W.keepIn K (.ref f13)=true)
    (a14:PySem.W.nsIn K mainGlobals "waits" = some (some (.ref f14)))
    (l14:K.lookup f14=some ⟨oc14,od14, .func (PySem.W.fnOf "waits" "waits" (defArgs sWaits) (defBody sWaits) (defScope sWaits) .none kV14 dc14 pm14 an14 cd14 ct14),sl14⟩)
    (c14:PySem.W.codeIn K cd14 "waits" = true)
    (k14:PySem.W.keepIn K (.ref f14)=true)
    (a15:PySem.W.nsIn K mainGlobals "_law_cell_at" = some (some (.ref f15)))
    (l15:K.lookup f15=some ⟨oc15,od15, .func (PySem.W.fnOf "_law_cell_at" "_law_cell_at" (defArgs sCell) (defBody sCell) (defScope sCell) .none kV15 dc15 pm15 an15 cd15 ct15),sl15⟩)
    (c15:PySem.W.codeIn K cd15 "_law_cell_at" = true)
    (k15:PySem.W.keepIn K (.ref f15)=true)
    (a16:PySem.W.nsIn K mainGlobals "_law_mixed" = some (some (.ref f16)))
    (l16:K.lookup f16=some ⟨oc16,od16, .func (PySem.W.fnOf "_law_mixed" "_law_mixed" (defArgs sMix) (defBody sMix) (defScope sMix) .none kV16 dc16 pm16 an16 cd16 ct16),sl16⟩)
    (c16:PySem.W.codeIn K cd16 "_law_mixed" = true)
    (k16:PySem.W.keepIn K (.ref f16)=true)
    (a17:PySem.W.nsIn K mainGlobals "_law_lanes" = some (some (.ref f17)))
    (l17:K.lookup f17=some ⟨oc17,od17, .func (PySem.W.fnOf "_law_lanes" "_law_lanes" (defArgs sLanes) (defBody sLanes) (defScope sLanes) .none kV17 dc17 pm17 an17 cd17 ct17),sl17⟩)
    (c17:PySem.W.codeIn K cd17 "_law_lanes" = true)
    (k17:PySem.W.keepIn K (.ref f17)=true)
    (a18:PySem.W.nsIn K mainGlobals "_law_table" = some (some (.ref f18)))
    (l18:K.lookup f18=some ⟨oc18,od18, .func (PySem.W.fnOf "_law_table" "_law_table" (defArgs sLTab) (defBody sLTab) (defScope sLTab) .none kV18 dc18 pm18 an18 cd18 ct18),sl18⟩)
    (c18:PySem.W.codeIn K cd18 "_law_table" = true)
    (k18:PySem.W.keepIn K (.ref f18)=true)
    (a19:PySem.W.nsIn K mainGlobals "_law_post" = some (some (.ref f19)))
    (l19:K.lookup f19=some ⟨oc19,od19, .func (PySem.W.fnOf "_law_post" "_law_post" (defArgs sLPost) (defBody sLPost) (defScope sLPost) .none kV19 dc19 pm19 an19 cd19 ct19),sl19⟩)
    (c19:PySem.W.codeIn K cd19 "_law_post" = true)
    (k19:PySem.W.keepIn K (.ref f19)=true)
    (a20:PySem.W.nsIn K mainGlobals "_law_wanted" = some (some (.ref f20)))
    (l20:K.lookup f20=some ⟨oc20,od20, .func (PySem.W.fnOf "_law_wanted" "_law_wanted" (defArgs sLWant) (defBody sLWant) (defScope sLWant) .none kV20 dc20 pm20 an20 cd20 ct20),sl20⟩)
    (c20:PySem.W.codeIn K cd20 "_law_wanted" = true)
    (k20:PySem.W.keepIn K (.ref f20)=true)
    (a21:PySem.W.nsIn K mainGlobals "_law_right" = some (some (.ref f21)))
    (l21:K.lookup f21=some ⟨oc21,od21, .func (PySem.W.fnOf "_law_right" "_law_right" (defArgs sLRight) (defBody sLRight) (defScope sLRight) .none kV21 dc21 pm21 an21 cd21 ct21),sl21⟩)
    (c21:PySem.W.codeIn K cd21 "_law_right" = true)
    (k21:PySem.W.keepIn K (.ref f21)=true)
    (a22:PySem.W.nsIn K mainGlobals "law" = some (some (.ref f22)))
    (l22:K.lookup f22=some ⟨oc22,od22, .func (PySem.W.fnOf "law" "law" (defArgs sLaw) (defBody sLaw) (defScope sLaw) .none kV22 dc22 pm22 an22 cd22 ct22),sl22⟩)
    (c22:PySem.W.codeIn K cd22 "law" = true)
    (k22:PySem.W.keepIn K (.ref f22)=true)
    (a23:PySem.W.findIn K (.ref cL) "__init__" = some (some (.ref f23)))
    (l23:K.lookup f23=some ⟨oc23,od23, .func (PySem.W.fnOf "__init__" "Land.__init__" (defArgs sInit) (defBody sInit) (defScope sInit) .none kV23 dc23 pm23 an23 cd23 ct23),sl23⟩)
    (c23:PySem.W.codeIn K cd23 "Land.__init__" = true)
    (k23:PySem.W.keepIn K (.ref f23)=true)
    (i23:PySem.W.isFn K (.ref f23)=true)
    (a24:PySem.W.findIn K (.ref cL) "end_of" = some (some (.ref f24)))
    (l24:K.lookup f24=some ⟨oc24,od24, .func (PySem.W.fnOf "end_of" "Land.end_of" (defArgs sEnd) (defBody sEnd) (defScope sEnd) .none kV24 dc24 pm24 an24 cd24 ct24),sl24⟩)
    (c24:PySem.W.codeIn K cd24 "Land.end_of" = true)
    (k24:PySem.W.keepIn K (.ref f24)=true)
    (i24:PySem.W.isFn K (.ref f24)=true)
    (a25:PySem.W.findIn K (.ref cL) "out_of" = some (some (.ref f25)))
    (l25:K.lookup f25=some ⟨oc25,od25, .func (PySem.W.fnOf "out_of" "Land.out_of" (defArgs sOut) (defBody sOut) (defScope sOut) .none kV25 dc25 pm25 an25 cd25 ct25),sl25⟩)
    (c25:PySem.W.codeIn K cd25 "Land.out_of" = true)
    (k25:PySem.W.keepIn K (.ref f25)=true)
    (i25:PySem.W.isFn K (.ref f25)=true)
    (a26:PySem.W.findIn K (.ref cL) "into" = some (some (.ref f26)))
    (l26:K.lookup f26=some ⟨oc26,od26, .func (PySem.W.fnOf "into" "Land.into" (defArgs sInto) (defBody sInto) (defScope sInto) .none kV26 dc26 pm26 an26 cd26 ct26),sl26⟩)
    (c26:PySem.W.codeIn K cd26 "Land.into" = true)
    (k26:PySem.W.keepIn K (.ref f26)=true)
    (i26:PySem.W.isFn K (.ref f26)=true)
    (a27:PySem.W.findIn K (.ref cT) "__init__" = some (some (.ref f27)))
    (l27:K.lookup f27=some ⟨oc27,od27, .func (PySem.W.fnOf "__init__" "TooMany.__init__" (defArgs sTM) (defBody sTM) (defScope sTM) .none kV27 dc27 pm27 an27 cd27 ct27),sl27⟩)
    (c27:PySem.W.codeIn K cd27 "TooMany.__init__" = true)
    (k27:PySem.W.keepIn K (.ref f27)=true)
    (i27:PySem.W.isFn K (.ref f27)=true)
    (a28:PySem.W.findIn K (.ref cR) "__init__" = some (some (.ref f28)))
    (l28:K.lookup f28=some ⟨oc28,od28, .func (PySem.W.fnOf "__init__" "NoRoad.__init__" (defArgs sNR) (defBody sNR) (defScope sNR) .none kV28 dc28 pm28 an28 cd28 ct28),sl28⟩)
    (c28:PySem.W.codeIn K cd28 "NoRoad.__init__" = true)
    (k28:PySem.W.keepIn K (.ref f28)=true)
    (i28:PySem.W.isFn K (.ref f28)=true)
    (a29:PySem.W.findIn K (.ref cE) "__init__" = some (some (.ref f29)))
    (l29:K.lookup f29=some ⟨oc29,od29, .func (PySem.W.fnOf "__init__" "NoEntry.__init__" (defArgs sNE) (defBody sNE) (defScope sNE) .none kV29 dc29 pm29 an29 cd29 ct29),sl29⟩)
    (c29:PySem.W.codeIn K cd29 "NoEntry.__init__" = true)
    (k29:PySem.W.keepIn K (.ref f29)=true)
    (i29:PySem.W.isFn K (.ref f29)=true)
    (a30:PySem.W.findIn K (.ref cZ) "__init__" = some (some (.ref f30)))
    (l30:K.lookup f30=some ⟨oc30,od30, .func (PySem.W.fnOf "__init__" "NoWay.__init__" (defArgs sNR2) (defBody sNR2) (defScope sNR2) .none kV30 dc30 pm30 an30 cd30 ct30),sl30⟩)
    (c30:PySem.W.codeIn K cd30 "NoWay.__init__" = true)
    (k30:PySem.W.keepIn K (.ref f30)=true)
    (i30:PySem.W.isFn K (.ref f30)=true)
    (a31:PySem.W.findIn K (.ref cB) "__init__" = some (some (.ref f31)))
    (l31:K.lookup f31=some ⟨oc31,od31, .func (PySem.W.fnOf "__init__" "Table.__init__" (defArgs sTab) (defBody sTab) (defScope sTab) .none kV31 dc31 pm31 an31 cd31 ct31),sl31⟩)
    (c31:PySem.W.codeIn K cd31 "Table.__init__" = true)
    (k31:PySem.W.keepIn K (.ref f31)=true)
    (i31:PySem.W.isFn K (.ref f31)=true)
    (a32:PySem.W.findIn K (.ref cD) "__init__" = some (some (.ref f32)))
    (l32:K.lookup f32=some ⟨oc32,od32, .func (PySem.W.fnOf "__init__" "Told.__init__" (defArgs sTold) (defBody sTold) (defScope sTold) .none kV32 dc32 pm32 an32 cd32 ct32),sl32⟩)
    (c32:PySem.W.codeIn K cd32 "Told.__init__" = true)
    (k32:PySem.W.keepIn K (.ref f32)=true)
    (i32:PySem.W.isFn K (.ref f32)=true)
    (a33:PySem.W.findIn K (.ref cD) "ways" = some (some (.ref f33)))
    (l33:K.lookup f33=some ⟨oc33,od33, .func (PySem.W.fnOf "ways" "Told.ways" (defArgs sToldW) (defBody sToldW) (defScope sToldW) .none kV33 dc33 pm33 an33 cd33 ct33),sl33⟩)
    (c33:PySem.W.codeIn K cd33 "Told.ways" = true)
    (k33:PySem.W.keepIn K (.ref f33)=true)
    (i33:PySem.W.isFn K (.ref f33)=true)
    (a34:PySem.W.findIn K (.ref cA) "__init__" = some (some (.ref f34)))
    (l34:K.lookup f34=some ⟨oc34,od34, .func (PySem.W.fnOf "__init__" "Lane.__init__" (defArgs sLnI) (defBody sLnI) (defScope sLnI) .none kV34 dc34 pm34 an34 cd34 ct34),sl34⟩)
    (c34:PySem.W.codeIn K cd34 "Lane.__init__" = true)
    (k34:PySem.W.keepIn K (.ref f34)=true)
    (i34:PySem.W.isFn K (.ref f34)=true)
    (a35:PySem.W.findIn K (.ref cA) "open_to" = some (some (.ref f35)))
    (l35:K.lookup f35=some ⟨oc35,od35, .func (PySem.W.fnOf "open_to" "Lane.open_to" (defArgs sOpen) (defBody sOpen) (defScope sOpen) .none kV35 dc35 pm35 an35 cd35 ct35),sl35⟩)
    (c35:PySem.W.codeIn K cd35 "Lane.open_to" = true)
    (k35:PySem.W.keepIn K (.ref f35)=true)
    (i35:PySem.W.isFn K (.ref f35)=true)
    (a36:PySem.W.findIn K (.ref cA) "put" = some (some (.ref f36)))
    (l36:K.lookup f36=some ⟨oc36,od36, .func (PySem.W.fnOf "put" "Lane.put" (defArgs sPut) (defBody sPut) (defScope sPut) .none kV36 dc36 pm36 an36 cd36 ct36),sl36⟩)
    (c36:PySem.W.codeIn K cd36 "Lane.put" = true)
    (k36:PySem.W.keepIn K (.ref f36)=true)
    (i36:PySem.W.isFn K (.ref f36)=true)
    (a37:PySem.W.findIn K (.ref cA) "front" = some (some (.ref f37)))
    (l37:K.lookup f37=some ⟨oc37,od37, .func (PySem.W.fnOf "front" "Lane.front" (defArgs sFront) (defBody sFront) (defScope sFront) .none kV37 dc37 pm37 an37 cd37 ct37),sl37⟩)
    (c37:PySem.W.codeIn K cd37 "Lane.front" = true)
    (k37:PySem.W.keepIn K (.ref f37)=true)
    (i37:PySem.W.isFn K (.ref f37)=true)
    (a38:PySem.W.findIn K (.ref cA) "pull" = some (some (.ref f38)))
    (l38:K.lookup f38=some ⟨oc38,od38, .func (PySem.W.fnOf "pull" "Lane.pull" (defArgs sPull) (defBody sPull) (defScope sPull) .none kV38 dc38 pm38 an38 cd38 ct38),sl38⟩)
    (c38:PySem.W.codeIn K cd38 "Lane.pull" = true)
    (k38:PySem.W.keepIn K (.ref f38)=true)
    (i38:PySem.W.isFn K (.ref f38)=true)
    (a39:PySem.W.findIn K (.ref cA) "bring" = some (some (.ref f39)))
    (l39:K.lookup f39=some ⟨oc39,od39, .func (PySem.W.fnOf "bring" "Lane.bring" (defArgs sBring) (defBody sBring) (defScope sBring) .none kV39 dc39 pm39 an39 cd39 ct39),sl39⟩)
    (c39:PySem.W.codeIn K cd39 "Lane.bring" = true)
    (k39:PySem.W.keepIn K (.ref f39)=true)
    (i39:PySem.W.isFn K (.ref f39)=true)
    (a40:PySem.W.findIn K (.ref cA) "told" = some (some (.ref f40)))
    (l40:K.lookup f40=some ⟨oc40,od40, .func (PySem.W.fnOf "told" "Lane.told" (defArgs sLnT) (defBody sLnT) (defScope sLnT) .none kV40 dc40 pm40 an40 cd40 ct40),sl40⟩)
    (c40:PySem.W.codeIn K cd40 "Lane.told" = true)
    (k40:PySem.W.keepIn K (.ref f40)=true)
    (i40:PySem.W.isFn K (.ref f40)=true)
    (a41:PySem.W.findIn K (.ref cA) "twin" = some (some (.ref f41)))
    (l41:K.lookup f41=some ⟨oc41,od41, .func (PySem.W.fnOf "twin" "Lane.twin" (defArgs sLnW) (defBody sLnW) (defScope sLnW) .none kV41 dc41 pm41 an41 cd41 ct41),sl41⟩)
    (c41:PySem.W.codeIn K cd41 "Lane.twin" = true)
    (k41:PySem.W.keepIn K (.ref f41)=true)
    (i41:PySem.W.isFn K (.ref f41)=true)
    (a42:PySem.W.findIn K (.ref cH) "__init__" = some (some (.ref f42)))
    (l42:K.lookup f42=some ⟨oc42,od42, .func (PySem.W.fnOf "__init__" "Letter.__init__" (defArgs sLetI) (defBody sLetI) (defScope sLetI) .none kV42 dc42 pm42 an42 cd42 ct42),sl42⟩)
    (c42:PySem.W.codeIn K cd42 "Letter.__init__" = true)
    (k42:PySem.W.keepIn K (.ref f42)=true)
    (i42:PySem.W.isFn K (.ref f42)=true)
    (a43:PySem.W.findIn K (.ref cH) "twin" = some (some (.ref f43)))
    (l43:K.lookup f43=some ⟨oc43,od43, .func (PySem.W.fnOf "twin" "Letter.twin" (defArgs sLetW) (defBody sLetW) (defScope sLetW) .none kV43 dc43 pm43 an43 cd43 ct43),sl43⟩)
    (c43:PySem.W.codeIn K cd43 "Letter.twin" = true)
    (k43:PySem.W.keepIn K (.ref f43)=true)
    (i43:PySem.W.isFn K (.ref f43)=true)
    (a44:PySem.W.findIn K (.ref cJ) "__init__" = some (some (.ref f44)))
    (l44:K.lookup f44=some ⟨oc44,od44, .func (PySem.W.fnOf "__init__" "Yard.__init__" (defArgs sYdI) (defBody sYdI) (defScope sYdI) (.ref dT44) kV44 dc44 pm44 an44 cd44 ct44),sl44⟩)
    (d44:K.lookup dT44=some ⟨tO44,tD44, .seq #[Value.none] tN44,tS44⟩)
    (c44:PySem.W.codeIn K cd44 "Yard.__init__" = true)
    (k44:PySem.W.keepIn K (.ref f44)=true)
    (i44:PySem.W.isFn K (.ref f44)=true)
    (a45:PySem.W.findIn K (.ref cJ) "post" = some (some (.ref f45)))
    (l45:K.lookup f45=some ⟨oc45,od45, .func (PySem.W.fnOf "post" "Yard.post" (defArgs sPost) (defBody sPost) (defScope sPost) (.ref dT45) kV45 dc45 pm45 an45 cd45 ct45),sl45⟩)
    (d45:K.lookup dT45=some ⟨tO45,tD45, .seq #[Value.int 0 tk45] tN45,tS45⟩)
    (c45:PySem.W.codeIn K cd45 "Yard.post" = true)
    (k45:PySem.W.keepIn K (.ref f45)=true)
    (i45:PySem.W.isFn K (.ref f45)=true)
    (a46:PySem.W.findIn K (.ref cJ) "moves" = some (some (.ref f46)))
    (l46:K.lookup f46=some ⟨oc46,od46, .func (PySem.W.fnOf "moves" "Yard.moves" (defArgs sMoves) (defBody sMoves) (defScope sMoves) .none kV46 dc46 pm46 an46 cd46 ct46),sl46⟩)
    (c46:PySem.W.codeIn K cd46 "Yard.moves" = true)
    (k46:PySem.W.keepIn K (.ref f46)=true)
    (i46:PySem.W.isFn K (.ref f46)=true)
    (a47:PySem.W.findIn K (.ref cJ) "moves_in" = some (some (.ref f47)))
    (l47:K.lookup f47=some ⟨oc47,od47, .func (PySem.W.fnOf "moves_in" "Yard.moves_in" (defArgs sMvIn) (defBody sMvIn) (defScope sMvIn) .none kV47 dc47 pm47 an47 cd47 ct47),sl47⟩)
    (c47:PySem.W.codeIn K cd47 "Yard.moves_in" = true)
    (k47:PySem.W.keepIn K (.ref f47)=true)
    (i47:PySem.W.isFn K (.ref f47)=true)
    (a48:PySem.W.findIn K (.ref cJ) "moves_on" = some (some (.ref f48)))
    (l48:K.lookup f48=some ⟨oc48,od48, .func (PySem.W.fnOf "moves_on" "Yard.moves_on" (defArgs sMvOn) (defBody sMvOn) (defScope sMvOn) .none kV48 dc48 pm48 an48 cd48 ct48),sl48⟩)
    (c48:PySem.W.codeIn K cd48 "Yard.moves_on" = true)
    (k48:PySem.W.keepIn K (.ref f48)=true)
    (i48:PySem.W.isFn K (.ref f48)=true)
    (a49:PySem.W.findIn K (.ref cJ) "moves_lie" = some (some (.ref f49)))
    (l49:K.lookup f49=some ⟨oc49,od49, .func (PySem.W.fnOf "moves_lie" "Yard.moves_lie" (defArgs sMvLie) (defBody sMvLie) (defScope sMvLie) .none kV49 dc49 pm49 an49 cd49 ct49),sl49⟩)
    (c49:PySem.W.codeIn K cd49 "Yard.moves_lie" = true)
    (k49:PySem.W.keepIn K (.ref f49)=true)
    (i49:PySem.W.isFn K (.ref f49)=true)
    (a50:PySem.W.findIn K (.ref cJ) "moves_back" = some (some (.ref f50)))
    (l50:K.lookup f50=some ⟨oc50,od50, .func (PySem.W.fnOf "moves_back" "Yard.moves_back" (defArgs sMvBack) (defBody sMvBack) (defScope sMvBack) .none kV50 dc50 pm50 an50 cd50 ct50),sl50⟩)
    (c50:PySem.W.codeIn K cd50 "Yard.moves_back" = true)
    (k50:PySem.W.keepIn K (.ref f50)=true)
    (i50:PySem.W.isFn K (.ref f50)=true)
    (a51:PySem.W.findIn K (.ref cJ) "wanted" = some (some (.ref f51)))
    (l51:K.lookup f51=some ⟨oc51,od51, .func (PySem.W.fnOf "wanted" "Yard.wanted" (defArgs sWanted) (defBody sWanted) (defScope sWanted) .none kV51 dc51 pm51 an51 cd51 ct51),sl51⟩)
    (c51:PySem.W.codeIn K cd51 "Yard.wanted" = true)
    (k51:PySem.W.keepIn K (.ref f51)=true)
    (i51:PySem.W.isFn K (.ref f51)=true)
    (a52:PySem.W.findIn K (.ref cJ) "moves_like" = some (some (.ref f52)))
    (l52:K.lookup f52=some ⟨oc52,od52, .func (PySem.W.fnOf "moves_like" "Yard.moves_like" (defArgs sLike) (defBody sLike) (defScope sLike) .none kV52 dc52 pm52 an52 cd52 ct52),sl52⟩)
    (c52:PySem.W.codeIn K cd52 "Yard.moves_like" = true)
    (k52:PySem.W.keepIn K (.ref f52)=true)
    (i52:PySem.W.isFn K (.ref f52)=true)
    (a53:PySem.W.findIn K (.ref cJ) "do" = some (some (.ref f53)))
    (l53:K.lookup f53=some ⟨oc53,od53, .func (PySem.W.fnOf "do" "Yard.do" (defArgs sDo) (defBody sDo) (defScope sDo) .none kV53 dc53 pm53 an53 cd53 ct53),sl53⟩)
    (c53:PySem.W.codeIn K cd53 "Yard.do" = true)
    (k53:PySem.W.keepIn K (.ref f53)=true)
    (i53:PySem.W.isFn K (.ref f53)=true)
    (a54:PySem.W.findIn K (.ref cJ) "go_in" = some (some (.ref f54)))
    (l54:K.lookup f54=some ⟨oc54,od54, .func (PySem.W.fnOf "go_in" "Yard.go_in" (defArgs sGoIn) (defBody sGoIn) (defScope sGoIn) .none kV54 dc54 pm54 an54 cd54 ct54),sl54⟩)
    (c54:PySem.W.codeIn K cd54 "Yard.go_in" = true)
    (k54:PySem.W.keepIn K (.ref f54)=true)
    (i54:PySem.W.isFn K (.ref f54)=true)
    (a55:PySem.W.findIn K (.ref cJ) "enter" = some (some (.ref f55)))
    (l55:K.lookup f55=some ⟨oc55,od55, .func (PySem.W.fnOf "enter" "Yard.enter" (defArgs sEnter) (defBody sEnter) (defScope sEnter) .none kV55 dc55 pm55 an55 cd55 ct55),sl55⟩)
    (c55:PySem.W.codeIn K cd55 "Yard.enter" = true)
    (k55:PySem.W.keepIn K (.ref f55)=true)
    (i55:PySem.W.isFn K (.ref f55)=true)
    (a56:PySem.W.findIn K (.ref cJ) "lay" = some (some (.ref f56)))
    (l56:K.lookup f56=some ⟨oc56,od56, .func (PySem.W.fnOf "lay" "Yard.lay" (defArgs sLay) (defBody sLay) (defScope sLay) .none kV56 dc56 pm56 an56 cd56 ct56),sl56⟩)
    (c56:PySem.W.codeIn K cd56 "Yard.lay" = true)
    (k56:PySem.W.keepIn K (.ref f56)=true)
    (i56:PySem.W.isFn K (.ref f56)=true)
    (a57:PySem.W.findIn K (.ref cJ) "own_lane" = some (some (.ref f57)))
    (l57:K.lookup f57=some ⟨oc57,od57, .func (PySem.W.fnOf "own_lane" "Yard.own_lane" (defArgs sOwnL) (defBody sOwnL) (defScope sOwnL) .none kV57 dc57 pm57 an57 cd57 ct57),sl57⟩)
    (c57:PySem.W.codeIn K cd57 "Yard.own_lane" = true)
    (k57:PySem.W.keepIn K (.ref f57)=true)
    (i57:PySem.W.isFn K (.ref f57)=true)
    (a58:PySem.W.findIn K (.ref cJ) "own_letter" = some (some (.ref f58)))
    (l58:K.lookup f58=some ⟨oc58,od58, .func (PySem.W.fnOf "own_letter" "Yard.own_letter" (defArgs sOwnT) (defBody sOwnT) (defScope sOwnT) .none kV58 dc58 pm58 an58 cd58 ct58),sl58⟩)
    (c58:PySem.W.codeIn K cd58 "Yard.own_letter" = true)
    (k58:PySem.W.keepIn K (.ref f58)=true)
    (i58:PySem.W.isFn K (.ref f58)=true)
    (a59:PySem.W.findIn K (.ref cJ) "ended" = some (some (.ref f59)))
    (l59:K.lookup f59=some ⟨oc59,od59, .func (PySem.W.fnOf "ended" "Yard.ended" (defArgs sEnded) (defBody sEnded) (defScope sEnded) .none kV59 dc59 pm59 an59 cd59 ct59),sl59⟩)
    (c59:PySem.W.codeIn K cd59 "Yard.ended" = true)
    (k59:PySem.W.keepIn K (.ref f59)=true)
    (i59:PySem.W.isFn K (.ref f59)=true)
    (a60:PySem.W.findIn K (.ref cJ) "lane_told" = some (some (.ref f60)))
    (l60:K.lookup f60=some ⟨oc60,od60, .func (PySem.W.fnOf "lane_told" "Yard.lane_told" (defArgs sLaneT) (defBody sLaneT) (defScope sLaneT) .none kV60 dc60 pm60 an60 cd60 ct60),sl60⟩)
    (c60:PySem.W.codeIn K cd60 "Yard.lane_told" = true)
    (k60:PySem.W.keepIn K (.ref f60)=true)
    (i60:PySem.W.isFn K (.ref f60)=true)
    (a61:PySem.W.findIn K (.ref cJ) "letter_told" = some (some (.ref f61)))
    (l61:K.lookup f61=some ⟨oc61,od61, .func (PySem.W.fnOf "letter_told" "Yard.letter_told" (defArgs sLetT) (defBody sLetT) (defScope sLetT) .none kV61 dc61 pm61 an61 cd61 ct61),sl61⟩)
    (c61:PySem.W.codeIn K cd61 "Yard.letter_told" = true)
    (k61:PySem.W.keepIn K (.ref f61)=true)
    (i61:PySem.W.isFn K (.ref f61)=true)
    (a62:PySem.W.findIn K (.ref cJ) "way_told" = some (some (.ref f62)))
    (l62:K.lookup f62=some ⟨oc62,od62, .func (PySem.W.fnOf "way_told" "Yard.way_told" (defArgs sWayT) (defBody sWayT) (defScope sWayT) .none kV62 dc62 pm62 an62 cd62 ct62),sl62⟩)
    (c62:PySem.W.codeIn K cd62 "Yard.way_told" = true)
    (k62:PySem.W.keepIn K (.ref f62)=true)
    (i62:PySem.W.isFn K (.ref f62)=true)
    (a63:PySem.W.findIn K (.ref cJ) "lying" = some (some (.ref f63)))
    (l63:K.lookup f63=some ⟨oc63,od63, .func (PySem.W.fnOf "lying" "Yard.lying" (defArgs sLying) (defBody sLying) (defScope sLying) .none kV63 dc63 pm63 an63 cd63 ct63),sl63⟩)
    (c63:PySem.W.codeIn K cd63 "Yard.lying" = true)
    (k63:PySem.W.keepIn K (.ref f63)=true)
    (i63:PySem.W.isFn K (.ref f63)=true)
    (a64:PySem.W.findIn K (.ref cJ) "posted" = some (some (.ref f64)))
    (l64:K.lookup f64=some ⟨oc64,od64, .func (PySem.W.fnOf "posted" "Yard.posted" (defArgs sPosted) (defBody sPosted) (defScope sPosted) .none kV64 dc64 pm64 an64 cd64 ct64),sl64⟩)
    (c64:PySem.W.codeIn K cd64 "Yard.posted" = true)
    (k64:PySem.W.keepIn K (.ref f64)=true)
    (i64:PySem.W.isFn K (.ref f64)=true)
    (a65:PySem.W.findIn K (.ref cJ) "history" = some (some (.ref f65)))
    (l65:K.lookup f65=some ⟨oc65,od65, .func (PySem.W.fnOf "history" "Yard.history" (defArgs sHist) (defBody sHist) (defScope sHist) .none kV65 dc65 pm65 an65 cd65 ct65),sl65⟩)
    (c65:PySem.W.codeIn K cd65 "Yard.history" = true)
    (k65:PySem.W.keepIn K (.ref f65)=true)
    (i65:PySem.W.isFn K (.ref f65)=true)
    (mp:PySem.W.nsIn K mainGlobals "MOST_PLACES" = some (some (.int 12 t1)))
    (ml:PySem.W.nsIn K mainGlobals "MOST_LANES" = some (some (.int 40 t2)))
    (mr:PySem.W.nsIn K mainGlobals "MOST_ROOM" = some (some (.int 60 t3)))
    (mh:PySem.W.nsIn K mainGlobals "MOST_LENGTH" = some (some (.int 60 t4)))
    (mk:PySem.W.nsIn K mainGlobals "MOST_LETTERS" = some (some (.int 60 t5)))
    (p1cL:PySem.W.plainGet K cL Str.empty=true)
    (p2cL:PySem.W.hasDictIn K cL=true)
    (p3cL:PySem.W.plainOver K cL=true)
    (p4cL:PySem.W.findIn K (.ref cL) "__setattr__" = some (some (.builtin "object.__setattr__")))
    (p5cL:PySem.W.makesIn K cL=true)
    (p6cL:PySem.W.keepIn K (.ref cL)=true)
    (ncLplaces:PySem.W.findIn K (.ref cL) "places" = some none)
    (ncLlanes:PySem.W.findIn K (.ref cL) "lanes" = some none)
    (p1cB:PySem.W.plainGet K cB Str.empty=true)
    (p2cB:PySem.W.hasDictIn K cB=true)
    (p3cB:PySem.W.plainOver K cB=true)
    (p4cB:PySem.W.findIn K (.ref cB) "__setattr__" = some (some (.builtin "object.__setattr__")))
    (p5cB:PySem.W.makesIn K cB=true)
    (p6cB:PySem.W.keepIn K (.ref cB)=true)
    (ncBland:PySem.W.findIn K (.ref cB) "land" = some none)
    (p1cD:PySem.W.plainGet K cD Str.empty=true)
    (p2cD:PySem.W.hasDictIn K cD=true)
    (p3cD:PySem.W.plainOver K cD=true)
    (p4cD:PySem.W.findIn K (.ref cD) "__setattr__" = some (some (.builtin "object.__setattr__")))
    (p5cD:PySem.W.makesIn K cD=true)
    (p6cD:PySem.W.keepIn K (.ref cD)=true)
    (ncDland:PySem.W.findIn K (.ref cD) "land" = some none)
    (ncDentries:PySem.W.findIn K (.ref cD) "entries" = some none)
    (p1cA:PySem.W.plainGet K cA Str.empty=true)
    (p2cA:PySem.W.hasDictIn K cA=true)
    (p3cA:PySem.W.plainOver K cA=true)
    (p4cA:PySem.W.findIn K (.ref cA) "__setattr__" = some (some (.builtin "object.__setattr__")))
    (p5cA:PySem.W.makesIn K cA=true)
    (p6cA:PySem.W.keepIn K (.ref cA)=true)
    (ncArights:PySem.W.findIn K (.ref cA) "rights" = some none)
    (ncAreturning:PySem.W.findIn K (.ref cA) "returning" = some none)
    (ncAholder:PySem.W.findIn K (.ref cA) "holder" = some none)
    (ncApieces:PySem.W.findIn K (.ref cA) "pieces" = some none)
    (p1cH:PySem.W.plainGet K cH Str.empty=true)
    (p2cH:PySem.W.hasDictIn K cH=true)
    (p3cH:PySem.W.plainOver K cH=true)
    (p4cH:PySem.W.findIn K (.ref cH) "__setattr__" = some (some (.builtin "object.__setattr__")))
    (p5cH:PySem.W.makesIn K cH=true)
    (p6cH:PySem.W.keepIn K (.ref cH)=true)
    (ncHstart:PySem.W.findIn K (.ref cH) "start" = some none)
    (ncHgoal:PySem.W.findIn K (.ref cH) "goal" = some none)
    (ncHlength:PySem.W.findIn K (.ref cH) "length" = some none)
    (ncHword:PySem.W.findIn K (.ref cH) "word" = some none)
    (ncHgone:PySem.W.findIn K (.ref cH) "gone" = some none)
    (ncHway:PySem.W.findIn K (.ref cH) "way" = some none)
    (p1cJ:PySem.W.plainGet K cJ Str.empty=true)
    (p2cJ:PySem.W.hasDictIn K cJ=true)
    (p3cJ:PySem.W.plainOver K cJ=true)
    (p4cJ:PySem.W.findIn K (.ref cJ) "__setattr__" = some (some (.builtin "object.__setattr__")))
    (p5cJ:PySem.W.makesIn K cJ=true)
    (p6cJ:PySem.W.keepIn K (.ref cJ)=true)
    (ncJtable:PySem.W.findIn K (.ref cJ) "table" = some none)
    (ncJrooms:PySem.W.findIn K (.ref cJ) "rooms" = some none)
    (ncJlanes:PySem.W.findIn K (.ref cJ) "lanes" = some none)
    (ncJletters:PySem.W.findIn K (.ref cJ) "letters" = some none)
    (ncJlies:PySem.W.findIn K (.ref cJ) "lies" = some none)
    (ncJdone:PySem.W.findIn K (.ref cJ) "done" = some none)
    (x1cN:excInI K cN none=true)
    (x2cN:PySem.W.keepIn K (.ref cN)=true)
    (x1cT:excInI K cT (some (.ref f27))=true)
    (x2cT:PySem.W.keepIn K (.ref cT)=true)
    (x3cT:exOver K cT=true)
    (x4cT:PySem.W.hasDictIn K cT=true)
    (x5cT:PySem.W.findIn K (.ref cT) "__setattr__" = some (some (.builtin "object.__setattr__")))
    (x6cT:PySem.W.findIn K (.ref cT) "__getattribute__" = some (some (.builtin "BaseException.__getattribute__")))
    (x7cT:PySem.W.findIn K (.ref cT) "__getattr__" = some none)
    (ncTmany:PySem.W.findIn K (.ref cT) "many" = some none)
    (x1cR:excInI K cR (some (.ref f28))=true)
    (x2cR:PySem.W.keepIn K (.ref cR)=true)
    (x3cR:exOver K cR=true)
    (x4cR:PySem.W.hasDictIn K cR=true)
    (x5cR:PySem.W.findIn K (.ref cR) "__setattr__" = some (some (.builtin "object.__setattr__")))
    (x6cR:PySem.W.findIn K (.ref cR) "__getattribute__" = some (some (.builtin "BaseException.__getattribute__")))
    (x7cR:PySem.W.findIn K (.ref cR) "__getattr__" = some none)
    (ncRlane:PySem.W.findIn K (.ref cR) "lane" = some none)
    (x1cE:excInI K cE (some (.ref f29))=true)
    (x2cE:PySem.W.keepIn K (.ref cE)=true)
    (x3cE:exOver K cE=true)
    (x4cE:PySem.W.hasDictIn K cE=true)
    (x5cE:PySem.W.findIn K (.ref cE) "__setattr__" = some (some (.builtin "object.__setattr__")))
    (x6cE:PySem.W.findIn K (.ref cE) "__getattribute__" = some (some (.builtin "BaseException.__getattribute__")))
    (x7cE:PySem.W.findIn K (.ref cE) "__getattr__" = some none)
    (ncErow:PySem.W.findIn K (.ref cE) "row" = some none)
    (x1cM:excInI K cM none=true)
    (x2cM:PySem.W.keepIn K (.ref cM)=true)
    (x1cP:excInI K cP none=true)
    (x2cP:PySem.W.keepIn K (.ref cP)=true)
    (x1cG:excInI K cG none=true)
    (x2cG:PySem.W.keepIn K (.ref cG)=true)
    (x1cW:excInI K cW none=true)
    (x2cW:PySem.W.keepIn K (.ref cW)=true)
    (x1cZ:excInI K cZ (some (.ref f30))=true)
    (x2cZ:PySem.W.keepIn K (.ref cZ)=true)
    (x3cZ:exOver K cZ=true)
    (x4cZ:PySem.W.hasDictIn K cZ=true)
    (x5cZ:PySem.W.findIn K (.ref cZ) "__setattr__" = some (some (.builtin "object.__setattr__")))
    (x6cZ:PySem.W.findIn K (.ref cZ) "__getattribute__" = some (some (.builtin "BaseException.__getattribute__")))
    (x7cZ:PySem.W.findIn K (.ref cZ) "__getattr__" = some none)
    (ncZstart:PySem.W.findIn K (.ref cZ) "start" = some none)
    (ncZgoal:PySem.W.findIn K (.ref cZ) "goal" = some none)
    (x1cF:excInI K cF none=true)
    (x2cF:PySem.W.keepIn K (.ref cF)=true)
    (x1cQ:excInI K cQ none=true)
    (x2cQ:PySem.W.keepIn K (.ref cQ)=true)
    (w1cB:PySem.W.readsIn K cB (.type "type")=true)
    (w2cB:PySem.W.findCls K (.ref cB) (.type "type") "__init__" = some (.val (.ref f31)))
    (w3cB:PySem.W.specialIn K (.ref cB) "__getattribute__" = some (some (.builtin "type.__getattribute__")))
    (kk1:PySem.W.kitOne K (.type "int") (.type "int")=some true)
    (kk2:PySem.W.kitOne K (.type "int") (.type "bool")=some false)
    (kk3:PySem.W.kitOne K (.type "bool") (.type "int")=some true)
    (kk4:PySem.W.kitOne K (.type "bool") (.type "bool")=some true)
    (kk5:PySem.W.kitOne K (.type "NoneType") (.type "int")=some false)
    (kk6:PySem.W.kitOne K (.type "str") (.type "str")=some true)
    (kk7:PySem.W.kitOne K (.type "int") (.type "str")=some false)
    (kk8:PySem.W.kitOne K (.type "tuple") (.type "tuple")=some true)
    (kk9:PySem.W.kitOne K (.type "list") (.type "list")=some true)
    (eQ:PySem.W.exmOne K (.ref cQ) (.ref cQ)=some true)
    (z0:PySem.W.nsIn K mainGlobals "isinstance" = some none)
    (z1:PySem.W.nsIn K mainGlobals "int" = some none)
    (z2:PySem.W.nsIn K mainGlobals "bool" = some none)
    (z3:PySem.W.nsIn K mainGlobals "len" = some none)
    (z4:PySem.W.nsIn K mainGlobals "enumerate" = some none)
    (z5:PySem.W.nsIn K mainGlobals "tuple" = some none)
    (z6:PySem.W.nsIn K mainGlobals "range" = some none)
    (z7:PySem.W.nsIn K mainGlobals "list" = some none)
    (z8:PySem.W.nsIn K mainGlobals "all" = some none)
    (z9:PySem.W.nsIn K mainGlobals "sum" = some none)
    (z10:PySem.W.nsIn K mainGlobals "abs" = some none)
    (z11:PySem.W.nsIn K mainGlobals "str" = some none)
    : ∃ fd:FuncData,(∀ (s:Shared) (v:Value),BindsTo s fd ⟨[v],[]⟩ [("_law_script",v)])∧∀ base:Heap,K.In base→base.Ns mainGlobals mg→FnOk l.prog w K mg base CX0 10 fa fd ["_law_script"] (spLaw K):=by
  have e:=hfa.symm.trans (PySem.W.mg_of X G a22)
  cases e
  have T:Txt mg:=⟨PySem.W.mg_none_of X G z0,PySem.W.mg_none_of X G z1,PySem.W.mg_none_of X G z2,PySem.W.mg_none_of X G z3,PySem.W.mg_none_of X G z4,PySem.W.mg_none_of X G z5,PySem.W.mg_none_of X G z6,PySem.W.mg_none_of X G z7,PySem.W.mg_none_of X G z8,PySem.W.mg_none_of X G z9,PySem.W.mg_none_of X G z10,PySem.W.mg_none_of X G z11⟩
  have F1:=fun_mk (st:=sHas) l1 c1 k1
  have F2:=fun_mk (st:=sMem) l2 c2 k2
  have F3:=fun_mk (st:=sSet) l3 c3 k3
  have F4:=fun_mk (st:=sWhole) l4 c4 k4
  have F5:=fun_mk (st:=sWithin) l5 c5 k5
  have F6:=fun_mk (st:=sOne) l6 c6 k6
  have F7:=fun_mk (st:=sTwo) l7 c7 k7
  have F8:=fun_mk (st:=sFits) l8 c8 k8
  have F9:=fun_mk (st:=sOn) l9 c9 k9
  have F10:=fun_mk (st:=sRooms) l10 c10 k10
  have F11:=fun_mk (st:=sWord) l11 c11 k11
  have F12:=fun_mk (st:=sIsMv) l12 c12 k12
  have F13:=fun_mk (st:=sStill) l13 c13 k13
  have F14:=fun_mk (st:=sWaits) l14 c14 k14
  have F15:=fun_mk (st:=sCell) l15 c15 k15
  have F16:=fun_mk (st:=sMix) l16 c16 k16
  have F17:=fun_mk (st:=sLanes) l17 c17 k17
  have F18:=fun_mk (st:=sLTab) l18 c18 k18
  have F19:=fun_mk (st:=sLPost) l19 c19 k19
  have F20:=fun_mk (st:=sLWant) l20 c20 k20
  have F21:=fun_mk (st:=sLRight) l21 c21 k21
  have F22:=fun_mk (st:=sLaw) l22 c22 k22
  have F23:=fun_mk (st:=sInit) l23 c23 k23
  have F24:=fun_mk (st:=sEnd) l24 c24 k24
  have F25:=fun_mk (st:=sOut) l25 c25 k25
  have F26:=fun_mk (st:=sInto) l26 c26 k26
  have F27:=fun_mk (st:=sTM) l27 c27 k27
  have F28:=fun_mk (st:=sNR) l28 c28 k28
  have F29:=fun_mk (st:=sNE) l29 c29 k29
  have F30:=fun_mk (st:=sNR2) l30 c30 k30
  have F31:=fun_mk (st:=sTab) l31 c31 k31
  have F32:=fun_mk (st:=sTold) l32 c32 k32
  have F33:=fun_mk (st:=sToldW) l33 c33 k33
  have F34:=fun_mk (st:=sLnI) l34 c34 k34
  have F35:=fun_mk (st:=sOpen) l35 c35 k35
  have F36:=fun_mk (st:=sPut) l36 c36 k36
  have F37:=fun_mk (st:=sFront) l37 c37 k37
  have F38:=fun_mk (st:=sPull) l38 c38 k38
  have F39:=fun_mk (st:=sBring) l39 c39 k39
  have F40:=fun_mk (st:=sLnT) l40 c40 k40
  have F41:=fun_mk (st:=sLnW) l41 c41 k41
  have F42:=fun_mk (st:=sLetI) l42 c42 k42
  have F43:=fun_mk (st:=sLetW) l43 c43 k43
  have F44:FunD K "__init__" "Yard.__init__" sYdI f44 _:=⟨⟨_,_,_,_,_,_,_,_,_,_,rfl,l44,c44⟩,k44⟩
  have F45:FunD K "post" "Yard.post" sPost f45 _:=⟨⟨_,_,_,_,_,_,_,_,_,_,rfl,l45,c45⟩,k45⟩
  have F46:=fun_mk (st:=sMoves) l46 c46 k46
  have F47:=fun_mk (st:=sMvIn) l47 c47 k47
  have F48:=fun_mk (st:=sMvOn) l48 c48 k48
  have F49:=fun_mk (st:=sMvLie) l49 c49 k49
  have F50:=fun_mk (st:=sMvBack) l50 c50 k50
  have F51:=fun_mk (st:=sWanted) l51 c51 k51
  have F52:=fun_mk (st:=sLike) l52 c52 k52
  have F53:=fun_mk (st:=sDo) l53 c53 k53
  have F54:=fun_mk (st:=sGoIn) l54 c54 k54
  have F55:=fun_mk (st:=sEnter) l55 c55 k55
  have F56:=fun_mk (st:=sLay) l56 c56 k56
  have F57:=fun_mk (st:=sOwnL) l57 c57 k57
  have F58:=fun_mk (st:=sOwnT) l58 c58 k58
  have F59:=fun_mk (st:=sEnded) l59 c59 k59
  have F60:=fun_mk (st:=sLaneT) l60 c60 k60
  have F61:=fun_mk (st:=sLetT) l61 c61 k61
  have F62:=fun_mk (st:=sWayT) l62 c62 k62
  have F63:=fun_mk (st:=sLying) l63 c63 k63
  have F64:=fun_mk (st:=sPosted) l64 c64 k64
  have F65:=fun_mk (st:=sHist) l65 c65 k65
  have b1:=F1.binds (ps:=["some", "number"]) fun _ _ _ _ _ _=>len_of2 (fun _ _=>rfl)
  have b2:=F2.binds (ps:=["some"]) fun _ _ _ _ _ _=>len_of1 (fun _=>rfl)
  have b3:=F3.binds (ps:=["numbers"]) fun _ _ _ _ _ _=>len_of1 (fun _=>rfl)
  have b4:=F4.binds (ps:=["value"]) fun _ _ _ _ _ _=>len_of1 (fun _=>rfl)
  have b5:=F5.binds (ps:=["value", "least", "most"]) fun _ _ _ _ _ _=>len_of3 (fun _ _ _=>rfl)
  have b6:=F6.binds (ps:=["value", "numbers"]) fun _ _ _ _ _ _=>len_of2 (fun _ _=>rfl)
  have b7:=F7.binds (ps:=["places", "one", "other"]) fun _ _ _ _ _ _=>len_of3 (fun _ _ _=>rfl)
  have b8:=F8.binds (ps:=["land", "row"]) fun _ _ _ _ _ _=>len_of2 (fun _ _=>rfl)
  have b9:=F9.binds (ps:=["table", "lane", "goal"]) fun _ _ _ _ _ _=>len_of3 (fun _ _ _=>rfl)
  have b10:=F10.binds (ps:=["land", "rooms"]) fun _ _ _ _ _ _=>len_of2 (fun _ _=>rfl)
  have b11:=F11.binds (ps:=["word"]) fun _ _ _ _ _ _=>len_of1 (fun _=>rfl)
  have b12:=F12.binds (ps:=["move"]) fun _ _ _ _ _ _=>len_of1 (fun _=>rfl)
  have b13:=F13.binds (ps:=["yard"]) fun _ _ _ _ _ _=>len_of1 (fun _=>rfl)
  have b14:=F14.binds (ps:=["yard"]) fun _ _ _ _ _ _=>len_of1 (fun _=>rfl)
  have b15:=F15.binds (ps:=["_law_script", "_law_k"]) fun _ _ _ _ _ _=>len_of2 (fun _ _=>rfl)
  have b16:=F16.binds (ps:=["_law_cell", "_law_k"]) fun _ _ _ _ _ _=>len_of2 (fun _ _=>rfl)
  have b17:=F17.binds (ps:=["_law_script", "_law_places"]) fun _ _ _ _ _ _=>len_of2 (fun _ _=>rfl)
  have b18:=F18.binds (ps:=["_law_lanes_here", "_law_places", "_law_cell"]) fun _ _ _ _ _ _=>len_of3 (fun _ _ _=>rfl)
  have b19:=F19.binds (ps:=["_law_yard", "_law_table_here", "_law_places", "_law_cells"]) fun _ _ _ _ _ _=>len_of4 (fun _ _ _ _=>rfl)
  have b20:=F20.binds (ps:=["_law_yard", "_law_table_here", "_law_lane", "_law_front"]) fun _ _ _ _ _ _=>len_of4 (fun _ _ _ _=>rfl)
  have b21:=F21.binds (ps:=["_law_yard", "_law_table_here"]) fun _ _ _ _ _ _=>len_of2 (fun _ _=>rfl)
  have b23:=F23.binds (ps:=["self", "places", "lanes"]) fun _ _ _ _ _ _=>len_of3 (fun _ _ _=>rfl)
  have b24:=F24.binds (ps:=["self", "lane"]) fun _ _ _ _ _ _=>len_of2 (fun _ _=>rfl)
  have b25:=F25.binds (ps:=["self", "place"]) fun _ _ _ _ _ _=>len_of2 (fun _ _=>rfl)
  have b26:=F26.binds (ps:=["self", "place"]) fun _ _ _ _ _ _=>len_of2 (fun _ _=>rfl)
  have b27:=F27.binds (ps:=["self", "many"]) fun _ _ _ _ _ _=>len_of2 (fun _ _=>rfl)
  have b28:=F28.binds (ps:=["self", "lane"]) fun _ _ _ _ _ _=>len_of2 (fun _ _=>rfl)
  have b29:=F29.binds (ps:=["self", "row"]) fun _ _ _ _ _ _=>len_of2 (fun _ _=>rfl)
  have b30:=F30.binds (ps:=["self", "start", "goal"]) fun _ _ _ _ _ _=>len_of3 (fun _ _ _=>rfl)
  have b31:=F31.binds (ps:=["self", "land"]) fun _ _ _ _ _ _=>len_of2 (fun _ _=>rfl)
  have b32:=F32.binds (ps:=["self", "land", "rows"]) fun _ _ _ _ _ _=>len_of3 (fun _ _ _=>rfl)
  have b33:=F33.binds (ps:=["self", "place", "goal", "came"]) fun _ _ _ _ _ _=>len_of4 (fun _ _ _ _=>rfl)
  have b34:=F34.binds (ps:=["self", "room"]) fun _ _ _ _ _ _=>len_of2 (fun _ _=>rfl)
  have b35:=F35.binds (ps:=["self", "letter", "count"]) fun _ _ _ _ _ _=>len_of3 (fun _ _ _=>rfl)
  have b36:=F36.binds (ps:=["self", "letter", "count", "last"]) fun _ _ _ _ _ _=>len_of4 (fun _ _ _ _=>rfl)
  have b37:=F37.binds (ps:=["self"]) fun _ _ _ _ _ _=>len_of1 (fun _=>rfl)
  have b38:=F38.binds (ps:=["self"]) fun _ _ _ _ _ _=>len_of1 (fun _=>rfl)
  have b39:=F39.binds (ps:=["self"]) fun _ _ _ _ _ _=>len_of1 (fun _=>rfl)
  have b40:=F40.binds (ps:=["self"]) fun _ _ _ _ _ _=>len_of1 (fun _=>rfl)
  have b41:=F41.binds (ps:=["self"]) fun _ _ _ _ _ _=>len_of1 (fun _=>rfl)
  have b42:=F42.binds (ps:=["self", "start", "goal", "length", "word"]) fun _ _ _ _ _ _=>len_of5 (fun _ _ _ _ _=>rfl)
  have b43:=F43.binds (ps:=["self"]) fun _ _ _ _ _ _=>len_of1 (fun _=>rfl)
  have b46:=F46.binds (ps:=["self"]) fun _ _ _ _ _ _=>len_of1 (fun _=>rfl)
  have b47:=F47.binds (ps:=["self", "number"]) fun _ _ _ _ _ _=>len_of2 (fun _ _=>rfl)
  have b48:=F48.binds (ps:=["self", "lane"]) fun _ _ _ _ _ _=>len_of2 (fun _ _=>rfl)
  have b49:=F49.binds (ps:=["self", "lane"]) fun _ _ _ _ _ _=>len_of2 (fun _ _=>rfl)
  have b50:=F50.binds (ps:=["self", "lane"]) fun _ _ _ _ _ _=>len_of2 (fun _ _=>rfl)
  have b51:=F51.binds (ps:=["self", "lane"]) fun _ _ _ _ _ _=>len_of2 (fun _ _=>rfl)
  have b52:=F52.binds (ps:=["self", "move"]) fun _ _ _ _ _ _=>len_of2 (fun _ _=>rfl)
  have b53:=F53.binds (ps:=["self", "move"]) fun _ _ _ _ _ _=>len_of2 (fun _ _=>rfl)
  have b54:=F54.binds (ps:=["self", "number", "lane"]) fun _ _ _ _ _ _=>len_of3 (fun _ _ _=>rfl)
  have b55:=F55.binds (ps:=["self", "piece", "lane"]) fun _ _ _ _ _ _=>len_of3 (fun _ _ _=>rfl)
  have b56:=F56.binds (ps:=["self", "piece", "place"]) fun _ _ _ _ _ _=>len_of3 (fun _ _ _=>rfl)
  have b57:=F57.binds (ps:=["self", "lane"]) fun _ _ _ _ _ _=>len_of2 (fun _ _=>rfl)
  have b58:=F58.binds (ps:=["self", "number"]) fun _ _ _ _ _ _=>len_of2 (fun _ _=>rfl)
  have b59:=F59.binds (ps:=["self"]) fun _ _ _ _ _ _=>len_of1 (fun _=>rfl)
  have b60:=F60.binds (ps:=["self", "lane"]) fun _ _ _ _ _ _=>len_of2 (fun _ _=>rfl)
  have b61:=F61.binds (ps:=["self", "number"]) fun _ _ _ _ _ _=>len_of2 (fun _ _=>rfl)
  have b62:=F62.binds (ps:=["self", "number"]) fun _ _ _ _ _ _=>len_of2 (fun _ _=>rfl)
  have b63:=F63.binds (ps:=["self", "place"]) fun _ _ _ _ _ _=>len_of2 (fun _ _=>rfl)
  have b64:=F64.binds (ps:=["self"]) fun _ _ _ _ _ _=>len_of1 (fun _=>rfl)
  have b65:=F65.binds (ps:=["self"]) fun _ _ _ _ _ _=>len_of1 (fun _=>rfl)
  have L:Lnd K ⟨cN,cT,cR,cL⟩:=⟨⟨p1cL,p2cL,p3cL,p4cL⟩,ncLplaces,ncLlanes⟩
  have xT:XCls K cT:=⟨x3cT,x4cT,x5cT,x6cT,x7cT⟩
  have xR:XCls K cR:=⟨x3cR,x4cR,x5cR,x6cR,x7cR⟩
  have xE:XCls K cE:=⟨x3cE,x4cE,x5cE,x6cE,x7cE⟩
  have xZ:XCls K cZ:=⟨x3cZ,x4cZ,x5cZ,x6cZ,x7cZ⟩
  have Z:Kinds K:=⟨kk1,kk2,kk3,kk4,kk5⟩
  have ZS:KStr K:=⟨kk6,kk7,kk8⟩
  have E:Exc K mg ⟨cN,cT,cR,cL⟩ f27 f28 _ _:=⟨(PySem.W.mg_of X G gcN),x1cN,x2cN,(PySem.W.mg_of X G gcT),x1cT,x2cT,xT,ncTmany,i27,F27,b27,(PySem.W.mg_of X G gcR),x1cR,x2cR,xR,ncRlane,i28,F28,b28⟩
  have B:Tbl K mg ⟨cB,cD,cE⟩ f31 f29 _ _:=⟨⟨p1cB,p2cB,p3cB,p4cB⟩,ncBland,⟨p1cD,p2cD,p3cD,p4cD⟩,ncDland,ncDentries,(PySem.W.mg_of X G gcB),⟨w1cB,w2cB,w3cB,k31⟩,b31,(PySem.W.mg_of X G gcE),x1cE,x2cE,xE,ncErow,i29,F29,b29⟩
  have M:Mths K ⟨cN,cT,cR,cL⟩ f25 f26 _ _:=⟨⟨a25,i25,k25⟩,⟨a26,i26,k26⟩,b25,b26⟩
  have ME:EndM K ⟨cN,cT,cR,cL⟩ f24 _:=⟨⟨a24,i24,k24⟩,b24⟩
  have Y:Yrd K ⟨cJ,cA,cH⟩:=⟨⟨p1cJ,p2cJ,p3cJ,p4cJ⟩,ncJtable,ncJrooms,ncJlanes,ncJletters,ncJlies,ncJdone,⟨p1cH,p2cH,p3cH,p4cH⟩,ncHstart,ncHgoal,ncHlength,ncHword,ncHgone,ncHway,⟨⟨p1cA,p2cA,p3cA,p4cA⟩,ncArights,ncAreturning,ncAholder,ncApieces⟩⟩
  have eX:ExP K mg "NoRooms" cM:=⟨(PySem.W.mg_of X G gcM),x1cM,x2cM⟩
  have X1:ExP K mg "NoPlace" cP:=⟨(PySem.W.mg_of X G gcP),x1cP,x2cP⟩
  have X2:ExP K mg "NoLength" cG:=⟨(PySem.W.mg_of X G gcG),x1cG,x2cG⟩
  have X3:ExP K mg "NoWord" cW:=⟨(PySem.W.mg_of X G gcW),x1cW,x2cW⟩
  have X5:ExP K mg "Full" cF:=⟨(PySem.W.mg_of X G gcF),x1cF,x2cF⟩
  have X4:ExW K mg cZ f30 _:=⟨(PySem.W.mg_of X G gcZ),x1cZ,x2cZ,xZ,ncZstart,ncZgoal,i30,F30,b30⟩
  have XM:ExM K mg cQ:=⟨(PySem.W.mg_of X G gcQ),x1cQ,x2cQ,eQ⟩
  have by0:=binds_ydI0 (kV:=kV44) (doc:=dc44) (pm:=pm44) (cdv:=cd44) (ct:=ct44) (an:=an44) d44 rfl
  have bp0:=binds_post0 (kV:=kV45) (doc:=dc45) (pm:=pm45) (cdv:=cd45) (ct:=ct45) (an:=an45) d45 rfl
  have Mi:Mk K cL f23:=⟨p5cL,a23,i23,p6cL⟩
  have Mt:Mk K cD f32:=⟨p5cD,a32,i32,p6cD⟩
  have My:Mk K cJ f44:=⟨p5cJ,a44,i44,p6cJ⟩
  have Ma:Mk K cA f34:=⟨p5cA,a34,i34,p6cA⟩
  have Mh:Mk K cH f42:=⟨p5cH,a42,i42,p6cH⟩
  refine ⟨PySem.W.fnOf "law" "law" (defArgs sLaw) (defBody sLaw) (defScope sLaw) .none kV22 dc22 pm22 an22 cd22 ct22,fun s v => .of_eq rfl,fun base _ _=>?_⟩
  have Wn:Wy K cD f33 _ (ToldJ l.prog w ⟨cB,cD,cE⟩):=⟨⟨p1cD,p2cD,p3cD,p4cD⟩,ncDland,⟨a33,i33,k33⟩,b33,fun H H' x n wy h k=>h.keep k⟩
  have Gw:FnOk l.prog w K mg base CX0 2 f5 _ ["value", "least", "most"] spWithin:=ok_within F5 T (PySem.W.mg_of X G a4) F4 b4
  have GwV:FnOk l.prog w K mg base CX0 2 f5 _ ["value", "least", "most"] spWithinV:=ok_withinV F5 T Z (PySem.W.mg_of X G a4) F4 b4
  have GW:FnOk l.prog w K mg base CX0 1 f4 _ ["value"] spWholeV:=ok_wholeV F4 T Z
  have G2:FnOk l.prog w K mg base CX0 3 f7 _ ["places", "one", "other"] spTwo:=ok_two F7 (PySem.W.mg_of X G a5) k5 b5 Gw
  have Gi:FnOk l.prog w K mg base (CXe l.prog w) 4 f23 _ ["self", "places", "lanes"] (spInit K ⟨cN,cT,cR,cL⟩):=ok_init F23 T L E (PySem.W.mg_of X G a5) k5 b5 Gw (PySem.W.mg_of X G a7) k7 b7 G2 (PySem.W.mg_of X G mp) (PySem.W.mg_of X G ml)
  have Go:FnOk l.prog w K mg base CX0 2 f6 _ ["value", "numbers"] (spOne K):=ok_one F6 T (PySem.W.mg_of X G a4) F4 b4
  have Gf:FnOk l.prog w K mg base CX0 4 f8 _ ["land", "row"] (spFits ⟨cN,cT,cR,cL⟩):=ok_fits F8 T L M (PySem.W.mg_of X G a7) k7 b7 G2 (PySem.W.mg_of X G a6) k6 b6 Go (ok_out F25 T L) (ok_into F26 T L)
  have Gm:FnOk l.prog w K mg base CX0 2 f2 _ ["some"] spMem:=ok_mem F2 T (PySem.W.mg_of X G a1) F1 b1
  have G1:FnOk l.prog w K mg base CX0 1 f31 _ ["self", "land"] (spTab K):=ok_tab F31
  have Gt:FnOk l.prog w K mg base (CXe l.prog w) 5 f32 _ ["self", "land", "rows"] (spTold l.prog w K ⟨cN,cT,cR,cL⟩ ⟨cB,cD,cE⟩):=ok_told F32 T B G1 (PySem.W.mg_of X G a8) k8 b8 Gf (PySem.W.mg_of X G a3) k3 b3 (ok_set F3)
  have Ge:FnOk l.prog w K mg base CX0 1 f24 _ ["self", "lane"] (spAt ⟨cN,cT,cR,cL⟩ Prod.snd):=ok_end F24 L
  have Gway:FnOk l.prog w K mg base CX0 3 f33 _ ["self", "place", "goal", "came"] (spWaysA (ToldJ l.prog w ⟨cB,cD,cE⟩)):=told_waysA (ok_toldW F33 B (PySem.W.mg_of X G a2) k2 b2 Gm)
  have Gro:FnOk l.prog w K mg base (CXe l.prog w) 3 f10 _ ["land", "rooms"] (spRooms K ⟨cN,cT,cR,cL⟩ cM):=ok_rooms F10 T L eX (PySem.W.mg_of X G a5) k5 b5 GwV (PySem.W.mg_of X G mr)
  have Gwo:FnOk l.prog w K mg base CX0 2 f11 _ ["word"] spWord:=ok_word F11 T (PySem.W.mg_of X G a4) k4 b4 GW
  have Gla:FnOk l.prog w K mg base CX0 1 f34 _ ["self", "room"] (spLnI cA):=ok_lnI F34 Y.L
  have Glt:FnOk l.prog w K mg base CX0 1 f40 _ ["self"] (spLnT cA):=ok_lnT F40 T Y.L
  have Gop:FnOk l.prog w K mg base CX0 1 f35 _ ["self", "letter", "count"] (spOpen cA):=ok_open F35 Y.L
  have Gfr:FnOk l.prog w K mg base CX0 1 f37 _ ["self"] (spFront cA):=ok_front F37 Y.L
  have Gpu:FnOk l.prog w K mg base (CXe l.prog w) 2 f36 _ ["self", "letter", "count", "last"] (spPut cA cQ):=ok_put F36 Y.L XM ⟨a35,i35,k35⟩ b35 Gop
  have Gpl:FnOk l.prog w K mg base (CXe l.prog w) 1 f38 _ ["self"] (spPull cA cQ):=ok_pull F38 Y.L XM
  have Gbr:FnOk l.prog w K mg base (CXe l.prog w) 1 f39 _ ["self"] (spBring cA cQ):=ok_bring F39 Y.L XM
  have Gtw:FnOk l.prog w K mg base CX0 3 f41 _ ["self"] (spLnW cA):=ok_lnW F41 T Y.L (PySem.W.mg_of X G gcA) Ma b34 Gla
  have Gle:FnOk l.prog w K mg base CX0 1 f42 _ ["self", "start", "goal", "length", "word"] (spLtI cH):=ok_ltI F42 Y
  have Gtx:FnOk l.prog w K mg base CX0 3 f43 _ ["self"] (spLtW cH):=ok_ltW F43 T Y (PySem.W.mg_of X G gcH) Mh b42 Gle
  have Gy:FnOk l.prog w K mg base (CXe l.prog w) 4 f44 _ ["self", "table", "rooms"] (spYdI K ⟨cN,cT,cR,cL⟩ cD (ToldJ l.prog w ⟨cB,cD,cE⟩) ⟨cJ,cA,cH⟩ cM):=ok_ydI F44 T L Y Wn (PySem.W.mg_of X G a10) k10 b10 Gro (PySem.W.mg_of X G gcA) Ma b34 Gla
  have Gp:FnOk l.prog w K mg base (CXe l.prog w) 4 f45 _ ["self", "start", "goal", "length", "word"] (spPost K ⟨cN,cT,cR,cL⟩ cD (ToldJ l.prog w ⟨cB,cD,cE⟩) ⟨cJ,cA,cH⟩ ⟨cP,cG,cW,cZ,cF⟩):=ok_post F45 T L Y Wn Gway (PySem.W.mg_of X G a5) k5 b5 GwV (PySem.W.mg_of X G a11) k11 b11 Gwo (PySem.W.mg_of X G gcH) Mh b42 Gle (PySem.W.mg_of X G mh) (PySem.W.mg_of X G mk) X1 X2 X3 X4 X5
  have Gol:FnOk l.prog w K mg base CX0 4 f57 _ ["self", "lane"] (spOwnL K ⟨cJ,cA,cH⟩):=ok_ownL F57 Y ⟨a41,i41,k41⟩ b41 Gtw
  have Got:FnOk l.prog w K mg base CX0 4 f58 _ ["self", "number"] (spOwnT K ⟨cJ,cA,cH⟩):=ok_ownT F58 Y ⟨a43,i43,k43⟩ b43 Gtx
  have O:Own l.prog w K mg base ⟨cJ,cA,cH⟩ cQ f57 f58 f36 _ _ _:=⟨⟨a57,i57,k57⟩,b57,Gol,⟨a58,i58,k58⟩,b58,Got,⟨a36,i36,k36⟩,b36,Gpu⟩
  have Gly:FnOk l.prog w K mg base CX0 1 f56 _ ["self", "piece", "place"] (spLay K ⟨cJ,cA,cH⟩):=ok_lay F56 Y
  have Glg:FnOk l.prog w K mg base CX0 1 f63 _ ["self", "place"] (spLying K ⟨cJ,cA,cH⟩):=ok_lying F63 T Y
  have Gen:FnOk l.prog w K mg base CX0 5 f55 _ ["self", "piece", "lane"] (spEnter K ⟨cJ,cA,cH⟩):=ok_enter F55 Y O
  have Ggi:FnOk l.prog w K mg base CX0 6 f54 _ ["self", "number", "lane"] (spGoIn K ⟨cJ,cA,cH⟩):=ok_goIn F54 Y O ⟨a55,i55,k55⟩ b55 Gen
  have Gon:FnOk l.prog w K mg base CX0 4 f9 _ ["table", "lane", "goal"] (spOnA ⟨cN,cT,cR,cL⟩ cD (ToldJ l.prog w ⟨cB,cD,cE⟩)):=ok_onA F9 L Wn Gway ME Ge
  have Gmi:FnOk l.prog w K mg base CX0 4 f47 _ ["self", "number"] (spMvIn K ⟨cN,cT,cR,cL⟩ cD (ToldJ l.prog w ⟨cB,cD,cE⟩) ⟨cJ,cA,cH⟩):=ok_mvIn F47 Y Wn Gway ⟨a35,i35,k35⟩ b35 Gop
  have Gwa:FnOk l.prog w K mg base CX0 5 f51 _ ["self", "lane"] (spWanted K ⟨cN,cT,cR,cL⟩ cD (ToldJ l.prog w ⟨cB,cD,cE⟩) ⟨cJ,cA,cH⟩):=ok_wanted F51 Y Wn ⟨a37,i37,k37⟩ b37 Gfr (PySem.W.mg_of X G a9) k9 b9 Gon
  have Gmo:FnOk l.prog w K mg base CX0 6 f48 _ ["self", "lane"] (spMvOn K ⟨cN,cT,cR,cL⟩ cD (ToldJ l.prog w ⟨cB,cD,cE⟩) ⟨cJ,cA,cH⟩):=ok_mvOn F48 Y Wn ⟨a37,i37,k37⟩ b37 Gfr ⟨a51,i51,k51⟩ b51 Gwa ⟨a35,i35,k35⟩ b35 Gop
  have Gml:FnOk l.prog w K mg base CX0 2 f49 _ ["self", "lane"] (spMvLie K ⟨cN,cT,cR,cL⟩ cD (ToldJ l.prog w ⟨cB,cD,cE⟩) ⟨cJ,cA,cH⟩):=ok_mvLie F49 Y L Wn ⟨a37,i37,k37⟩ b37 Gfr ME Ge
  have Gmb:FnOk l.prog w K mg base CX0 1 f50 _ ["self", "lane"] (spMvBack K ⟨cN,cT,cR,cL⟩ cD (ToldJ l.prog w ⟨cB,cD,cE⟩) ⟨cJ,cA,cH⟩):=ok_mvBack F50 Y
  have MM:MvM l.prog w K mg base ⟨cN,cT,cR,cL⟩ cD (ToldJ l.prog w ⟨cB,cD,cE⟩) ⟨cJ,cA,cH⟩ f47 f48 f49 f50 _ _ _ _:=⟨⟨a47,i47,k47⟩,b47,Gmi,⟨a48,i48,k48⟩,b48,Gmo,⟨a49,i49,k49⟩,b49,Gml,⟨a50,i50,k50⟩,b50,Gmb⟩
  have Gms:FnOk l.prog w K mg base CX0 7 f46 _ ["self"] (spMoves K ⟨cN,cT,cR,cL⟩ cD (ToldJ l.prog w ⟨cB,cD,cE⟩) ⟨cJ,cA,cH⟩):=ok_moves F46 T Y Wn MM
  have Gim:FnOk l.prog w K mg base CX0 2 f12 _ ["move"] spIsMv:=ok_isMv F12 T ZS (PySem.W.mg_of X G a4) k4 b4 GW
  have Glk:FnOk l.prog w K mg base CX0 7 f52 _ ["self", "move"] (spLike K ⟨cN,cT,cR,cL⟩ cD (ToldJ l.prog w ⟨cB,cD,cE⟩) ⟨cJ,cA,cH⟩):=ok_like F52 T Y Wn MM (PySem.W.mg_of X G a12) k12 b12 Gim (PySem.W.mg_of X G a5) k5 b5 GwV
  have DM:DoM l.prog w K mg base ⟨cN,cT,cR,cL⟩ cD (ToldJ l.prog w ⟨cB,cD,cE⟩) ⟨cJ,cA,cH⟩ cQ f52 f54 f55 f38 f39 f56 _ _ _ _ _ _:=⟨⟨a52,i52,k52⟩,b52,Glk,⟨a54,i54,k54⟩,b54,Ggi,⟨a55,i55,k55⟩,b55,Gen,⟨a38,i38,k38⟩,b38,Gpl,⟨a39,i39,k39⟩,b39,Gbr,⟨a56,i56,k56⟩,b56,Gly⟩
  have Gdo:FnOk l.prog w K mg base (CXe l.prog w) 8 f53 _ ["self", "move"] (spDo K ⟨cN,cT,cR,cL⟩ cD (ToldJ l.prog w ⟨cB,cD,cE⟩) ⟨cJ,cA,cH⟩):=ok_do F53 Y L Wn XM O DM ME Ge
  have Ged:FnOk l.prog w K mg base CX0 1 f59 _ ["self"] (spEnded K ⟨cJ,cA,cH⟩):=ok_ended F59 T Y
  have Glnt:FnOk l.prog w K mg base CX0 2 f60 _ ["self", "lane"] (spLaneT K ⟨cJ,cA,cH⟩):=ok_laneT F60 Y ⟨a40,i40,k40⟩ b40 Glt
  have Glet:FnOk l.prog w K mg base CX0 1 f61 _ ["self", "number"] (spLetT K ⟨cJ,cA,cH⟩):=ok_letT F61 Y
  have Gwt:FnOk l.prog w K mg base CX0 1 f62 _ ["self", "number"] (spWayT K ⟨cJ,cA,cH⟩):=ok_wayT F62 T Y
  have Gpd:FnOk l.prog w K mg base CX0 1 f64 _ ["self"] (spPosted K ⟨cJ,cA,cH⟩):=ok_posted F64 T Y
  have Ghi:FnOk l.prog w K mg base CX0 1 f65 _ ["self"] (spHist K ⟨cJ,cA,cH⟩):=ok_hist F65 T Y
  have Gst:FnOk l.prog w K mg base CX0 8 f13 _ ["yard"] (spStill K ⟨cN,cT,cR,cL⟩ cD (ToldJ l.prog w ⟨cB,cD,cE⟩) ⟨cJ,cA,cH⟩):=ok_still F13 Y Wn ⟨a46,i46,k46⟩ b46 Gms ⟨a59,i59,k59⟩ b59 Ged
  have Gwts:FnOk l.prog w K mg base CX0 6 f14 _ ["yard"] (spWaits K ⟨cN,cT,cR,cL⟩ cD (ToldJ l.prog w ⟨cB,cD,cE⟩) ⟨cJ,cA,cH⟩):=ok_waits F14 T Y L Wn ⟨a60,i60,k60⟩ b60 Glnt ⟨a51,i51,k51⟩ b51 Gwa
  have Gc:FnOk l.prog w K mg base CX0 1 f15 _ ["_law_script", "_law_k"] (spCell K):=ok_cell F15 T
  have Gmx:FnOk l.prog w K mg base CX0 1 f16 _ ["_law_cell", "_law_k"] spMix:=ok_mix F16
  have Gln:FnOk l.prog w K mg base CX0 2 f17 _ ["_law_script", "_law_places"] (spLanes K):=ok_lanes F17 T (PySem.W.mg_of X G a16) k16 b16 Gmx (PySem.W.mg_of X G a15) k15 b15 Gc
  have Gtb:FnOk l.prog w K mg base CX0 7 f18 _ ["_law_lanes_here", "_law_places", "_law_cell"] (spLTab l.prog w ⟨cN,cT,cR,cL⟩ ⟨cB,cD,cE⟩):=ok_ltab F18 T (PySem.W.mg_of X G a16) k16 b16 Gmx (PySem.W.mg_of X G gcL) Mi b23 Gi (PySem.W.mg_of X G gcD) Mt b32 Gt
  have Glp:FnOk l.prog w K mg base CX0 5 f19 _ ["_law_yard", "_law_table_here", "_law_places", "_law_cells"] (spLPost K ⟨cN,cT,cR,cL⟩ cD (ToldJ l.prog w ⟨cB,cD,cE⟩) ⟨cJ,cA,cH⟩):=ok_lpost F19 Y Wn Gway ⟨a45,i45,k45⟩ bp0 Gp
  have Glw:FnOk l.prog w K mg base CX0 4 f20 _ ["_law_yard", "_law_table_here", "_law_lane", "_law_front"] (spLWant K ⟨cN,cT,cR,cL⟩ cD (ToldJ l.prog w ⟨cB,cD,cE⟩) ⟨cJ,cA,cH⟩):=ok_lwant F20 T Y L Wn Gway ⟨a61,i61,k61⟩ b61 Glet ⟨a62,i62,k62⟩ b62 Gwt ME Ge
  have RM:RgM l.prog w K mg base ⟨cN,cT,cR,cL⟩ cD (ToldJ l.prog w ⟨cB,cD,cE⟩) ⟨cJ,cA,cH⟩ f60 f20 f14 f63 f61 f64 f46 f13 _ _ _ _ _ _ _ _:=⟨⟨a60,i60,k60⟩,b60,Glnt,PySem.W.mg_of X G a20,k20,b20,Glw,PySem.W.mg_of X G a14,k14,b14,Gwts,⟨a63,i63,k63⟩,b63,Glg,⟨a61,i61,k61⟩,b61,Glet,⟨a64,i64,k64⟩,b64,Gpd,⟨a46,i46,k46⟩,b46,Gms,PySem.W.mg_of X G a13,k13,b13,Gst⟩
  have Grt:FnOk l.prog w K mg base CX0 9 f21 _ ["_law_yard", "_law_table_here"] (spLRight K ⟨cN,cT,cR,cL⟩ cD (ToldJ l.prog w ⟨cB,cD,cE⟩) ⟨cJ,cA,cH⟩):=ok_lright F21 T Z kk9 Y L Wn RM
  exact ok_law (c:=⟨cN,cT,cR,cL⟩) (ts:=⟨cB,cD,cE⟩) (ys:=⟨cJ,cA,cH⟩) (nr:=cM) F22 T Y Wn ⟨PySem.W.mg_of X G a15,k15,b15,Gc,PySem.W.mg_of X G a17,k17,b17,Gln,PySem.W.mg_of X G a18,k18,b18,Gtb,(PySem.W.mg_of X G gcJ),My,by0,Gy,PySem.W.mg_of X G a19,k19,b19,Glp,PySem.W.mg_of X G a21,k21,b21,Grt,⟨a46,i46,k46⟩,b46,Gms,⟨a53,i53,k53⟩,b53,Gdo,⟨a65,i65,k65⟩,b65,Ghi⟩
theorem walk {l:PySem.W.OpenLaw} {q:Program} {loose:List Str} {XP:(Str→Option Value)→Heap→Prop} {YP:World→Heap→Prop} {d:DefRec} {K:Params→PySem.W.Frag} (hn:l.most=some 63) (hdf:d.params.defaults=[])
    (hY:∀ (w:World) (h:Heap),YP w h→(K w.params).In h)
    (F:∀ (w:World) (mg:Str→Option Value) (fa:Addr) (h:Heap),(K w.params).In h→h.Ns mainGlobals mg→mg d.name=some (.ref fa) →
      ∃ fd:FuncData,(∀ (s:Shared) (u:Value),BindsTo s fd ⟨[u],[]⟩ [("_law_script",u)])∧∀ base:Heap,(K w.params).In base→base.Ns mainGlobals mg→FnOk l.prog w (K w.params) mg base CX0 10 fa fd ["_law_script"] (spLaw (K w.params))) :
    PySem.W.WalkO q loose XP YP l.row.toRowW d [] (fun f vs=>PySem.call f vs) :=
  L2.walk_of (n:=63) (k:=10) (x := "_law_script") (CX:=fun _=>CX0) (sp:=fun w=>spLaw (K w.params)) hn (by decide) hdf ⟨rfl,by decide,by decide⟩ hY F (fun _ _ a ns hl _ hS=>⟨a,ns,rfl,hS,hl,fun _=>rfl⟩) fun _ _ _ _ _ z=>z
end K66
theorem PySem.W.Fast.tw2706957055861915287:True:=trivial
theorem PySem.W.Fast.tw13756399689465326505:True:=trivial
theorem PySem.W.Fast.tw14917734382533636640:True:=trivial
theorem PySem.W.Fast.tw11360062266182786900:True:=trivial
theorem PySem.W.Fast.tw769498251464819525:True:=trivial
theorem PySem.W.Fast.tw2477412242377795352:True:=trivial
theorem PySem.W.Fast.tw12208441102583952020:True:=trivial
theorem PySem.W.Fast.tw1165632823665685977:True:=trivial
theorem PySem.W.Fast.tw3550103658829303519:True:=trivial
theorem PySem.W.Fast.tw832827340090364499:True:=trivial
theorem PySem.W.Fast.tw18399424740536268096:True:=trivial
theorem PySem.W.Fast.tw6630895371616404260:True:=trivial
theorem PySem.W.Fast.tw6626694510398049768:True:=trivial
theorem PySem.W.Fast.tw14112598482364564479:True:=trivial
theorem PySem.W.Fast.tw2119809312507121528:True:=trivial
theorem PySem.W.Fast.tw4448684196401506412:True:=trivial
theorem PySem.W.Fast.tw17065506435731565412:True:=trivial
theorem PySem.W.Fast.tw15352870415836052175:True:=trivial
theorem PySem.W.Fast.tw9543429658706724366:True:=trivial
theorem PySem.W.Fast.tw9004527360957272502:True:=trivial
theorem PySem.W.Fast.tw15461924736424483192:True:=trivial
theorem PySem.W.Fast.tw9391295666968317116:True:=trivial
theorem PySem.W.Fast.tw6591768006541288979:True:=trivial
theorem PySem.W.Fast.tw12514695794643925443:True:=trivial
theorem PySem.W.Fast.tw8816334631505560483:True:=trivial
theorem PySem.W.Fast.tw4421379661126481922:True:=trivial
theorem PySem.W.Fast.tw5276820103336228710:True:=trivial
theorem PySem.W.Fast.tw4251229084927648415:True:=trivial
theorem PySem.W.Fast.tw17219819886910497835:True:=trivial
theorem PySem.W.Fast.tw280727285896139291:True:=trivial
theorem PySem.W.Fast.tw5847216621447094244:True:=trivial
theorem PySem.W.Fast.tw15545586614768499089:True:=trivial
theorem PySem.W.Fast.tw8707327750563822489:True:=trivial
theorem PySem.W.Fast.tw15251020406891120481:True:=trivial
theorem PySem.W.Fast.tw16586920951465436788:True:=trivial
theorem PySem.W.Fast.tw4707344680012576349:True:=trivial
theorem PySem.W.Fast.tw16928147830709801961:True:=trivial
theorem PySem.W.Fast.tw778979529136595698:True:=trivial
theorem PySem.W.Fast.tw5255028326260700173:True:=trivial
theorem PySem.W.Fast.tw8714021618536461225:True:=trivial
theorem PySem.W.Fast.tw8266214189200997437:True:=trivial
theorem PySem.W.Fast.tw13028303128836660446:True:=trivial
theorem PySem.W.Fast.tw13552952869196360293:True:=trivial
theorem PySem.W.Fast.tw2013165179721954211:True:=trivial
theorem PySem.W.Fast.tw5941953157295467126:True:=trivial
theorem PySem.W.Fast.tw8940347627521675472:True:=trivial
theorem PySem.W.Fast.tw14696749541186289742:True:=trivial
theorem PySem.W.Fast.tw324992170066456183:True:=trivial
theorem PySem.W.Fast.tw4150436998266472639:True:=trivial
theorem PySem.W.Fast.tw11854922593241509927:True:=trivial
theorem PySem.W.Fast.tw2802449424195445474:True:=trivial
theorem PySem.W.Fast.tw12842862920972473478:True:=trivial
theorem PySem.W.Fast.tw13718719119863538575:True:=trivial
theorem PySem.W.Fast.tw184476234133569242:True:=trivial
theorem PySem.W.Fast.tw12943112061539216863:True:=trivial
theorem PySem.W.Fast.tw1065283871391568295:True:=trivial
theorem PySem.W.Fast.tw12932922400663311951:True:=trivial
theorem PySem.W.Fast.tw9189819343308230895:True:=trivial
theorem PySem.W.Fast.tw8842350000179389934:True:=trivial
theorem PySem.W.Fast.tw1413841134088768309:True:=trivial
theorem PySem.W.Fast.tw15481243072652124031:True:=trivial
theorem PySem.W.Fast.tw13810022711180043904:True:=trivial
theorem PySem.W.Fast.tw6192167996806048728:True:=trivial
theorem PySem.W.Fast.tw17142021803663407419:True:=trivial
theorem PySem.W.Fast.tw7139019103948505137:True:=trivial
theorem PySem.W.Fast.tw16865086490853730927:True:=trivial
theorem PySem.W.Fast.tw2341120397898218127:True:=trivial
theorem PySem.W.Fast.tw9301321131489937210:True:=trivial
theorem PySem.W.Fast.tw2335040414290918660:True:=trivial
theorem PySem.W.Fast.tw15393802931152396778:True:=trivial
theorem PySem.W.Fast.tw9746677089084169415:True:=trivial
theorem PySem.W.Fast.tw4608325577912959795:True:=trivial
theorem PySem.W.Fast.tw713077016600707920:True:=trivial
theorem PySem.W.Fast.tw14903667409521170281:True:=trivial
theorem PySem.W.Fast.tw10644541791245550981:True:=trivial
theorem PySem.W.Fast.tw4267145846230784362:True:=trivial
theorem PySem.W.Fast.tw10873721684672326736:True:=trivial
theorem PySem.W.Fast.tw6491274222983294730:True:=trivial
theorem PySem.W.Fast.tw1855130239131548121:True:=trivial
theorem PySem.W.Fast.tw2135375042997630599:True:=trivial
theorem PySem.W.Fast.tw15242603612441763219:True:=trivial
theorem PySem.W.Fast.tw14019229982820055526:True:=trivial
theorem PySem.W.Fast.tw6736729904650690622:True:=trivial
theorem PySem.W.Fast.tw2137491692883538953:True:=trivial
theorem PySem.W.Fast.tw6126814101406531553:True:=trivial
theorem PySem.W.Fast.tw16608669015751492728:True:=trivial
theorem PySem.W.Fast.tw14618955604051372481:True:=trivial
theorem PySem.W.Fast.tw8811520544197261152:True:=trivial
theorem PySem.W.Fast.tw11226760883886801907:True:=trivial
theorem PySem.W.Fast.tw9932237452729791201:True:=trivial
theorem PySem.W.Fast.tw8665225773349282197:True:=trivial
theorem PySem.W.Fast.tw7468954274090001077:True:=trivial
theorem PySem.W.Fast.tw7094418693153065475:True:=trivial
theorem PySem.W.Fast.tw4131745936391513200:True:=trivial
theorem PySem.W.Fast.tw10880153349202570558:True:=trivial
theorem PySem.W.Fast.tw4375399839743300671:True:=trivial
theorem PySem.W.Fast.tw5679471398560630749:True:=trivial
theorem PySem.W.Fast.tw10922278667597675895:True:=trivial
theorem PySem.W.Fast.tw12296036113534423357:True:=trivial
theorem PySem.W.Fast.tw13538563226385007423:True:=trivial
theorem PySem.W.Fast.tw6558285994591065078:True:=trivial
theorem PySem.W.Fast.tw11199754784236163084:True:=trivial
theorem PySem.W.Fast.tw9030153502905295680:True:=trivial
theorem PySem.W.Fast.tw3707447407132751918:True:=trivial
theorem PySem.W.Fast.tw13543796533718385652:True:=trivial
theorem PySem.W.Fast.tw4671132332971889711:True:=trivial
theorem PySem.W.Fast.tw4603530145164492190:True:=trivial
theorem PySem.W.Fast.tw2350952793302829521:True:=trivial
theorem PySem.W.Fast.tw17861355682959195948:True:=trivial
theorem PySem.W.Fast.tw1837719215986669151:True:=trivial
theorem PySem.W.Fast.tw14175225825365169623:True:=trivial
theorem PySem.W.Fast.tw15329301860506215606:True:=trivial
theorem PySem.W.Fast.tw13864370254908273295:True:=trivial
theorem PySem.W.Fast.tw7890618233099967114:True:=trivial
theorem PySem.W.Fast.tw17025724140634191854:True:=trivial
theorem PySem.W.Fast.tw8343173286807559452:True:=trivial
theorem PySem.W.Fast.tw2824647953336307359:True:=trivial
theorem PySem.W.Fast.tw6816384341609268776:True:=trivial
theorem PySem.W.Fast.tw14896288051649654901:True:=trivial
theorem PySem.W.Fast.tw12500270273885648324:True:=trivial
theorem PySem.W.Fast.tw5662577711006128768:True:=trivial
theorem PySem.W.Fast.tw7762203085420898148:True:=trivial
theorem PySem.W.Fast.tw16412751194544219088:True:=trivial
theorem PySem.W.Fast.tw6421561477403744587:True:=trivial
theorem PySem.W.Fast.tw703607264299894714:True:=trivial
theorem PySem.W.Fast.tw7448440045217429417:True:=trivial
theorem PySem.W.Fast.tw12895108665991639463:True:=trivial
theorem PySem.W.Fast.tw17172998297314808125:True:=trivial
theorem PySem.W.Fast.tw17667804087762007574:True:=trivial
theorem PySem.W.Fast.tw10337573267493796020:True:=trivial
theorem PySem.W.Fast.tw10227143473050679361:True:=trivial
theorem PySem.W.Fast.tw8525623591234915636:True:=trivial
theorem PySem.W.Fast.tw8136999673263715510:True:=trivial
theorem PySem.W.Fast.tw15769574613572948494:True:=trivial
theorem PySem.W.Fast.tw2558590682668275049:True:=trivial
theorem PySem.W.Fast.tw17304583335319661456:True:=trivial
theorem PySem.W.Fast.tw9653500035389706904:True:=trivial
theorem PySem.W.Fast.tw21921200873946810:True:=trivial
theorem PySem.W.Fast.tw13003797863417293377:True:=trivial
theorem PySem.W.Fast.tw11655913343570115094:True:=trivial
theorem PySem.W.Fast.tw14445185088509436172:True:=trivial
theorem PySem.W.Fast.tw3671587209981509218:True:=trivial
theorem PySem.W.Fast.tw3338466417506358948:True:=trivial
theorem PySem.W.Fast.tw10374173542073505809:True:=trivial
theorem PySem.W.Fast.tw16129946276357034510:True:=trivial
theorem PySem.W.Fast.tw11043492947379964657:True:=trivial
theorem PySem.W.Fast.tw4706987013046857672:True:=trivial
theorem PySem.W.Fast.tw13672204202489013993:True:=trivial
theorem PySem.W.Fast.tw15766035304842310527:True:=trivial
theorem PySem.W.Fast.tw5653593134779812931:True:=trivial
theorem PySem.W.Fast.tw15861511171282071657:True:=trivial
theorem PySem.W.Fast.tw10116084403304227508:True:=trivial
theorem PySem.W.Fast.tw16970168586410610862:True:=trivial
theorem PySem.W.Fast.tw3709791042671556503:True:=trivial
theorem PySem.W.Fast.tw13029106807857558631:True:=trivial
theorem PySem.W.Fast.tw2450946853708273248:True:=trivial
theorem PySem.W.Fast.tw4053978975979924473:True:=trivial
theorem PySem.W.Fast.tw6880674579888653008:True:=trivial
theorem PySem.W.Fast.tw11756228451418942931:True:=trivial
theorem PySem.W.Fast.tw4599801843011872353:True:=trivial
theorem PySem.W.Fast.tw9366057181912622632:True:=trivial
theorem PySem.W.Fast.tw14780480021694882896:True:=trivial
theorem PySem.W.Fast.tw16518415693056919505:True:=trivial
theorem PySem.W.Fast.tw6422985546670221129:True:=trivial
theorem PySem.W.Fast.tw1307492640718748141:True:=trivial
theorem PySem.W.Fast.tw9966968288663177631:True:=trivial
theorem PySem.W.Fast.tw18253992831286139544:True:=trivial
theorem PySem.W.Fast.tw1145452753710726285:True:=trivial
theorem PySem.W.Fast.tw6986576299436076154:True:=trivial
theorem PySem.W.Fast.tw14153862453100255261:True:=trivial
theorem PySem.W.Fast.tw662208277980882382:True:=trivial
theorem PySem.W.Fast.tw16536582650859197223:True:=trivial
theorem PySem.W.Fast.tw16044025710634089651:True:=trivial
theorem PySem.W.Fast.tw5113488062674625495:True:=trivial
theorem PySem.W.Fast.tw15162311288436868532:True:=trivial
theorem PySem.W.Fast.tw7843967465250171085:True:=trivial
theorem PySem.W.Fast.tw1720077359173820275:True:=trivial
theorem PySem.W.Fast.tw672760774511327331:True:=trivial
theorem PySem.W.Fast.tw3385260018043375843:True:=trivial
theorem PySem.W.Fast.tw13449078934413954661:True:=trivial
theorem PySem.W.Fast.tw7567133112145937058:True:=trivial
theorem PySem.W.Fast.tw2698690383233925536:True:=trivial
theorem PySem.W.Fast.tw12670124368713437910:True:=trivial
theorem PySem.W.Fast.tw8957300640869698255:True:=trivial
theorem PySem.W.Fast.tw16637276896532838086:True:=trivial
theorem PySem.W.Fast.tw7465594726014192221:True:=trivial
theorem PySem.W.Fast.tw14082114997168457485:True:=trivial
theorem PySem.W.Fast.tw7133807127331196133:True:=trivial
theorem PySem.W.Fast.tw3031805331388535615:True:=trivial
theorem PySem.W.Fast.tw1385279445104601045:True:=trivial
theorem PySem.W.Fast.tw15123091185054460357:True:=trivial
theorem PySem.W.Fast.tw125378882664186260:True:=trivial
theorem PySem.W.Fast.tw8605029119136767689:True:=trivial
theorem PySem.W.Fast.tw8311136234075127286:True:=trivial
theorem PySem.W.Fast.tw12553931469204341199:True:=trivial
theorem PySem.W.Fast.tw6388317096454387925:True:=trivial
theorem PySem.W.Fast.tw14287842384903115284:True:=trivial
theorem PySem.W.Fast.tw17884197858668075065:True:=trivial
theorem PySem.W.Fast.tw7605439461244672405:True:=trivial
theorem PySem.W.Fast.tw7651344175562741551:True:=trivial
theorem PySem.W.Fast.tw6912154404110252369:True:=trivial
theorem PySem.W.Fast.tw14817021977703634001:True:=trivial
theorem PySem.W.Fast.tw6536590072771474712:True:=trivial
theorem PySem.W.Fast.tw4314874257405106347:True:=trivial
theorem PySem.W.Fast.tw1764183708371770886:True:=trivial
theorem PySem.W.Fast.tw7287775924175207929:True:=trivial
theorem PySem.W.Fast.tw12590716577141833244:True:=trivial
theorem PySem.W.Fast.tw5745820656501582958:True:=trivial
theorem PySem.W.Fast.tw8887307456830922691:True:=trivial
theorem PySem.W.Fast.tw12938221421058647433:True:=trivial
theorem PySem.W.Fast.tw6010645373440447164:True:=trivial
theorem PySem.W.Fast.tw17099798270094955832:True:=trivial
theorem PySem.W.Fast.tw14903649794229712230:True:=trivial
theorem PySem.W.Fast.tw5913851579354594858:True:=trivial
theorem PySem.W.Fast.tw17924397998744036772:True:=trivial
theorem PySem.W.Fast.tw6720805501373724863:True:=trivial
theorem PySem.W.Fast.tw4364091436903320625:True:=trivial
theorem PySem.W.Fast.tw17160701341514641720:True:=trivial
theorem PySem.W.Fast.tw151769131312469602:True:=trivial
theorem PySem.W.Fast.tw15227259668397293891:True:=trivial
open PySem PySem.W PyProof.Rows
set_option maxRecDepth 100000 in
set_option maxHeartbeats 0 in
theorem PySem.Challenge.cw_wormyard_k66_what_waits_holds : PySem.Challenge.rw_wormyard_k66_what_waits.Holds := by
  w_on; o_law; k_head; (case hw=>w_witness2)
  k_fill
  refine K66.walk (l:=PySem.Challenge.rw_wormyard_k66_what_waits) rfl rfl (fun w h Y=>PySem.W.kIn_of Y) ?F
  case F =>
    intro w mg fa h KX G hmg
    refine' K66.all_mk KX G hmg ?gcL ?gcN ?gcT ?gcR ?gcE ?gcB ?gcD ?gcM ?gcP ?gcG ?gcW ?gcZ ?gcF ?gcQ ?gcA ?gcH ?gcJ ?a1 ?l1 ?c1 ?k1 ?a2 ?l2 ?c2 ?k2 ?a3 ?l3 ?c3 ?k3 ?a4 ?l4 ?c4 ?k4 ?a5 ?l5 ?c5 ?k5 ?a6 ?l6 ?c6 ?k6 ?a7 ?l7 ?c7 ?k7 ?a8 ?l8 ?c8 ?k8 ?a9 ?l9 ?c9 ?k9 ?a10 ?l10 ?c10 ?k10 ?a11 ?l11 ?c11 ?k11 ?a12 ?l12 ?c12 ?k12 ?a13 ?l13 ?c13 ?k13 ?a14 ?l14 ?c14 ?k14 ?a15 ?l15 ?c15 ?k15 ?a16 ?l16 ?c16 ?k16 ?a17 ?l17 ?c17 ?k17 ?a18 ?l18 ?c18 ?k18 ?a19 ?l19 ?c19 ?k19 ?a20 ?l20 ?c20 ?k20 ?a21 ?l21 ?c21 ?k21 ?a22 ?l22 ?c22 ?k22 ?a23 ?l23 ?c23 ?k23 ?i23 ?a24 ?l24 ?c24 ?k24 ?i24 ?a25 ?l25 ?c25 ?k25 ?i25 ?a26 ?l26 ?c26 ?k26 ?i26 ?a27 ?l27 ?c27 ?k27 ?i27 ?a28 ?l28 ?c28 ?k28 ?i28 ?a29 ?l29 ?c29 ?k29 ?i29 ?a30 ?l30 ?c30 ?k30 ?i30 ?a31 ?l31 ?c31 ?k31 ?i31 ?a32 ?l32 ?c32 ?k32 ?i32 ?a33 ?l33 ?c33 ?k33 ?i33 ?a34 ?l34 ?c34 ?k34 ?i34 ?a35 ?l35 ?c35 ?k35 ?i35 ?a36 ?l36 ?c36 ?k36 ?i36 ?a37 ?l37 ?c37 ?k37 ?i37 ?a38 ?l38 ?c38 ?k38 ?i38 ?a39 ?l39 ?c39 ?k39 ?i39 ?a40 ?l40 ?c40 ?k40 ?i40 ?a41 ?l41 ?c41 ?k41 ?i41 ?a42 ?l42 ?c42 ?k42 ?i42 ?a43 ?l43 ?c43 ?k43 ?i43 ?a44 ?l44 ?d44 ?c44 ?k44 ?i44 ?a45 ?l45 ?d45 ?c45 ?k45 ?i45 ?a46 ?l46 ?c46 ?k46 ?i46 ?a47 ?l47 ?c47 ?k47 ?i47 ?a48 ?l48 ?c48 ?k48 ?i48 ?a49 ?l49 ?c49 ?k49 ?i49 ?a50 ?l50 ?c50 ?k50 ?i50 ?a51 ?l51 ?c51 ?k51 ?i51 ?a52 ?l52 ?c52 ?k52 ?i52 ?a53 ?l53 ?c53 ?k53 ?i53 ?a54 ?l54 ?c54 ?k54 ?i54 ?a55 ?l55 ?c55 ?k55 ?i55 ?a56 ?l56 ?c56 ?k56 ?i56 ?a57 ?l57 ?c57 ?k57 ?i57 ?a58 ?l58 ?c58 ?k58 ?i58 ?a59 ?l59 ?c59 ?k59 ?i59 ?a60 ?l60 ?c60 ?k60 ?i60 ?a61 ?l61 ?c61 ?k61 ?i61 ?a62 ?l62 ?c62 ?k62 ?i62 ?a63 ?l63 ?c63 ?k63 ?i63 ?a64 ?l64 ?c64 ?k64 ?i64 ?a65 ?l65 ?c65 ?k65 ?i65 ?mp ?ml ?mr ?mh ?mk ?p1cL ?p2cL ?p3cL ?p4cL ?p5cL ?p6cL ?ncLplaces ?ncLlanes ?p1cB ?p2cB ?p3cB ?p4cB ?p5cB ?p6cB ?ncBland ?p1cD ?p2cD ?p3cD ?p4cD ?p5cD ?p6cD ?ncDland ?ncDentries ?p1cA ?p2cA ?p3cA ?p4cA ?p5cA ?p6cA ?ncArights ?ncAreturning ?ncAholder ?ncApieces ?p1cH ?p2cH ?p3cH ?p4cH ?p5cH ?p6cH ?ncHstart ?ncHgoal ?ncHlength ?ncHword ?ncHgone ?ncHway ?p1cJ ?p2cJ ?p3cJ ?p4cJ ?p5cJ ?p6cJ ?ncJtable ?ncJrooms ?ncJlanes ?ncJletters ?ncJlies ?ncJdone ?x1cN ?x2cN ?x1cT ?x2cT ?x3cT ?x4cT ?x5cT ?x6cT ?x7cT ?ncTmany ?x1cR ?x2cR ?x3cR ?x4cR ?x5cR ?x6cR ?x7cR ?ncRlane ?x1cE ?x2cE ?x3cE ?x4cE ?x5cE ?x6cE ?x7cE ?ncErow ?x1cM ?x2cM ?x1cP ?x2cP ?x1cG ?x2cG ?x1cW ?x2cW ?x1cZ ?x2cZ ?x3cZ ?x4cZ ?x5cZ ?x6cZ ?x7cZ ?ncZstart ?ncZgoal ?x1cF ?x2cF ?x1cQ ?x2cQ ?w1cB ?w2cB ?w3cB ?kk1 ?kk2 ?kk3 ?kk4 ?kk5 ?kk6 ?kk7 ?kk8 ?kk9 ?eQ ?z0 ?z1 ?z2 ?z3 ?z4 ?z5 ?z6 ?z7 ?z8 ?z9 ?z10 ?z11
    (case gcL=>k_is)
    (case gcN=>k_is)
    (case gcT=>k_is)
    (case gcR=>k_is)
    (case gcE=>k_is)
    (case gcB=>k_is)
    (case gcD=>k_is)
    (case gcM=>k_is)
    (case gcP=>k_is)
    (case gcG=>k_is)
    (case gcW=>k_is)
    (case gcZ=>k_is)
    (case gcF=>k_is)
    (case gcQ=>k_is)
    (case gcA=>k_is)
    (case gcH=>k_is)
    (case gcJ=>k_is)
    (case a1=>k_is)
    (case l1=>k_is)
    (case c1=>k_is)
    (case k1=>k_is)
    (case a2=>k_is)
    (case l2=>k_is)
    (case c2=>k_is)
    (case k2=>k_is)
    (case a3=>k_is)
    (case l3=>k_is)
    (case c3=>k_is)
    (case k3=>k_is)
    (case a4=>k_is)
    (case l4=>k_is)
    (case c4=>k_is)
    (case k4=>k_is)
    (case a5=>k_is)
    (case l5=>k_is)
    (case c5=>k_is)
    (case k5=>k_is)
    (case a6=>k_is)
    (case l6=>k_is)
    (case c6=>k_is)
    (case k6=>k_is)
    (case a7=>k_is)
    (case l7=>k_is)
    (case c7=>k_is)
    (case k7=>k_is)
    (case a8=>k_is)
    (case l8=>k_is)
    (case c8=>k_is)
    (case k8=>k_is)
    (case a9=>k_is)
    (case l9=>k_is)
    (case c9=>k_is)
    (case k9=>k_is)
    (case a10=>k_is)
    (case l10=>k_is)
    (case c10=>k_is)
    (case k10=>k_is)
    (case a11=>k_is)
    (case l11=>k_is)
    (case c11=>k_is)
    (case k11=>k_is)
    (case a12=>k_is)
    (case l12=>k_is)
    (case c12=>k_is)
    (case k12=>k_is)
    (case a13=>k_is)
    (case l13=>k_is)
    (case c13=>k_is)
    (case k13=>k_is)
    (case a14=>k_is)
    (case l14=>k_is)
    (case c14=>k_is)
    (case k14=>k_is)
    (case a15=>k_is)
    (case l15=>k_is)
    (case c15=>k_is)
    (case k15=>k_is)
    (case a16=>k_is)
    (case l16=>k_is)
    (case c16=>k_is)
    (case k16=>k_is)
    (case a17=>k_is)
    (case l17=>k_is)
    (case c17=>k_is)
    (case k17=>k_is)
    (case a18=>k_is)
    (case l18=>k_is)
    (case c18=>k_is)
    (case k18=>k_is)
    (case a19=>k_is)
    (case l19=>k_is)
    (case c19=>k_is)
    (case k19=>k_is)
    (case a20=>k_is)
    (case l20=>k_is)
    (case c20=>k_is)
    (case k20=>k_is)
    (case a21=>k_is)
    (case l21=>k_is)
    (case c21=>k_is)
    (case k21=>k_is)
    (case a22=>k_is)
    (case l22=>k_is)
    (case c22=>k_is)
    (case k22=>k_is)
    (case a23=>k_is)
    (case l23=>k_is)
    (case c23=>k_is)
    (case k23=>k_is)
    (case i23=>k_is)
    (case a24=>k_is)
    (case l24=>k_is)
    (case c24=>k_is)
    (case k24=>k_is)
    (case i24=>k_is)
    (case a25=>k_is)
    (case l25=>k_is)
    (case c25=>k_is)
    (case k25=>k_is)
    (case i25=>k_is)
    (case a26=>k_is)
    (case l26=>k_is)
    (case c26=>k_is)
    (case k26=>k_is)
    (case i26=>k_is)
    (case a27=>k_is)
    (case l27=>k_is)
    (case c27=>k_is)
    (case k27=>k_is)
    (case i27=>k_is)
    (case a28=>k_is)
    (case l28=>k_is)
    (case c28=>k_is)
    (case k28=>k_is)
    (case i28=>k_is)
    (case a29=>k_is)
    (case l29=>k_is)
    (case c29=>k_is)
    (case k29=>k_is)
    (case i29=>k_is)
    (case a30=>k_is)
    (case l30=>k_is)
    (case c30=>k_is)
    (case k30=>k_is)
    (case i30=>k_is)
    (case a31=>k_is)
    (case l31=>k_is)
    (case c31=>k_is)
    (case k31=>k_is)
    (case i31=>k_is)
    (case a32=>k_is)
    (case l32=>k_is)
    (case c32=>k_is)
    (case k32=>k_is)
    (case i32=>k_is)
    (case a33=>k_is)
    (case l33=>k_is)
    (case c33=>k_is)
    (case k33=>k_is)
    (case i33=>k_is)
    (case a34=>k_is)
    (case l34=>k_is)
    (case c34=>k_is)
    (case k34=>k_is)
    (case i34=>k_is)
    (case a35=>k_is)
    (case l35=>k_is)
    (case c35=>k_is)
    (case k35=>k_is)
    (case i35=>k_is)
    (case a36=>k_is)
    (case l36=>k_is)
    (case c36=>k_is)
    (case k36=>k_is)
    (case i36=>k_is)
    (case a37=>k_is)
    (case l37=>k_is)
    (case c37=>k_is)
    (case k37=>k_is)
    (case i37=>k_is)
    (case a38=>k_is)
    (case l38=>k_is)
    (case c38=>k_is)
    (case k38=>k_is)
    (case i38=>k_is)
    (case a39=>k_is)
    (case l39=>k_is)
    (case c39=>k_is)
    (case k39=>k_is)
    (case i39=>k_is)
    (case a40=>k_is)
    (case l40=>k_is)
    (case c40=>k_is)
    (case k40=>k_is)
    (case i40=>k_is)
    (case a41=>k_is)
    (case l41=>k_is)
    (case c41=>k_is)
    (case k41=>k_is)
    (case i41=>k_is)
    (case a42=>k_is)
    (case l42=>k_is)
    (case c42=>k_is)
    (case k42=>k_is)
    (case i42=>k_is)
    (case a43=>k_is)
    (case l43=>k_is)
    (case c43=>k_is)
    (case k43=>k_is)
    (case i43=>k_is)
    (case a44=>k_is)
    (case l44=>k_is)
    (case d44=>k_is)
    (case c44=>k_is)
    (case k44=>k_is)
    (case i44=>k_is)
    (case a45=>k_is)
    (case l45=>k_is)
    (case d45=>k_is)
    (case c45=>k_is)
    (case k45=>k_is)
    (case i45=>k_is)
    (case a46=>k_is)
    (case l46=>k_is)
    (case c46=>k_is)
    (case k46=>k_is)
    (case i46=>k_is)
    (case a47=>k_is)
    (case l47=>k_is)
    (case c47=>k_is)
    (case k47=>k_is)
    (case i47=>k_is)
    (case a48=>k_is)
    (case l48=>k_is)
    (case c48=>k_is)
    (case k48=>k_is)
    (case i48=>k_is)
    (case a49=>k_is)
    (case l49=>k_is)
    (case c49=>k_is)
    (case k49=>k_is)
    (case i49=>k_is)
    (case a50=>k_is)
    (case l50=>k_is)
    (case c50=>k_is)
    (case k50=>k_is)
    (case i50=>k_is)
    (case a51=>k_is)
    (case l51=>k_is)
    (case c51=>k_is)
    (case k51=>k_is)
    (case i51=>k_is)
    (case a52=>k_is)
    (case l52=>k_is)
    (case c52=>k_is)
    (case k52=>k_is)
    (case i52=>k_is)
    (case a53=>k_is)
    (case l53=>k_is)
    (case c53=>k_is)
    (case k53=>k_is)
    (case i53=>k_is)
    (case a54=>k_is)
    (case l54=>k_is)
    (case c54=>k_is)
    (case k54=>k_is)
    (case i54=>k_is)
    (case a55=>k_is)
    (case l55=>k_is)
    (case c55=>k_is)
    (case k55=>k_is)
    (case i55=>k_is)
    (case a56=>k_is)
    (case l56=>k_is)
    (case c56=>k_is)
    (case k56=>k_is)
    (case i56=>k_is)
    (case a57=>k_is)
    (case l57=>k_is)
    (case c57=>k_is)
    (case k57=>k_is)
    (case i57=>k_is)
    (case a58=>k_is)
    (case l58=>k_is)
    (case c58=>k_is)
    (case k58=>k_is)
    (case i58=>k_is)
    (case a59=>k_is)
    (case l59=>k_is)
    (case c59=>k_is)
    (case k59=>k_is)
    (case i59=>k_is)
    (case a60=>k_is)
    (case l60=>k_is)
    (case c60=>k_is)
    (case k60=>k_is)
    (case i60=>k_is)
    (case a61=>k_is)
    (case l61=>k_is)
    (case c61=>k_is)
    (case k61=>k_is)
    (case i61=>k_is)
    (case a62=>k_is)
    (case l62=>k_is)
    (case c62=>k_is)
    (case k62=>k_is)
    (case i62=>k_is)
    (case a63=>k_is)
    (case l63=>k_is)
    (case c63=>k_is)
    (case k63=>k_is)
    (case i63=>k_is)
    (case a64=>k_is)
    (case l64=>k_is)
    (case c64=>k_is)
    (case k64=>k_is)
    (case i64=>k_is)
    (case a65=>k_is)
    (case l65=>k_is)
    (case c65=>k_is)
    (case k65=>k_is)
    (case i65=>k_is)
    (case mp=>k_is)
    (case ml=>k_is)
    (case mr=>k_is)
    (case mh=>k_is)
    (case mk=>k_is)
    (case p1cL=>k_is)
    (case p2cL=>k_is)
    (case p3cL=>k_is)
    (case p4cL=>k_is)
    (case p5cL=>k_is)
    (case p6cL=>k_is)
    (case ncLplaces=>k_is)
    (case ncLlanes=>k_is)
    (case p1cB=>k_is)
    (case p2cB=>k_is)
    (case p3cB=>k_is)
    (case p4cB=>k_is)
    (case p5cB=>k_is)
    (case p6cB=>k_is)
    (case ncBland=>k_is)
    (case p1cD=>k_is)
    (case p2cD=>k_is)
    (case p3cD=>k_is)
    (case p4cD=>k_is)
    (case p5cD=>k_is)
    (case p6cD=>k_is)
    (case ncDland=>k_is)
    (case ncDentries=>k_is)
    (case p1cA=>k_is)
    (case p2cA=>k_is)
    (case p3cA=>k_is)
    (case p4cA=>k_is)
    (case p5cA=>k_is)
    (case p6cA=>k_is)
    (case ncArights=>k_is)
    (case ncAreturning=>k_is)
    (case ncAholder=>k_is)
    (case ncApieces=>k_is)
    (case p1cH=>k_is)
    (case p2cH=>k_is)
    (case p3cH=>k_is)
    (case p4cH=>k_is)
    (case p5cH=>k_is)
    (case p6cH=>k_is)
    (case ncHstart=>k_is)
    (case ncHgoal=>k_is)
    (case ncHlength=>k_is)
    (case ncHword=>k_is)
    (case ncHgone=>k_is)
    (case ncHway=>k_is)
    (case p1cJ=>k_is)
    (case p2cJ=>k_is)
    (case p3cJ=>k_is)
    (case p4cJ=>k_is)
    (case p5cJ=>k_is)
    (case p6cJ=>k_is)
    (case ncJtable=>k_is)
    (case ncJrooms=>k_is)
    (case ncJlanes=>k_is)
    (case ncJletters=>k_is)
    (case ncJlies=>k_is)
    (case ncJdone=>k_is)
    (case x1cN=>kernel_rfl)
    (case x2cN=>k_is)
    (case x1cT=>kernel_rfl)
    (case x2cT=>k_is)
    (case x3cT=>kernel_rfl)
    (case x4cT=>k_is)
    (case x5cT=>k_is)
    (case x6cT=>k_is)
    (case x7cT=>k_is)
    (case ncTmany=>k_is)
    (case x1cR=>kernel_rfl)
    (case x2cR=>k_is)
    (case x3cR=>kernel_rfl)
    (case x4cR=>k_is)
    (case x5cR=>k_is)
    (case x6cR=>k_is)
    (case x7cR=>k_is)
    (case ncRlane=>k_is)
    (case x1cE=>kernel_rfl)
    (case x2cE=>k_is)
    (case x3cE=>kernel_rfl)
    (case x4cE=>k_is)
    (case x5cE=>k_is)
    (case x6cE=>k_is)
    (case x7cE=>k_is)
    (case ncErow=>k_is)
    (case x1cM=>kernel_rfl)
    (case x2cM=>k_is)
    (case x1cP=>kernel_rfl)
    (case x2cP=>k_is)
    (case x1cG=>kernel_rfl)
    (case x2cG=>k_is)
    (case x1cW=>kernel_rfl)
    (case x2cW=>k_is)
    (case x1cZ=>kernel_rfl)
    (case x2cZ=>k_is)
    (case x3cZ=>kernel_rfl)
    (case x4cZ=>k_is)
    (case x5cZ=>k_is)
    (case x6cZ=>k_is)
    (case x7cZ=>k_is)
    (case ncZstart=>k_is)
    (case ncZgoal=>k_is)
    (case x1cF=>kernel_rfl)
    (case x2cF=>k_is)
    (case x1cQ=>kernel_rfl)
    (case x2cQ=>k_is)
    (case w1cB=>first | k_is | kernel_rfl)
    (case w2cB=>first | k_is | kernel_rfl)
    (case w3cB=>first | k_is | kernel_rfl)
    (case kk1=>kit_is)
    (case kk2=>kit_is)
    (case kk3=>kit_is)
    (case kk4=>kit_is)
    (case kk5=>kit_is)
    (case kk6=>kit_is)
    (case kk7=>kit_is)
    (case kk8=>kit_is)
    (case kk9=>kit_is)
    (case eQ=>kts_exm)
    (case z0=>k_is)
    (case z1=>k_is)
    (case z2=>k_is)
    (case z3=>k_is)
    (case z4=>k_is)
    (case z5=>k_is)
    (case z6=>k_is)
    (case z7=>k_is)
    (case z8=>k_is)
    (case z9=>k_is)
    (case z10=>k_is)
    (case z11=>k_is)
