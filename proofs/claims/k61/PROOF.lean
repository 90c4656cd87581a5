import PyProof.Rows.All
import Wide.All
import OpenK.AllK
import Wide.FinOn
import Lean
import PyProof.EqAt
import PyProof.EqKinds
import PyProof.TupleCall
import PyProof.ExcBaseAll.ValueError
import PyProof.EnumMake
import PyProof.Rows.EnumRows
import PyProof.TupleIter
import PyProof.DictValues
import PyProof.CollectStr
import PySem.Builtin.Int.W1All
import PyProof.DictRoadsH
import PyProof.DictKinds
import PyProof.FactsAll.NoneType
import KE.KRevIter
import PyProof.FactsAll.list_3
import KE.KDictList
import PyProof.DictIter
import PyProof.DictWalks
import PyProof.ListRange
import PyProof.Rows.SumAny
import PyProof.Rows.SeqCalls
import PyProof.P3In
import KE.KNest
import PySem.Challenge.RW_wormyard_k61_runs
set_option compiler.extract_closed false
set_option Elab.async false
set_option linter.all false
set_option maxRecDepth 100000
set_option maxHeartbeats 4000000
open PySem.W (Frag keepIn findIn fnOf codeIn nsIn mg_of isFn kitOne hasDictIn mg_none_of plainGet plainOver makesIn)
open List (all_cons all_eq_true all_map any_cons any_eq_true append_assoc append_nil contains_cons eq_of_mem_replicate filterMap_cons filter_append filter_congr forall_mem_cons getD_eq_getElem?_getD getElem_mem getElem_of_mem length_append length_cons length_filter_le length_map length_nil length_range length_replicate length_set length_singleton length_take length_take_le lookup_cons map_append map_cons map_map map_nil mem_append mem_append_left mem_append_right mem_cons mem_cons_of_mem mem_cons_self mem_filter mem_flatMap mem_map mem_map_of_mem mem_of_getElem? mem_of_head? mem_of_mem_take mem_range mem_reverse mem_singleton nodup_append nodup_cons nodup_nil not_mem_nil of_mem_zip pairwise_cons pairwise_iff_getElem pairwise_lt_range range_succ size_toArray sum_cons take_length take_succ)
open Nat (le_of_eq le_of_lt le_refl le_succ le_trans lt_irrefl lt_of_le_of_lt lt_of_lt_of_le lt_or_ge lt_succ_self lt_trans ne_of_gt ne_of_lt not_lt_zero pow_le_pow_right testBit_lt_two_pow zero_le)
open Int (emod_lt_of_pos emod_nonneg toNat_natCast zero_add)
open PySem.F (args_tuple_add_2 entry_dict_get entry_tuple_add plainAttrs_list slot_dict_get slot_list_extend slot_tuple_add type_list_extend)
open PySem.Heap (lt_size size_push)
noncomputable section
namespace L2
theorem Gv {α:Type}{n:Nat}{l:List α}(h:l.length=n + 1):∃ a t,l=a :: t/\t.length=n:=by
 cases l with
 | nil=>cases h
 | cons a t=>exact⟨a,t,rfl,Nat.succ.inj h⟩
open PySem PySem.Spec PyProof.Rows
noncomputable abbrev bW:=Sum Int Str
noncomputable def jw:bW->Value->Bool
 | .inl k,v=>Value.isInt k v
 | .inr x,v=>Value.isStrOf x v
noncomputable def Qo (w:World):bW->Int
 | .inl k=>hashInt k
 | .inr x=>hashStr w x
theorem b0:∀ {k:bW}{v:Value},jw k v=true->(∃ i t,k=Sum.inl i/\v=Value.int i t)∨(∃ x t,k=Sum.inr x/\v=Value.str x t)
 | .inl i,v,h=>by
  obtain⟨t,e⟩:=Value.isInt_shape (k:=i) (v:=v) h
  exact .inl ⟨i,t,rfl,e⟩
 | .inr x,v,h=>by
  obtain⟨t,e⟩:=Value.isStrOf_shape (x:=x) (v:=v) h
  exact .inr ⟨x,t,rfl,e⟩
theorem rj (i:Int)(t:Tok):jw (.inl i) (.int i t)=true:=by simp[jw,Value.isInt]
theorem rh (x:Str)(t:Tok):jw (.inr x) (.str x t)=true:=by simp[jw,Value.isStrOf]
theorem zx (a b:Int):decide ((Sum.inl a:bW)=Sum.inl b)=(a == b):=by
 by_cases e:a=b
 ·subst e;simp
 ·have h:¬ (Sum.inl a:bW)=Sum.inl b:=fun q=>e (Sum.inl.inj q)
  rw[decide_eq_false h]
  exact(beq_eq_false_iff_ne.mpr e).symm
theorem zr (a b:Str):decide ((Sum.inr a:bW)=Sum.inr b)=decide (a=b):=by
 by_cases e:a=b
 ·subst e;simp
 ·have h:¬ (Sum.inr a:bW)=Sum.inr b:=fun q=>e (Sum.inr.inj q)
  rw[decide_eq_false h,decide_eq_false e]
theorem zw (a:Int)(b:Str):decide ((Sum.inl a:bW)=Sum.inr b)=false:=decide_eq_false (fun q=>nomatch q)
theorem zt (a:Str)(b:Int):decide ((Sum.inr a:bW)=Sum.inl b)=false:=decide_eq_false (fun q=>nomatch q)
noncomputable def aV (prog:Program)(w:World):PySem.KeyKind prog w bW where
 is:=jw
 hash:=Qo w
 inj:=fun v a b ha hb=>by
  rcases b0 ha with ⟨i,t,rfl,rfl⟩ | ⟨x,t,rfl,rfl⟩
  ·rcases b0 hb with ⟨j,u,rfl,e⟩ | ⟨y,u,rfl,e⟩
   ·injection e with e1 _;rw[e1]
   ·exact nomatch e
  ·rcases b0 hb with ⟨j,u,rfl,e⟩ | ⟨y,u,rfl,e⟩
   ·exact nomatch e
   ·injection e with e1 _;rw[e1]
 byValue:=fun k v h=>by
  rcases b0 h with ⟨i,t,rfl,rfl⟩ | ⟨x,t,rfl,rfl⟩<;>rfl
 pyHash:=fun hv h=>by
  rcases b0 hv with ⟨i,t,rfl,rfl⟩ | ⟨x,t,rfl,rfl⟩
  ·exact wpAny_pyHash_int h
  ·exact wpAny_pyHash_str h
 eqBool:=fun hu hv h=>by
  rcases b0 hu with ⟨i,t,rfl,rfl⟩ | ⟨x,t,rfl,rfl⟩
  ·rcases b0 hv with ⟨j,u,rfl,rfl⟩ | ⟨y,u,rfl,rfl⟩
   ·rw[zx]at h;exact wpAny_eqBool_int h
   ·rw[zw]at h;exact SeqAt.EqAt.int_str i t y u _ _ _ _ h
  ·rcases b0 hv with ⟨j,u,rfl,rfl⟩ | ⟨y,u,rfl,rfl⟩
   ·rw[zt]at h;exact SeqAt.EqAt.str_int x t j u _ _ _ _ h
   ·rw[zr]at h;exact wpAny_eqBool_str h
 «strs»:=fun k x t v h=>by
  rcases b0 h with ⟨i,u,rfl,e⟩ | ⟨y,u,rfl,e⟩
  ·exact nomatch e
  ·injection e with e1 _
   subst e1
   cases v<;>rfl
theorem m9 (prog:Program)(w:World)(i:Int)(t:Tok):(aV prog w).is (.inl i) (.int i t)=true:=rj i t
theorem m8 (prog:Program)(w:World)(x:Str)(t:Tok):(aV prog w).is (.inr x) (.str x t)=true:=rh x t
end L2
namespace L2
open PySem PySem.Spec PyProof.Rows
inductive V where
 | Av | bl (b:Bool) | int (i:Int) | str (x:Str) | DF (b:Array UInt8) | HP (b:UInt64) | ref (a:Addr) | ty (n:String)
 deriving DecidableEq
noncomputable def RelV:V->Value->Prop
 | .Av,u=>u=Value.none
 | .bl b,u=>u=Value.bool b
 | .int i,u=>∃ t,u=Value.int i t
 | .str x,u=>∃ t,u=Value.str x t
 | .DF b,u=>∃ t,u=Value.bytes b t
 | .HP b,u=>∃ t,u=Value.float b t
 | .ref a,u=>u=Value.ref a
 | .ty n,u=>u=Value.type n
noncomputable abbrev Vals:List V->List Value->Prop:=Paired RelV
theorem Vals.length {xs:List V}{us:List Value}(r:Vals xs us):xs.length=us.length:=Paired.length r
theorem Vals.get:∀ {xs:List V}{us:List Value}{i:Nat}{x:V},Vals xs us->xs[i]? = some x->∃ u,us[i]? = some u/\RelV x u
 | _,_,_,_, .nil,e=>by simp at e
 | _,_,0,_, .cons r _,e=>by simp at e;subst e;exact⟨_,rfl,r⟩
 | _,_,i + 1,x, .cons _ t,e=>by
  obtain⟨u,h1,h2⟩:=Vals.get (i:=i) (x:=x) t (by simpa using e)
  exact⟨u,by simpa using h1,h2⟩
theorem Vals.set {x:V}{u:Value}(r:RelV x u):∀ {xs:List V}{us:List Value}(i:Nat),Vals xs us->Vals (xs.set i x) (us.set i u)
 | _,_,_, .nil => .nil
 | _,_,0, .cons _ t => .cons r t
 | _,_,i + 1, .cons q t => .cons q (Vals.set r i t)
theorem Vals.append:∀ {xs ys:List V}{us ws:List Value},Vals xs us->Vals ys ws->Vals (xs ++ ys) (us ++ ws)
 | _,_,_,_, .nil,s=>s
 | _,_,_,_, .cons r t,s => .cons r (Vals.append t s)
theorem Vals.take:∀ {xs:List V}{us:List Value}(n:Nat),Vals xs us->Vals (xs.take n) (us.take n)
 | _,_,0,_ => .nil
 | _,_,_ + 1, .nil => .nil
 | _,_,n + 1, .cons r t => .cons r (Vals.take n t)
theorem Vals.drop:∀ {xs:List V}{us:List Value}(n:Nat),Vals xs us->Vals (xs.drop n) (us.drop n)
 | _,_,0,r=>r
 | _,_,_ + 1, .nil => .nil
 | _,_,n + 1, .cons _ t=>Vals.drop n t
noncomputable def AY:Option V->Option Value->Prop
 | some v,some u=>RelV v u
 | none,none=>True
 | _,_=>False
noncomputable def KV {κ:Type}:List (κ × V)->List (κ × Value)->Prop:=Paired fun (p:κ × V)(q:κ × Value)=>p.1=q.1/\RelV p.2 q.2
noncomputable def kV:bW->V
 | .inl i => .int i
 | .inr x => .str x
inductive HO where
  | lst (xs:List V)
  | tup (xs:List V)
  | dK (kvs:List (bW × V)) | dT (kvs:List (List bW × V))
  | set (S:Int->Bool) (n:Nat)
  | ins (C dx:Addr) (fs:List (Str × V))
  | own (x:Addr)
  | xd (fs:List (Str × V))
  | met (f x:Addr)
  | O3 (lo hi:Int)
  | BJ (o:Obj) (u:HO)
  | BE (ps:Array Value)
  | ext (φ:Heap->Prop)
noncomputable abbrev Hp:=Addr->Option HO
noncomputable def upd (H:Hp)(a:Addr)(o:HO):Hp:=fun b=>if b=a then some o else H b
theorem ac {H:Hp}{a:Addr}{o:HO}:upd H a o a=some o:=by unfold upd;rw[if_pos rfl]
theorem ae {H:Hp}{a b:Addr}{o:HO}(h:b ≠ a):upd H a o b=H b:=by unfold upd;rw[if_neg h]
theorem aU {H:Hp}{a b:Addr}{o u:HO}(h:H a=some o)(h':H b=some u)(d:o ≠ u):a ≠ b:=by
 intro e;subst e;rw[h]at h';exact d (Option.some.inj h')
theorem ag {H:Hp}{a b:Addr}{o:HO}(h:H a=some o)(h':H b=none):a ≠ b:=by
 intro e;subst e;rw[h]at h';cases h'
noncomputable def Bq (h:Heap)(a:Addr)(items:Array Value):Prop:=∃ o,h.get? a=some o/\(o.cls = .type "tuple"/\∃ n,o.data = .seq items n)/\o.dict=none
theorem Bq.isTup {h:Heap}{a:Addr}{items:Array Value}:Bq h a items->IsTup h a items:=fun Af=>by obtain⟨o,e,c,_⟩:=Af;exact⟨o,e,c⟩
theorem Bq.new (h:Heap)(items:Array Value):Bq (h.push { cls := .type "tuple",data := .seq items }) h.objs.size items:=⟨_,Heap.get?_push_size _ rfl,⟨rfl,_,rfl⟩,rfl⟩
section
variable (P:Program)(w:World)
noncomputable def Ay (H:Hp)(h:Heap)(a:Addr):HO->Prop
 | .lst xs=>xs.length <= sizeLine/\∃ (Ag:List Value)(n:Nat),Vals xs Ag/\h.get? a=some { cls := .type "list",data := .seq Ag.toArray n }
 | .tup xs=>xs.length <= sizeLine/\∃ Ag:List Value,Vals xs Ag/\Bq h a Ag.toArray
 | .dK kvs=>kvs.length <= sizeLine/\(a == sysModules)=false/\∃ vs,KV kvs vs/\h.DictOf (aV P w) a vs
 | .dT kvs=>kvs.length <= sizeLine/\(a == sysModules)=false/\∃ xs:List (List bW × Addr × Value),
   Paired (fun (p:List bW × V)(q:List bW × Addr × Value)=>p.1=q.1/\H q.2.1=some (.tup (p.1.map kV))/\RelV p.2 q.2.2) kvs xs /\
   ∃ o es ep,h.get? a=some o/\o.ExactDict/\o.data = .dict es ep/\es.toList=xs.map (entryOfKey (tupleKind (aV P w)))/\(xs.map (·.1)).Nodup
 | .set S n=>h.SetOf (intKind P w) a S n
 | .ins C dx fs=>H dx=some (.own a)/\fs.length <= 1000/\dx ≠ a/\h.get? a=some (PySem.W.instObj C dx) /\
   ∃ mA,h.Ns1 dx mA/\(∀ f,AY (fs.lookup f) (mA f))/\PySem.Within mA (fs.map (·.1))
 | .own _=>∃ o,h.get? a=some o
 | .xd fs=>∃ mA,h.Ns1 a mA/\∀ f,AY (fs.lookup f) (mA f)
 | .O3 lo hi=>∃ t u v,h.get? a=some { cls := .type "range",data := .fields #[.int lo t, .int hi u, .int 1 v] }
 | .BJ o u=>h.get? a=some o/\Ay H h a u
 | .BE ps=>h.get? a=some { cls := .none,data := .fields ps }
 | .met f x=>h.get? a=some (PySem.W.methodObj (.ref f) (.ref x))
 | .ext φ=>φ h/\(∃ o,h.get? a=some o)/\∀ h1 h2:Heap,φ h1->(∀ o,h1.get? a=some o->h2.get? a=some o)->φ h2
noncomputable def Bk (H:Hp)(h:Heap):Prop:=∀ a o,H a=some o->Ay P w H h a o
end
section
variable {P:Program}{w:World}{H H':Hp}{h h':Heap}{a:Addr}{o:HO}
theorem Ay.lt (x:Ay P w H h a o):a < h.objs.size:=by
 cases o with
 | lst xs=>obtain⟨_,_,_,_,e⟩:=x;exact lt_size e
 | tup xs=>obtain⟨_,_,_,p⟩:=x;exact p.isTup.lt
 | dK kvs=>obtain⟨_,_,_,_,o,_,_,e,_⟩:=x;exact lt_size e
 | dT kvs=>obtain⟨_,_,_,_,o,_,_,e,_⟩:=x;exact lt_size e
 | set S n=>obtain⟨o,_,_,_,e,_⟩:=x;exact lt_size e
 | ins C dx fs=>obtain⟨_,_,_,e,_⟩:=x;exact lt_size e
 | own y=>obtain⟨_,e⟩:=x;exact lt_size e
 | xd fs=>obtain⟨_,⟨_,_,_,e,_⟩,_⟩:=x;exact lt_size e
 | O3 lo hi=>obtain⟨_,_,_,e⟩:=x;exact lt_size e
 | BJ ob u=>obtain⟨e,_⟩:=x;exact lt_size e
 | BE ps=>exact lt_size (show h.get? a=some _ from x)
 | met f y=>exact lt_size (show h.get? a=some _ from x)
 | ext φ=>obtain⟨_,⟨_,e⟩,_⟩:=x;exact lt_size e
theorem Paired.HQ {α β:Type}{F G:α->β->Prop}:∀ {l₁:List α}{l₂:List β},Paired F l₁ l₂->(∀ a b,F a b->G a b)->Paired G l₁ l₂
 | _,_, .nil,_ => .nil
 | _,_, .cons r t,f => .cons (f _ _ r) (Paired.HQ t f)
theorem Ay.BF (x:Ay P w H h a o)(k:∀ b u,(b=a∨H b=some (.own a))->h.get? b=some u->h'.get? b=some u)
  (ho:∀ b,H b=some (.own a)->H' b=some (.own a)) (ht:∀ b xs,H b=some (.tup xs)->H' b=some (.tup xs)):Ay P w H' h' a o:=by
 induction o with
 | lst xs=>obtain⟨z,Ag,n,r,e⟩:=x;exact⟨z,Ag,n,r,k _ _ (.inl rfl) e⟩
 | tup xs=>obtain⟨z,Ag,r,ob,e,c⟩:=x;exact⟨z,Ag,r,ob,k _ _ (.inl rfl) e,c⟩
 | dK kvs=>obtain⟨z,y,vs,r,ob,es,ep,e,c⟩:=x;exact⟨z,y,vs,r,ob,es,ep,k _ _ (.inl rfl) e,c⟩
 | dT kvs =>
  obtain⟨z,y,xs,r,ob,es,ep,e,c⟩:=x
  exact⟨z,y,xs,Paired.HQ r fun p q z=>⟨z.1,ht _ _ z.2.1,z.2.2⟩,ob,es,ep,k _ _ (.inl rfl) e,c⟩
 | set S n=>obtain⟨ob,es,ep,t,e,c⟩:=x;exact⟨ob,es,ep,t,k _ _ (.inl rfl) e,c⟩
 | ins C dx fs =>
  obtain⟨d,z,ne,e,mA,⟨od,es,ep,e2,c⟩,r⟩:=x
  exact⟨ho _ d,z,ne,k _ _ (.inl rfl) e,mA,⟨od,es,ep,k _ _ (.inr d) e2,c⟩,r⟩
 | own y=>obtain⟨ob,e⟩:=x;exact⟨ob,k _ _ (.inl rfl) e⟩
 | xd fs=>obtain⟨mA,⟨od,es,ep,e,c⟩,r⟩:=x;exact⟨mA,⟨od,es,ep,k _ _ (.inl rfl) e,c⟩,r⟩
 | O3 lo hi=>obtain⟨t,u,v,e⟩:=x;exact⟨t,u,v,k _ _ (.inl rfl) e⟩
 | BJ ob u ih=>obtain⟨e,q⟩:=x;exact⟨k _ _ (.inl rfl) e,ih q⟩
 | BE ps =>
  have e:h.get? a=some { cls := .none,data := .fields ps }:=x
  show h'.get? a=some { cls := .none,data := .fields ps }
  exact k a _ (.inl rfl) e
 | met f y =>
  have e:h.get? a=some (PySem.W.methodObj (.ref f) (.ref y)):=x
  show h'.get? a=some (PySem.W.methodObj (.ref f) (.ref y))
  exact k a _ (.inl rfl) e
 | ext φ=>obtain⟨p,⟨o,e⟩,st⟩:=x;exact⟨st _ _ p fun o q=>k _ _ (.inl rfl) q,⟨o,k _ _ (.inl rfl) e⟩,st⟩
theorem Bk.lt (x:Bk P w H h)(e:H a=some o):a < h.objs.size:=(x a o e).lt
theorem Bk.fresh (x:Bk P w H h)(e:h.objs.size <= a):H a=none:=by
 cases q:H a with
 | none=>rfl
 | some u=>exact absurd (lt_of_lt_of_le (x.lt q) e) (lt_irrefl _)
theorem Bk.kept (x:Bk P w H h)(k:∀ b u,h.get? b=some u->h'.get? b=some u):Bk P w H h':=fun a o e =>
 (x a o e).BF (fun b u _ q=>k b u q) (fun _ q=>q) fun _ _ q=>q
theorem Bk.laid (x:Bk P w H h)(k:∀ b u,h.get? b=some u->h'.get? b=some u)(hp:h.objs.size <= a)(new:Ay P w (upd H a o) h' a o):Bk P w (upd H a o) h':=fun b u e=>by
 have hn:=x.fresh hp
 by_cases hb:b=a
 ·subst hb;rw[ac]at e;cases e;exact new
 ·rw[ae hb]at e
  exact(x b u e).BF (fun c v _ q=>k c v q) (fun c q=>by rw[ae (ag q hn)];exact q) fun c xs q=>by rw[ae (ag q hn)];exact q
end
noncomputable def Rd (H:Hp)(a:Addr)(u:HO):Prop:=H a=some u∨∃ o,H a=some (.BJ o u)
theorem Rd.ok {P:Program}{w:World}{H:Hp}{h:Heap}{a:Addr}{u:HO}(r:Rd H a u)(x:Bk P w H h):Ay P w H h a u:=by
 rcases r with r | ⟨o,r⟩
 ·exact x a u r
 ·obtain⟨_,q⟩:=x a _ r
  exact q
noncomputable def Ka:Option HO->Prop
 | some (.lst _)=>True
 | some (.dK _)=>True
 | some (.dT _)=>True
 | some (.set _ _)=>True
 | some (.ins _ _ _)=>True
 | some (.ext _)=>True
 | _=>False
section
variable {P:Program}{w:World}{H:Hp}{h h':Heap}{x e:Addr}{o':HO}
theorem Bk.write (ok:Bk P w H h)(mu:Ka (H x))(he:e=x∨H e=some (.own x))(k:∀ b u,b ≠ e->h.get? b=some u->h'.get? b=some u)(Jn:∃ u,h'.get? e=some u)
  (new:Ay P w (upd H x o') h' x o'):Bk P w (upd H x o') h':=fun b u q=>by
 have Kb:∀ c y,H c=some (.own y)->c ≠ x:=fun c y r z=>by subst z;rw[r]at mu;exact mu
 have Qp:∀ c xs,H c=some (.tup xs)->c ≠ x:=fun c xs r z=>by subst z;rw[r]at mu;exact mu
 by_cases hb:b=x
 ·subst hb;rw[ac]at q;cases q;exact new
 ·rw[ae hb]at q
  by_cases Cv:b=e
  ·have q':H b=some (.own x):=by
    rcases he with z | z
    ·exact absurd (Cv.trans z) hb
    ·rw[Cv];exact z
   rw[q]at q';cases q'
   obtain⟨v,hv⟩:=Jn
   exact⟨v,by rw[Cv];exact hv⟩
  ·refine(ok b u q).BF (fun c v hc r=>k c v ?_ r) (fun c r=>by rw[ae (Kb c b r)];exact r) fun c xs r=>by rw[ae (Qp c xs r)];exact r
   rcases hc with rfl | hc
   ·exact Cv
   ·rintro rfl
    rcases he with z | z
    ·exact Kb c b hc z
    ·rw[hc]at z;cases z;exact hb rfl
end
structure Un (fs ex:List Addr)(H H':Hp)(h h':Heap):Prop where
 keep:∀ b o,h.get? b=some o->H b=none->b ∉ fs->b ∉ ex->h'.get? b=some o
 slot:∀ b o,h.get? b=some o->H b=none->b ∈ fs->b ∉ ex->∃ sl,h'.get? b=some { o with slots:=sl }
 free:∀ b o,h.get? b=some o->H b=none->b ∉ ex->H' b=none
 there:∀ b o,h.get? b=some o->b ∉ ex->∃ o',h'.get? b=some o'
 Ci:∀ b xs,H b=some (.tup xs)->H' b=some (.tup xs)
 BR:∀ b o u,H b=some (.BJ o u)->H' b=some (.BJ o u)
 BS:∀ b ps,H b=some (.BE ps)->∃ more,H' b=some (.BE (ps ++ more))
section
variable {fs AS ex Jo:List Addr}{H H1 H2:Hp}{h h1 h2 h':Heap}{a x e:Addr}{o:HO}
theorem Un.any (u:Un fs ex H H1 h h1){b:Addr}{ob:Obj}(q:h.get? b=some ob)(n:H b=none)(hx:b ∉ ex):∃ sl,h1.get? b=some { ob with slots:=sl }:=by
 by_cases hb:b ∈ fs
 ·exact u.slot b ob q n hb hx
 ·exact⟨ob.slots,u.keep b ob q n hb hx⟩
theorem Un.kept (k:∀ b u,h.get? b=some u->h'.get? b=some u):Un fs ex H H h h' :=
 ⟨fun b ob q _ _ _=>k b ob q,fun b ob q _ _ _=>⟨ob.slots,k b ob q⟩,fun _ _ _ n _=>n,fun b ob q _=>⟨ob,k b ob q⟩,fun _ _ q=>q,fun _ _ _ q=>q,fun _ ps q=>⟨#[],by rw[q];simp⟩⟩
theorem Un.refl:Un fs ex H H h h:=Un.kept fun _ _ q=>q
theorem Un.laid (k:∀ b u,h.get? b=some u->h'.get? b=some u)(hp:h.objs.size <= a)(hn:H a=none):Un fs ex H (upd H a o) h h' where
 keep:=fun b u q _ _ _=>k b u q
 slot:=fun b u q _ _ _=>⟨u.slots,k b u q⟩
 free:=fun b u q n _=>by rw[ae (ne_of_lt (lt_of_lt_of_le (lt_size q) hp))];exact n
 there:=fun b u q _=>⟨u,k b u q⟩
 Ci:=fun b xs q=>by rw[ae (ag q hn)];exact q
 BR:=fun b u xs q=>by rw[ae (ag q hn)];exact q
 BS:=fun b ps q=>⟨#[],by rw[ae (ag q hn),q];simp⟩
theorem Un.write (mu:Ka (H x))(he:e=x∨H e=some (.own x))(k:∀ b u,b ≠ e->h.get? b=some u->h'.get? b=some u)(Jn:∃ u,h'.get? e=some u):Un fs ex H (upd H x o) h h':=by
 have hx:∀ b,H b=none->b ≠ x:=fun b n z=>by subst z;rw[n]at mu;exact mu
 have hb:∀ b,H b=none->b ≠ e:=fun b n z=>by
  subst z
  rcases he with r | r
  ·exact hx b n r
  ·rw[n]at r;cases r
 have hm:∀ b u,H b=some u->¬ Ka (some u)->b ≠ x:=fun b u q nm z=>by subst z;rw[q]at mu;exact nm mu
 refine⟨fun b u q n _ _=>k b u (hb b n) q,fun b u q n _ _=>⟨u.slots,k b u (hb b n) q⟩,fun b u q n _=>by rw[ae (hx b n)];exact n,fun b u q _=>?_,
  fun b xs q=>by rw[ae (hm b _ q fun z=>z)];exact q,fun b u xs q=>by rw[ae (hm b _ q fun z=>z)];exact q,fun b ps q=>⟨#[],by rw[ae (hm b _ q fun z=>z),q];simp⟩⟩
 by_cases Cv:b=e
 ·subst Cv;exact Jn
 ·exact⟨u,k b u Cv q⟩
end
noncomputable def O4 (h:Heap)(H:Hp):List Addr:=(List.range h.objs.size).filter fun a=>(H a).isSome
noncomputable def jI (h:Heap)(H:Hp):Heap:=PySem.W.hideAll h (O4 h H)
theorem rn (h:Heap)(H:Hp):(jI h H).objs.size=h.objs.size:=PySem.W.hideAll_size _ _
theorem uJ {h:Heap}{H:Hp}{b:Addr}{o:Obj}(e:h.get? b=some o)(n:H b=none):(jI h H).get? b=some o :=
 PySem.W.hideAll_get _ e fun hm=>by
  have q:(H b).isSome=true:=(mem_filter.mp hm).2
  rw[n]at q;simp at q
theorem wH {h:Heap}{H:Hp}{b:Addr}{o:Obj}(e:(jI h H).get? b=some o):h.get? b=some o/\H b=none:=by
 have e':h.get? b=some o:=PySem.W.of_hideAll (O4 h H) e
 refine⟨e',?_⟩
 cases q:H b with
 | none=>rfl
 | some x =>
  have hm:b ∈ O4 h H:=mem_filter.mpr ⟨mem_range.mpr (lt_size e'),by simp[q]⟩
  have z:(jI h H).get? b=none:=PySem.W.hideAll_none (O4 h H) hm
  rw[z]at e;cases e
end L2
namespace L2
open PySem PySem.Spec PyProof.Rows
structure Mod (K:Frag)(mg:Str->Option Value)(base:Heap):Prop where
 CM:K.In base
 glob:base.Ns mainGlobals mg
 blt:∃ mb,base.Ns builtinsNs mb/\∀ x:Str,x ≠ "__name__"->mb x=bootBuiltins x
 nolimit:base.NoLimit
structure Cx where
 prog:Program
 w:World
 K:Frag
 mg:Str->Option Value
 base:Heap
 A:Around
 N:List Str
 s₀:Shared
 H₀:Hp
 env:Env
 outer:List Env
 stack:List Env
 ex:List Addr
 fn:Str->Bool
 calm:Bool
 pn:List (Addr × Obj)
 xe:Value->Shared->Prop
noncomputable def j2 (l:List Env):List Addr:=l.filterMap (·.frame)
noncomputable abbrev Cx.fs (X:Cx):List Addr:=j2 X.outer
noncomputable def Kc (sc:Scope)(x:Str):Prop:=sc.names.lookup x=some .local∨sc.names.lookup x=some .cell∨sc.names.lookup x=some .free
noncomputable def Loc (sc:Scope)(x:Str):Prop:=sc.names.lookup x=some .local∨sc.names.lookup x=some .cell
noncomputable def Look (env:Env)(h:Heap)(m:Str->Option Value)(x:Str)(u:Value):Prop :=
 (env.kindOf x=some .local/\m x=some u)∨((env.kindOf x=some .cell∨env.kindOf x=some .free)/\∃ c,env.cells.lookup x=some c/\h.IsCell c (some u))
structure Cx.Ok (X:Cx):Prop where
 mod:Mod X.K X.mg X.base
 kind:X.env.scope.kind = .function
 glob:X.env.globals=mainGlobals
 blt:X.env.builtins=builtinsNs
 above:X.s₀.heap.objs.size <= X.env.locals
 inj:∀ x y c,X.env.cells.lookup x=some c->X.env.cells.lookup y=some c->x=y
 has:∀ x,(X.env.kindOf x=some .cell∨X.env.kindOf x=some .free)->∃ c,X.env.cells.lookup x=some c
 Gz:∀ x c,X.fn x=true->X.env.cells.lookup x=some c->X.s₀.heap.objs.size <= c
 hd:X.calm=true->X.A.handled=none
 frames:X.A.frames=some X.stack
 Jp:X.stack=X.outer∨(X.stack=X.env :: X.outer/\X.env.frame=some X.env.locals)
 O5:∀ b ∈ X.ex,b ≠ X.env.locals/\∀ x c,X.env.cells.lookup x=some c->c ≠ b
 bs:∀ b o,X.base.get? b=some o->X.s₀.heap.get? b=some o/\X.H₀ b=none
 Ek:X.base.objs.size <= X.s₀.heap.objs.size
 Dx:∀ b o,X.base.get? b=some o->b ∉ X.ex
 DS:∀ b ∈ X.ex,b ∉ X.fs
 Bx:X.s₀.heap.FunFrames X.base X.outer
 EX:∀ b ∈ X.fs,X.H₀ b=none
structure Inv (X:Cx)(pins:List (Addr × Obj))(σ:List (Option V))(H:Hp)(s:Shared):Prop where
 ok:X.Ok
 os:s.os=X.s₀.os
 bare:AllBare s.gens
 base:Un X.fs X.ex X.H₀ H X.s₀.heap s.heap
 loc:∃ m,s.heap.Ns X.env.locals m/\∀ (i:Nat)(x:Str)(v:V),X.N[i]? = some x->σ[i]? = some (some v)->Kc X.env.scope x->∃ u,RelV v u/\Look X.env s.heap m x u
 cell:∀ x c,X.env.cells.lookup x=some c->∃ v,s.heap.IsCell c v
 free:H X.env.locals=none
 AL:∀ x c,X.env.cells.lookup x=some c->H c=none
 pin:∀ p ∈ X.pn ++ pins,s.heap.get? p.1=some p.2/\H p.1=none/\p.1 ≠ X.env.locals/\p.1 ∉ X.fs/\∀ v,p.2.data ≠ .cell v
 Aj:Bk X.prog X.w H s.heap
 len:σ.length=X.N.length
section
variable {X:Cx}{pins:List (Addr × Obj)}{σ:List (Option V)}{H H':Hp}{s:Shared}{h':Heap}
theorem Cx.Ok.Qq (ok:X.Ok){b:Addr}{o:Obj}(e:X.base.get? b=some o):b ∉ X.fs:=fun hb=>by
 have:=(ok.Bx.mem hb).1
 rw[e]at this;cases this
theorem Inv.bs (I:Inv X pins σ H s):∀ b o,X.base.get? b=some o->s.heap.get? b=some o/\H b=none:=fun b o e =>
 ⟨I.base.keep b o (I.ok.bs b o e).1 (I.ok.bs b o e).2 (I.ok.Qq e) (I.ok.Dx b o e),I.base.free b o (I.ok.bs b o e).1 (I.ok.bs b o e).2 (I.ok.Dx b o e)⟩
theorem Inv.bk (I:Inv X pins σ H s):∀ b o,X.base.get? b=some o->s.heap.get? b=some o:=fun b o e=>(I.bs b o e).1
theorem Inv.mod (I:Inv X pins σ H s):Mod X.K X.mg X.base:=I.ok.mod
theorem Inv.Bh (I:Inv X pins σ H s):X.K.In s.heap:=I.ok.mod.CM.keeps I.bk
theorem Inv.lt (I:Inv X pins σ H s):X.env.locals < s.heap.objs.size:=let ⟨_,hn,_⟩:=I.loc;hn.lt
theorem Inv.sz (I:Inv X pins σ H s):X.s₀.heap.objs.size <= s.heap.objs.size:=le_trans I.ok.above (le_of_lt I.lt)
theorem Inv.HR (I:Inv X pins σ H s){a:Addr}(h:s.heap.objs.size <= a):a ∉ X.fs:=fun hb=>by
 obtain⟨_,o,ho,_⟩:=I.ok.Bx.mem hb
 exact absurd (lt_of_lt_of_le (lt_size ho) (le_trans I.sz h)) (lt_irrefl _)
theorem Inv.E2 (I:Inv X pins σ H s):∀ x c,X.env.cells.lookup x=some c->c ≠ X.env.locals:=fun x c e z=>by
 obtain⟨v,o,ho,hd⟩:=I.cell x c e
 obtain⟨m,⟨o',es,ep,E3,HS,_⟩,_⟩:=I.loc
 rw[z,E3]at ho;cases ho;rw[HS]at hd;cases hd
theorem Inv.Bx (I:Inv X pins σ H s):s.heap.FunFrames X.base X.outer:=by
 have all:∀ (l:List Env),(∀ b ∈ j2 l,b ∈ X.fs)->X.s₀.heap.FunFrames X.base l->s.heap.FunFrames X.base l:=by
  intro l
  induction l with
  | nil=>intro _ _;trivial
  | cons env r ih =>
   intro hs hl
   obtain⟨hk,⟨L,o,hf,hn,ho,hd⟩,hr⟩:=hl
   have hL:L ∈ X.fs:=hs L (by unfold j2;rw[filterMap_cons,hf];exact mem_cons_self)
   obtain⟨sl,e⟩:=I.base.slot L o ho (I.ok.EX L hL) hL fun z=>I.ok.DS L z hL
   exact⟨hk,⟨L,_,hf,hn,e,hd⟩,ih (fun b hb=>hs b (by unfold j2;rw[filterMap_cons,hf];exact mem_cons_of_mem _ hb)) hr⟩
 exact all X.outer (fun _ hb=>hb) I.ok.Bx
theorem Inv.stack (I:Inv X pins σ H s):s.heap.FunFrames X.base X.stack:=by
 rcases I.ok.Jp with e | ⟨e,hf⟩
 ·rw[e];exact I.Bx
 ·rw[e]
  obtain⟨m,hn,_⟩:=I.loc
  refine .cons (by rw[I.ok.kind];decide) hf hn ?_ I.Bx
  exact Heap.get?_none_of_le (le_trans I.ok.Ek I.ok.above)
theorem Inv.Br (I:Inv X pins σ H s):∀ b ∈ j2 X.stack,b ∈ X.env.locals :: X.fs:=fun b hb=>by
 rcases I.ok.Jp with e | ⟨e,hf⟩
 ·rw[e]at hb;exact mem_cons_of_mem _ hb
 ·rw[e]at hb
  unfold j2 at hb
  rw[filterMap_cons,hf]at hb
  exact hb
theorem Inv.Cd (I:Inv X pins σ H s):∀ b ∈ j2 X.stack,H b=none:=fun b hb=>by
 rcases mem_cons.mp (I.Br b hb) with e | hb
 ·rw[e];exact I.free
 ·obtain⟨_,o,ho,_⟩:=I.ok.Bx.mem hb
  exact I.base.free b o ho (I.ok.EX b hb) fun z=>I.ok.DS b z hb
theorem Inv.step {g':Array GenState}{t':Nat}{d':Drawn}{ch:List Addr}(I:Inv X pins σ H s)
  (Cr:∀ b ∈ ch,(b ∈ X.ex∨X.s₀.heap.objs.size <= b)/\b ≠ X.env.locals/\(∀ x c,X.env.cells.lookup x=some c->c ≠ b)/\∀ p ∈ X.pn ++ pins,p.1 ≠ b)
  (keep:∀ b o,b ≠ X.env.locals->b ∉ X.fs->b ∉ ch->s.heap.get? b=some o->H b=none->h'.get? b=some o)
  (slot:∀ b o,b ≠ X.env.locals->b ∈ X.fs->b ∉ ch->s.heap.get? b=some o->H b=none->∃ sl,h'.get? b=some { o with slots:=sl }) (free:∀ b o,b ∉ ch->s.heap.get? b=some o->H b=none->H' b=none)
  (there:∀ b o,b ∉ ch->s.heap.get? b=some o->∃ o',h'.get? b=some o')
  (Ci:∀ b xs,H b=some (.tup xs)->H' b=some (.tup xs)) (BR:∀ b o u,H b=some (.BJ o u)->H' b=some (.BJ o u)) (BS:∀ b ps,H b=some (.BE ps)->∃ more,H' b=some (.BE (ps ++ more)))
  (ns:∀ m,s.heap.Ns X.env.locals m->h'.Ns X.env.locals m) (Aj:Bk X.prog X.w H' h') (hg:AllBare g') :
  Inv X pins σ H' { s with heap:=h',gens:=g',drawn:=d',toks:=t' }:=by
 have VJ:∀ b o,X.s₀.heap.get? b=some o->b ≠ X.env.locals:=fun b o e=>ne_of_lt (lt_of_lt_of_le (lt_size e) I.ok.above)
 have O6:∀ b o,X.s₀.heap.get? b=some o->b ∉ X.ex->b ∉ ch:=fun b o e hx hb=>by
  rcases (Cr b hb).1 with z | z
  ·exact hx z
  ·exact absurd (lt_of_lt_of_le (lt_size e) z) (lt_irrefl _)
 have cellK:∀ x c,X.env.cells.lookup x=some c->∀ v,s.heap.IsCell c v->h'.IsCell c v:=fun x c e v ⟨o,ho,hd⟩=>by
  have Kd:c ∉ ch:=fun z=>(Cr c z).2.2.1 x c e rfl
  by_cases hc:c ∈ X.fs
  ·obtain⟨sl,q⟩:=slot c o (I.E2 x c e) hc Kd ho (I.AL x c e)
   exact⟨_,q,hd⟩
  ·exact⟨o,keep c o (I.E2 x c e) hc Kd ho (I.AL x c e),hd⟩
 refine⟨I.ok,I.os,hg,⟨fun b o e n hb hx=>?_,fun b o e n hb hx=>?_,fun b o e n hx=>?_,fun b o e hx=>?_,fun b xs e=>Ci b xs (I.base.Ci b xs e),fun b o xs e=>BR b o xs (I.base.BR b o xs e),fun b ps e=>?_⟩,?_,fun x c e=>?_,?_,fun x c e=>?_,fun p hp=>?_,Aj,I.len⟩
 ·exact keep b o (VJ b o e) hb (O6 b o e hx) (I.base.keep b o e n hb hx) (I.base.free b o e n hx)
 ·obtain⟨sl,e1⟩:=I.base.slot b o e n hb hx
  obtain⟨sl',e2⟩:=slot b _ (VJ b o e) hb (O6 b o e hx) e1 (I.base.free b o e n hx)
  exact⟨sl',e2⟩
 ·obtain⟨o',e1⟩:=I.base.there b o e hx
  exact free b o' (O6 b o e hx) e1 (I.base.free b o e n hx)
 ·obtain⟨o',e1⟩:=I.base.there b o e hx
  exact there b o' (O6 b o e hx) e1
 ·obtain⟨m1,e1⟩:=I.base.BS b ps e
  obtain⟨m2,e2⟩:=BS b _ e1
  exact⟨m1 ++ m2,by rw[e2,Array.append_assoc]⟩
 ·obtain⟨m,hn,hl⟩:=I.loc
  refine⟨m,ns m hn,fun i x v e1 e2 e3=>?_⟩
  obtain⟨u,r,l⟩:=hl i x v e1 e2 e3
  refine⟨u,r,?_⟩
  rcases l with l | ⟨k,c,e,z⟩
  ·exact .inl l
  ·exact .inr ⟨k,c,e,cellK x c e _ z⟩
 ·obtain⟨v,z⟩:=I.cell x c e
  exact⟨v,cellK x c e v z⟩
 ·obtain⟨m,⟨o,_,_,ho,_⟩,_⟩:=I.loc
  exact free _ o (fun z=>(Cr _ z).2.1 rfl) ho I.free
 ·obtain⟨v,o,ho,hd⟩:=I.cell x c e
  exact free c o (fun z=>(Cr c z).2.2.1 x c e rfl) ho (I.AL x c e)
 ·obtain⟨e,n,ne,nf,d⟩:=I.pin p hp
  have Kd:p.1 ∉ ch:=fun z=>(Cr p.1 z).2.2.2 p hp rfl
  exact⟨keep p.1 p.2 ne nf Kd e n,free p.1 p.2 Kd e n,ne,nf,d⟩
theorem Inv.un {t':Nat}(I:Inv X pins σ H s)(u:Un X.fs [] H H' s.heap h')(Aj:Bk X.prog X.w H' h'):Inv X pins σ H' { s with heap:=h',toks:=t' }:=by
 obtain⟨m,⟨o,es,ep,ho,r⟩,_⟩:=id I.loc
 obtain⟨sl,hL⟩:=u.any ho I.free (by simp)
 exact I.step (g':=s.gens) (d':=s.drawn) (ch:=[]) (fun _ z=>nomatch z) (fun b o _ hb _ e n=>u.keep b o e n hb (by simp)) (fun b o _ hb _ e n=>u.slot b o e n hb (by simp)) (fun b o _ e n=>u.free b o e n (by simp)) (fun b o _ e=>u.there b o e (by simp)) u.Ci u.BR u.BS (fun m' hm=>by
  obtain⟨o',O7,Qr,E3,r'⟩:=hm
  rw[ho]at E3;cases E3
  exact⟨_,O7,Qr,hL,r'⟩) Aj I.bare
theorem Inv.call {g':Array GenState}{t':Nat}{d':Drawn}{ch:List Addr}(I:Inv X pins σ H s)(u:Un (j2 X.stack) ch H H' s.heap h')(Aj:Bk X.prog X.w H' h')(hg:AllBare g')
  (Cr:∀ b ∈ ch,(b ∈ X.ex∨X.s₀.heap.objs.size <= b)/\b ≠ X.env.locals/\(∀ x c,X.env.cells.lookup x=some c->c ≠ b)/\∀ p ∈ X.pn ++ pins,p.1 ≠ b) :
  Inv X pins σ H' { s with heap:=h',gens:=g',drawn:=d',toks:=t' }:=by
 obtain⟨m,⟨o,es,ep,ho,r⟩,_⟩:=id I.loc
 obtain⟨sl,hL⟩:=u.any ho I.free fun z=>(Cr _ z).2.1 rfl
 exact I.step (ch:=ch) Cr (fun b o hL hb hc e n=>u.keep b o e n (fun z=>(mem_cons.mp (I.Br b z)).elim hL hb) hc) (fun b o _ _ hc e n=>u.any e n hc) (fun b o hc e n=>u.free b o e n hc) (fun b o hc e=>u.there b o e hc) u.Ci u.BR u.BS (fun m' hm=>by
  obtain⟨o',O7,Qr,E3,r'⟩:=hm
  rw[ho]at E3;cases E3
  exact⟨_,O7,Qr,hL,r'⟩) Aj hg
theorem Inv.turned {t':Nat}{it:Addr}(I:Inv X pins σ H s)(k:∀ b o,b ≠ it->s.heap.get? b=some o->h'.get? b=some o)(hn:H it=none)(hL:it ≠ X.env.locals)
  (h1:it ∈ X.ex∨X.s₀.heap.objs.size <= it) (h2:∀ x c,X.env.cells.lookup x=some c->c ≠ it) (h3:∀ p ∈ X.pn ++ pins,p.1 ≠ it):Inv X pins σ H { s with heap:=h',toks:=t' }:=by
 have VL:∀ b u,H b=some u->b ≠ it:=fun b u e z=>by rw[z,hn]at e;cases e
 refine I.step (g':=s.gens) (d':=s.drawn) (ch:=[it]) (fun b hb=>?_) (fun b o _ _ hc e _=>k b o (fun z=>hc (by simp[z])) e) (fun b o _ _ hc e _=>⟨o.slots,k b o (fun z=>hc (by simp[z])) e⟩) (fun _ _ _ _ n=>n)
  (fun b o hc e=>⟨o,k b o (fun z=>hc (by simp[z])) e⟩) (fun _ _ e=>e) (fun _ _ _ e=>e) (fun b ps e=>⟨#[],by rw[e];simp⟩) (fun m hm=>?_) (fun b u e=>?_) I.bare
 ·have e:b=it:=by simpa using hb
  subst e
  exact⟨h1,hL,h2,h3⟩
 ·obtain⟨o,es,ep,ho,r⟩:=hm
  exact⟨o,es,ep,k _ o (Ne.symm hL) ho,r⟩
 ·refine(I.Aj b u e).BF (fun c v hc q=>k c v ?_ q) (fun _ q=>q) fun _ _ q=>q
  rcases hc with z | z
  ·rw[z];exact VL b u e
  ·exact VL c _ z
theorem Inv.tok (I:Inv X pins σ H s)(t:Nat):Inv X pins σ H { s with toks:=t }:=I.un (h':=s.heap) (t':=t) Un.refl I.Aj
theorem Inv.kept {t':Nat}(I:Inv X pins σ H s)(k:∀ b u,s.heap.get? b=some u->h'.get? b=some u):Inv X pins σ H { s with heap:=h',toks:=t' }:=I.un (Un.kept k) (I.Aj.kept k)
theorem Inv.laid {a:Addr}{o:HO}{t':Nat}(I:Inv X pins σ H s)(k:∀ b u,s.heap.get? b=some u->h'.get? b=some u)(hp:s.heap.objs.size <= a)(new:Ay X.prog X.w (upd H a o) h' a o) :
  Inv X pins σ (upd H a o) { s with heap:=h',toks:=t' }:=I.un (Un.laid k hp (I.Aj.fresh hp)) (I.Aj.laid k hp new)
theorem Inv.write {x e:Addr}{o:HO}{t':Nat}(I:Inv X pins σ H s)(mu:Ka (H x))(he:e=x∨H e=some (.own x))(k:∀ b u,b ≠ e->s.heap.get? b=some u->h'.get? b=some u)(Jn:∃ u,h'.get? e=some u)
  (new:Ay X.prog X.w (upd H x o) h' x o):Inv X pins σ (upd H x o) { s with heap:=h',toks:=t' }:=I.un (Un.write mu he k Jn) (I.Aj.write mu he k Jn new)
theorem Inv.Bi {pins':List (Addr × Obj)}(I:Inv X pins σ H s)(h:∀ p ∈ pins',s.heap.get? p.1=some p.2/\H p.1=none/\p.1 ≠ X.env.locals/\p.1 ∉ X.fs/\∀ v,p.2.data ≠ .cell v):Inv X pins' σ H s :=
 ⟨I.ok,I.os,I.bare,I.base,I.loc,I.cell,I.free,I.AL,fun p hp=>(mem_append.mp hp).elim (fun z=>I.pin p (mem_append_left _ z)) (h p),I.Aj,I.len⟩
theorem m6 {N:List Str}(hN:N.Nodup){i j:Nat}{x:Str}(a:N[i]? = some x)(b:N[j]? = some x):i=j:=by
 obtain⟨h1,e1⟩:=List.getElem?_eq_some_iff.mp a
 obtain⟨h2,e2⟩:=List.getElem?_eq_some_iff.mp b
 exact(List.getElem_inj hN).mp (e1.trans e2.symm)
theorem jO {M:Model}{A:Around}{E:Value->Shared->Prop}{i:Nat}{x:Str}{v:V}{u:Value}{Q:Unit->Shared->Prop}(I:Inv X pins σ H s)(hN:X.N.Nodup)(hi:X.N[i]? = some x)(hx:Loc X.env.scope x)(r:RelV v u)
  (h:∀ s',Inv X pins (σ.set i (some v)) H s'->(∃ a,Heap.SameBut a s.heap s'.heap/\(a=X.env.locals∨X.env.cells.lookup x=some a))->Q () s') (hf:X.fn x=true∨X.env.scope.names.lookup x=some .local:=by first | exact .inl rfl | exact .inr rfl | assumption):wpAny M A (storeName X.env x u) Q E s:=by
 obtain⟨m,hn,hl⟩:=id I.loc
 have Qs:(X.env.scope.kind == .class || (X.env.scope.kind == .module && X.env.locals != X.env.globals))=false:=by rw[I.ok.kind];rfl
 have Ke:i < σ.length:=by rw[I.len];exact(List.getElem?_eq_some_iff.mp hi).1
 have E2:=I.E2
 have tracked:∀ {a:Addr}{h':Heap},(∃ o,s.heap.get? a=some o/\H a=none)->Heap.SameBut a s.heap h'->Bk X.prog X.w H h':=fun {a h'} ha hs b ob e=>by
  obtain⟨_,_,G0⟩:=ha
  refine(I.Aj b ob e).BF (fun c w' hc q=>(hs.2 c ?_).trans q) (fun _ q=>q) fun _ _ q=>q
  rintro rfl
  rcases hc with rfl | hc
  ·rw[G0]at e;cases e
  ·rw[G0]at hc;cases hc
 rcases hx with hk | hk
 ·refine wpAny_storeName_local hk hn (fun h' CN hs=>?_) Qs
  obtain⟨oL,_,_,hoL,_⟩:=id hn
  refine h _ ⟨I.ok,I.os,I.bare,⟨fun b o e n hb hx=>?_,fun b o e n hb hx=>?_,I.base.free,fun b o e hx=>?_,I.base.Ci,I.base.BR,I.base.BS⟩,⟨_,CN,fun j y v' e1 e2 e3=>?_⟩,fun y c e=>?_,I.free,I.AL,fun p hp=>?_,tracked ⟨oL,hoL,I.free⟩ hs,by simpa using I.len⟩ ⟨_,hs, .inl rfl⟩
  ·exact(hs.2 b (ne_of_lt (lt_of_lt_of_le (lt_size e) I.ok.above))).trans (I.base.keep b o e n hb hx)
  ·obtain⟨sl,e1⟩:=I.base.slot b o e n hb hx
   exact⟨sl,(hs.2 b (ne_of_lt (lt_of_lt_of_le (lt_size e) I.ok.above))).trans e1⟩
  ·obtain⟨o',e1⟩:=I.base.there b o e hx
   exact⟨o',(hs.2 b (ne_of_lt (lt_of_lt_of_le (lt_size e) I.ok.above))).trans e1⟩
  ·by_cases hj:j=i
   ·subst hj
    rw[hi]at e1;cases e1
    rw[List.getElem?_set_self Ke]at e2
    cases e2
    exact⟨u,r, .inl ⟨hk,by simp⟩⟩
   ·rw[List.getElem?_set_ne (Ne.symm hj)]at e2
    obtain⟨u',r',q⟩:=hl j y v' e1 e2 e3
    refine⟨u',r',?_⟩
    rcases q with ⟨k,e⟩ | ⟨k,c,e,z⟩
    ·refine .inl ⟨k,?_⟩
     have:y ≠ x:=fun e=>hj (m6 hN e1 (e ▸ hi))
     simp[this,e]
    ·exact .inr ⟨k,c,e,z.sameBut hs (E2 y c e)⟩
  ·obtain⟨w',z⟩:=I.cell y c e
   exact⟨w',z.sameBut hs (E2 y c e)⟩
  ·obtain⟨e,n,ne,nf,d⟩:=I.pin p hp
   exact⟨(hs.2 p.1 ne).trans e,n,ne,nf,d⟩
 ·have Qt:X.fn x=true:=by
   rcases hf with z | z
   ·exact z
   ·rw[z]at hk;cases hk
  obtain⟨c,hc⟩:=I.ok.has x (.inl hk)
  obtain⟨w',z⟩:=I.cell x c hc
  refine wpAny_storeName_cell I.ok.kind hk hc z (fun h' El hs=>?_)
  obtain⟨oc,O8,Qu⟩:=id z
  refine h { s with heap:=h' } ⟨I.ok,I.os,I.bare,⟨fun b o e n hb hx=>?_,fun b o e n hb hx=>?_,I.base.free,fun b o e hx=>?_,I.base.Ci,I.base.BR,I.base.BS⟩,⟨m,hn.sameBut hs (Ne.symm (E2 x c hc)),fun j y v' e1 e2 e3=>?_⟩,fun y c' e=>?_,I.free,I.AL,fun p hp=>?_,tracked ⟨oc,O8,I.AL x c hc⟩ hs,by simpa using I.len⟩ ⟨c,hs, .inr hc⟩
  ·exact(hs.2 b (ne_of_lt (lt_of_lt_of_le (lt_size e) (I.ok.Gz x c Qt hc)))).trans (I.base.keep b o e n hb hx)
  ·obtain⟨sl,e1⟩:=I.base.slot b o e n hb hx
   exact⟨sl,(hs.2 b (ne_of_lt (lt_of_lt_of_le (lt_size e) (I.ok.Gz x c Qt hc)))).trans e1⟩
  ·obtain⟨o',e1⟩:=I.base.there b o e hx
   exact⟨o',(hs.2 b (ne_of_lt (lt_of_lt_of_le (lt_size e) (I.ok.Gz x c Qt hc)))).trans e1⟩
  ·by_cases hj:j=i
   ·subst hj
    rw[hi]at e1;cases e1
    rw[List.getElem?_set_self Ke]at e2
    cases e2
    exact⟨u,r, .inr ⟨.inl hk,c,hc,El⟩⟩
   ·rw[List.getElem?_set_ne (Ne.symm hj)]at e2
    obtain⟨u',r',q⟩:=hl j y v' e1 e2 e3
    refine⟨u',r',?_⟩
    rcases q with q | ⟨k,c',e,z'⟩
    ·exact .inl q
    ·refine .inr ⟨k,c',e,z'.sameBut hs ?_⟩
     rintro rfl
     exact hj (m6 hN e1 (I.ok.inj _ _ _ e hc ▸ hi))
  ·by_cases Jq:c' = c
   ·subst Jq;exact⟨_,El⟩
   ·obtain⟨w2,z2⟩:=I.cell y c' e
    exact⟨w2,z2.sameBut hs Jq⟩
  ·obtain⟨e,n,ne,nf,d⟩:=I.pin p hp
   refine⟨(hs.2 p.1 ?_).trans e,n,ne,nf,d⟩
   intro q
   rw[q,O8]at e
   have q':oc=p.2:=Option.some.inj e
   exact d w' (by rw[← q'];exact Qu)
theorem gi {M:Model}{A:Around}{E:Value->Shared->Prop}{i:Nat}{x:Str}{v:V}{u:Value}{Q:Unit->Shared->Prop}(I:Inv X pins σ H s)(hN:X.N.Nodup)(hi:X.N[i]? = some x)(hx:Loc X.env.scope x)(r:RelV v u)
  (h:∀ s',Inv X pins (σ.set i (some v)) H s'->Q () s') (hf:X.fn x=true∨X.env.scope.names.lookup x=some .local:=by first | exact .inl rfl | exact .inr rfl | assumption):wpAny M A (storeName X.env x u) Q E s :=
 jO I hN hi hx r (fun s' I' _=>h s' I') hf
theorem Inv.G5 {s':Shared}{ch:List Addr}(I:Inv X pins σ H s)(ho:s'.os=s.os)(u:Un (j2 X.stack) ch H H' s.heap s'.heap)(Aj:Bk X.prog X.w H' s'.heap)(hg:AllBare s'.gens)
  (Cr:∀ b ∈ ch,(b ∈ X.ex∨X.s₀.heap.objs.size <= b)/\b ≠ X.env.locals/\(∀ x c,X.env.cells.lookup x=some c->c ≠ b)/\∀ p ∈ X.pn ++ pins,p.1 ≠ b):Inv X pins σ H' s':=by
 obtain⟨h',g',d',t',o'⟩:=s'
 have e:o' = s.os:=ho
 subst e
 exact I.call (g':=g') (t':=t') (d':=d') u Aj hg Cr
end
noncomputable abbrev XK:=Value->Option Addr->Hp->Prop
noncomputable abbrev St:=List (Option V)
noncomputable abbrev VK:=V->Hp->Prop
noncomputable abbrev TE:=St->Hp->VK->Prop
noncomputable abbrev TT:=St->Hp->(Bool->Hp->Prop)->Prop
noncomputable abbrev TA:=St->Hp->(List V->Hp->Prop)->Prop
structure jL where
 nx:St->Hp->Prop
 rt:VK
 bk:St->Hp->Prop:=fun _ _=>False
 ct:St->Hp->Prop:=fun _ _=>False
noncomputable abbrev TS:=jL->St->Hp->Prop
noncomputable def EP (X:Cx)(pins:List (Addr × Obj))(σ:St)(Q:VK)(u:Value)(s':Shared):Prop:=∃ v H',Inv X pins σ H' s'/\RelV v u/\Q v H'
noncomputable def TP (X:Cx)(pins:List (Addr × Obj))(σ:St)(Q:Bool->Hp->Prop)(b:Bool)(s':Shared):Prop:=∃ H',Inv X pins σ H' s'/\Q b H'
noncomputable def AP (X:Cx)(pins:List (Addr × Obj))(σ:St)(Q:List V->Hp->Prop)(us:List Value)(s':Shared):Prop:=∃ vs H',Inv X pins σ H' s'/\Vals vs us/\Q vs H'
noncomputable def SP (X:Cx)(pins:List (Addr × Obj))(D:jL)(f:Flow)(s':Shared):Prop :=
 match f with
 | .next=>∃ σ' H',Inv X pins σ' H' s'/\D.nx σ' H'
 | .brk=>∃ σ' H',Inv X pins σ' H' s'/\D.bk σ' H'
 | .cont=>∃ σ' H',Inv X pins σ' H' s'/\D.ct σ' H'
 | .ret u=>∃ v σ' H',Inv X pins σ' H' s'/\RelV v u/\D.rt v H'
noncomputable def PE (X:Cx)(e:Expr)(t:TE):Prop :=
 ∀ (pins:List (Addr × Obj))(s:Shared)(σ:St)(H:Hp)(Q:VK),Inv X pins σ H s->t σ H Q->wpAny (model X.prog X.w) X.A (eval e X.env) (EP X pins σ Q) X.xe s
noncomputable def PT (X:Cx)(e:Expr)(t:TT):Prop :=
 ∀ (pins:List (Addr × Obj))(s:Shared)(σ:St)(H:Hp)(Q:Bool->Hp->Prop),Inv X pins σ H s->t σ H Q->wpAny (model X.prog X.w) X.A (isTrue e X.env (eval e X.env)) (TP X pins σ Q) X.xe s
noncomputable def PW (X:Cx)(e:Expr)(t:TT):Prop :=
 ∀ (whole:Sem Value)(pins:List (Addr × Obj))(s:Shared)(σ:St)(H:Hp)(Q:Bool->Hp->Prop),Inv X pins σ H s->t σ H Q->wpAny (model X.prog X.w) X.A (isTrue e X.env whole) (TP X pins σ Q) X.xe s
theorem PW.pt {X:Cx}{e:Expr}{t:TT}(h:PW X e t):PT X e t:=h _
noncomputable def PA (X:Cx)(es:List Expr)(t:TA):Prop :=
 ∀ (pos:Pos)(pins:List (Addr × Obj))(s:Shared)(σ:St)(H:Hp)(Q:List V->Hp->Prop),Inv X pins σ H s->t σ H Q->wpAny (model X.prog X.w) X.A (spliced (backTo pos (starEach es X.env))) (AP X pins σ Q) X.xe s
noncomputable def PS (X:Cx)(st:Stmt)(t:TS):Prop :=
 ∀ (pins:List (Addr × Obj))(s:Shared)(σ:St)(H:Hp)(D:jL),Inv X pins σ H s->t D σ H->wpAny (model X.prog X.w) X.A (exec st X.env) (SP X pins D) X.xe s
noncomputable def BK (X:Cx)(st:List Stmt)(t:TS):Prop :=
 ∀ (pins:List (Addr × Obj))(s:Shared)(σ:St)(H:Hp)(D:jL),Inv X pins σ H s->t D σ H->wpAny (model X.prog X.w) X.A (execs st X.env) (SP X pins D) X.xe s
theorem aR {α:Type}{t:Sem α}{Q Q':α->Shared->Prop}{M:Model}{A:Around}{E:Value->Shared->Prop}{s:Shared}(h:wpAny M A t Q E s)(hQ:∀ a s,Q a s->Q' a s):wpAny M A t Q' E s:=wpAny_mono h hQ fun _ _ x=>x
end L2
namespace L2
open PySem PySem.Spec PyProof.Rows
section
variable {X:Cx}
noncomputable def qC (i:Nat):TE:=fun σ H Q=>∃ v,σ[i]? = some (some v)/\Q v H
noncomputable def tC (v:V):TE:=fun _ H Q=>Q v H
theorem tQ {i:Nat}{x:Str}{pos:Pos}(hN:X.N[i]? = some x)(hv:Kc X.env.scope x)(hd:(x == ("__debug__":Str))=false:=by decide)(BG:(x == ("__classdict__":Str))=false:=by decide):PE X (.Name x pos) (qC i):=by
 intro pins s σ H Q I h
 obtain⟨v,e,h⟩:=h
 obtain⟨m,hn,hl⟩:=I.loc
 obtain⟨u,r,l⟩:=hl i x v hN e hv
 have fin:EP X pins σ Q u s:=⟨v,H,I,r,h⟩
 rcases l with ⟨hk,hm⟩ | ⟨hk,c,hc,BL⟩
 ·exact wpAny_Name (wpAny_loadName_local I.ok.kind hk hn hm fin) hd
 ·rcases hk with hk | hk
  ·exact wpAny_Name (wpAny_loadName_cell I.ok.kind hk hc BL fin) hd
  ·exact wpAny_Name (wpAny_loadName_free I.ok.kind hk hc BL fin BG) hd
theorem aj {i j pos}:PE X (.Constant (.int i) j pos) (tC (.int i)):=fun _ _ _ H _ I h=>wpAny_Constant_int ⟨.int i,H,I.tok _,⟨_,rfl⟩,h⟩
theorem jQ {b j pos}:PE X (.Constant (.bool b) j pos) (tC (.bl b)):=fun _ _ _ H _ I h=>Constant_bool ⟨.bl b,H,I,rfl,h⟩
theorem cv {j pos}:PE X (.Constant .none j pos) (tC .Av):=fun _ _ _ H _ I h=>Constant_none ⟨.Av,H,I,rfl,h⟩
theorem b8 {x j pos}:PE X (.Constant (.str x) j pos) (tC (.str x)):=fun _ _ _ H _ I h=>Calls.Constant_str ⟨.str x,H,I.tok _,⟨_,rfl⟩,h⟩
noncomputable def Gl (X:Cx)(x:Str):Prop:=X.env.kindOf x=some .globalImplicit
theorem fD {E:Value->Shared->Prop}{pins:List (Addr × Obj)}{s:Shared}{σ:St}{H:Hp}{x:Str}{u:Value}{pos:Pos}{Q:Value->Shared->Prop}(I:Inv X pins σ H s)(hg:Gl X x)(hm:X.mg x=some u)(h:Q u s)
  (hd:(x == ("__debug__":Str))=false:=by decide):wpAny (model X.prog X.w) X.A (eval (.Name x pos) X.env) Q E s :=
 Calls.Name_function_global I.ok.kind hg (Calls.loadGlobal_global (by rw[I.ok.glob];exact I.mod.glob.keeps I.bk) hm h) hd
theorem io {E:Value->Shared->Prop}{pins:List (Addr × Obj)}{s:Shared}{σ:St}{H:Hp}{x:Str}{u:Value}{pos:Pos}{Q:Value->Shared->Prop}(I:Inv X pins σ H s)(hg:Gl X x)(hm:X.mg x=none)(hv:bootBuiltins x=some u)(h:Q u s)
  (hn:x ≠ "__name__":=by decide) (hd:(x == ("__debug__":Str))=false:=by decide):wpAny (model X.prog X.w) X.A (eval (.Name x pos) X.env) Q E s:=by
 obtain⟨mb,h1,h2⟩:=I.mod.blt
 exact Calls.Name_function_global I.ok.kind hg (Calls.loadGlobal_builtin (by rw[I.ok.glob];exact I.mod.glob.keeps I.bk) hm (by rw[I.ok.blt];exact h1.keeps I.bk) ((h2 x hn).trans hv) h) hd
theorem eB {x:Str}{v:V}{u:Value}{pos:Pos}(hg:Gl X x)(hm:X.mg x=some u)(r:RelV v u)(hd:(x == ("__debug__":Str))=false:=by decide):PE X (.Name x pos) (tC v) :=
 fun _ _ _ H _ I h=>fD I hg hm ⟨v,H,I,r,h⟩ hd
theorem eC {x:Str}{v:V}{u:Value}{pos:Pos}(hg:Gl X x)(hm:X.mg x=none)(hv:bootBuiltins x=some u)(r:RelV v u)(hn:x ≠ "__name__":=by decide)(hd:(x == ("__debug__":Str))=false:=by decide):PE X (.Name x pos) (tC v) :=
 fun _ _ _ H _ I h=>io I hg hm hv ⟨v,H,I,r,h⟩ hn hd
variable {a b:Expr}{ta tb:TE}{pos:Pos}
noncomputable def PC (X:Cx)(op:CmpOp)(a b:Expr)(t:TE):Prop :=
 ∀ (pins:List (Addr × Obj))(s:Shared)(σ:St)(H:Hp)(Q:VK),Inv X pins σ H s->t σ H Q ->
  wpAny (model X.prog X.w) X.A (eval a X.env) (fun v s₁=>wpAny (model X.prog X.w) X.A (eval b X.env) (fun u s₂=>wpAny (model X.prog X.w) X.A (compareOp op v u) (EP X pins σ Q) X.xe s₂) X.xe s₁) X.xe s
noncomputable def tB (t:TE):TT:=fun σ H Q=>t σ H fun x H1=>∃ c,x = .bl c/\Q c H1
theorem tL {op:CmpOp}{t:TE}(h:PC X op a b t)(h1:behindInMarks op b=false:=by first | exact Kf _ (by decide) (by decide) | rfl):PT X (.Compare a [op] [b] pos) (tB t):=by
 intro pins s σ H Q I hw
 refine wpAny_isTrue_Compare1 (aR (h pins s σ H _ I hw) fun v s1 h1=>aR h1 fun u s2 h2=>aR h2 fun c s3 Af=>?_) h1
 obtain⟨x,H1,I1,r1,q1⟩:=Af
 obtain⟨d,rfl,q⟩:=q1
 cases r1
 exact wpAny_truthy_bool ⟨H1,I1,q⟩
theorem bF {e:Expr}{t:TE}(h:PE X e t)(he:∀ whole,isTrue e X.env whole=(do let v ← whole;standAt e.pos;holding [v] (truthy v)):=by intro _;rfl):PT X e (tB t):=by
 intro pins s σ H Q I hw
 refine isTrue_plain (aR (h pins s σ H _ I hw) fun v s1 Af=>?_) (he _)
 obtain⟨x,H1,I1,r1,q1⟩:=Af
 obtain⟨d,rfl,q⟩:=q1
 cases r1
 exact wpAny_truthy_bool ⟨H1,I1,q⟩
variable {tA O9:TT}{rest:List Expr}
noncomputable def Qv (t u:TT):TT:=fun σ H Q=>t σ H fun c H1=>if c=true then u σ H1 Q else Q false H1
noncomputable def tOr (t u:TT):TT:=fun σ H Q=>t σ H fun c H1=>if c=true then Q true H1 else u σ H1 Q
noncomputable def Qw (t:TT):TT:=fun σ H Q=>t σ H fun c H1=>Q (!c) H1
theorem iJ (ha:PT X a tA):PW X (.BoolOp .And [a] pos) tA:=by
 intro wh pins s σ H Q I h
 refine isTrue_and (aR (ha pins s σ H Q I h) fun c s1 e=>?_)
 cases c with
 | true=>exact isTrue_and_nil e
 | false=>exact e
theorem e9 (ha:PT X a tA):PW X (.BoolOp .Or [a] pos) tA:=by
 intro wh pins s σ H Q I h
 refine isTrue_or (aR (ha pins s σ H Q I h) fun c s1 e=>?_)
 cases c with
 | false=>exact isTrue_or_nil e
 | true=>exact e
theorem kT (ha:PT X a tA)(hb:PW X (.BoolOp .And (b :: rest) pos) O9):PW X (.BoolOp .And (a :: b :: rest) pos) (Qv tA O9):=by
 intro wh pins s σ H Q I h
 refine isTrue_and (aR (ha pins s σ H _ I h) fun c s1 Af=>?_)
 obtain⟨H1,I1,q1⟩:=Af
 cases c with
 | true=>exact hb wh pins s1 σ H1 Q I1 q1
 | false=>exact⟨H1,I1,q1⟩
theorem fK (ha:PT X a tA)(hb:PW X (.BoolOp .Or (b :: rest) pos) O9):PW X (.BoolOp .Or (a :: b :: rest) pos) (tOr tA O9):=by
 intro wh pins s σ H Q I h
 refine isTrue_or (aR (ha pins s σ H _ I h) fun c s1 Af=>?_)
 obtain⟨H1,I1,q1⟩:=Af
 cases c with
 | true=>exact⟨H1,I1,q1⟩
 | false=>exact hb wh pins s1 σ H1 Q I1 q1
theorem bS (ha:PT X a tA):PT X (.UnaryOp .Not a pos) (Qw tA):=by
 intro pins s σ H Q I h
 exact isTrue_not (ha pins s σ H (fun c H1=>Q (!c) H1) I h)
noncomputable def Kg (ta tb:TE):TE:=fun σ H Q=>ta σ H fun x H1=>∃ c,x = .bl c/\if c=true then tb σ H1 Q else Q (.bl false) H1
noncomputable def Qx (ta tb:TE):TE:=fun σ H Q=>ta σ H fun x H1=>∃ c,x = .bl c/\if c=true then Q (.bl true) H1 else tb σ H1 Q
noncomputable def Kh (ta:TE):TE:=fun σ H Q=>ta σ H fun x H1=>∃ c,x = .bl c/\Q (.bl (!c)) H1
theorem cX {op} {t:TE} (h:PE X a t):PE X (.BoolOp op [a] pos) t:=fun pins s σ H Q I hw=>BoolOp_one (h pins s σ H Q I hw)
theorem cY (ha:PE X a ta)(hb:PE X (.BoolOp .And (b :: rest) pos) tb):PE X (.BoolOp .And (a :: b :: rest) pos) (Kg ta tb):=by
 intro pins s σ H Q I h
 refine BoolOp_and (aR (ha pins s σ H _ I h) fun v s1 Af=>?_)
 obtain⟨x,H1,I1,r1,q1⟩:=Af
 obtain⟨c,rfl,q1⟩:=q1
 cases r1
 refine wpAny_truthy_bool ?_
 cases c with
 | true=>exact hb pins s1 σ H1 Q I1 q1
 | false=>exact⟨.bl false,H1,I1,rfl,q1⟩
theorem Ki (ha:PE X a ta)(hb:PE X (.BoolOp .Or (b :: rest) pos) tb):PE X (.BoolOp .Or (a :: b :: rest) pos) (Qx ta tb):=by
 intro pins s σ H Q I h
 refine BoolOp_or (aR (ha pins s σ H _ I h) fun v s1 Af=>?_)
 obtain⟨x,H1,I1,r1,q1⟩:=Af
 obtain⟨c,rfl,q1⟩:=q1
 cases r1
 refine wpAny_truthy_bool ?_
 cases c with
 | false=>exact hb pins s1 σ H1 Q I1 q1
 | true=>exact⟨.bl true,H1,I1,rfl,q1⟩
theorem tR (ha:PE X a ta):PE X (.UnaryOp .Not a pos) (Kh ta):=by
 intro pins s σ H Q I h
 refine UnaryOp_ (aR (ha pins s σ H _ I h) fun v s1 Af=>?_)
 obtain⟨x,H1,I1,r1,q1⟩:=Af
 obtain⟨c,rfl,q1⟩:=q1
 cases r1
 exact not_of (wpAny_truthy_bool ⟨.bl (!c),H1,I1,rfl,q1⟩)
noncomputable def tIf (t:TT)(ta tb:TE):TE:=fun σ H Q=>t σ H fun c H1=>if c=true then ta σ H1 Q else tb σ H1 Q
theorem c9 {c:Expr}(hc:PT X c tA)(ha:PE X a ta)(hb:PE X b tb):PE X (.IfExp c a b pos) (tIf tA ta tb):=by
 intro pins s σ H Q I h
 refine wpAny_IfExp (aR (hc pins s σ H _ I h) fun d s1 Af=>?_)
 obtain⟨H1,I1,q1⟩:=Af
 cases d with
 | true=>exact ha pins s1 σ H1 Q I1 q1
 | false=>exact hb pins s1 σ H1 Q I1 q1
end
end L2
namespace L2
open PySem PySem.Spec PyProof.Rows
noncomputable def Ah (K:Frag)(H:Hp)(a:Addr)(xs:List V):Prop :=
 Rd H a (.lst xs) ∨
  ∃ (o:Obj)(Ag:Array Value)(n:Nat),K.lookup a=some o/\o.cls = .type "list"/\o.dict=none/\o.data = .seq Ag n/\Ag.size <= sizeLine/\Vals xs Ag.toList
noncomputable def An (K:Frag)(H:Hp)(a:Addr)(xs:List V):Prop :=
 Rd H a (.tup xs) ∨
  ∃ (o:Obj)(Ag:Array Value)(n:Nat),K.lookup a=some o/\o.cls = .type "tuple"/\o.data = .seq Ag n/\Ag.size <= sizeLine/\Vals xs Ag.toList
noncomputable def Qy:Value->Option V
 | .none=>some .Av
 | .bool b=>some (.bl b)
 | .int i _=>some (.int i)
 | .str x _=>some (.str x)
 | .bytes b _=>some (.DF b)
 | .float b _=>some (.HP b)
 | .ref a=>some (.ref a)
 | .type n=>some (.ty n)
 | _=>none
theorem RelV.abs {x:V}{u:Value}(r:RelV x u):Qy u=some x:=by
 cases x with
 | Av=>cases r;rfl
 | bl _=>cases r;rfl
 | int _=>obtain⟨t,rfl⟩:=r;rfl
 | str _=>obtain⟨t,rfl⟩:=r;rfl
 | DF _=>obtain⟨t,rfl⟩:=r;rfl
 | HP _=>obtain⟨t,rfl⟩:=r;rfl
 | ref _=>cases r;rfl
 | ty _=>cases r;rfl
theorem RelV.inj {x y:V}{u:Value}(r:RelV x u)(q:RelV y u):x=y:=Option.some.inj (r.abs.symm.trans q.abs)
theorem Vals.inj:∀ {xs ys:List V}{us:List Value},Vals xs us->Vals ys us->xs=ys
 | _,_,_, .nil, .nil=>rfl
 | _,_,_, .cons r t, .cons r' t'=>by rw[r.inj r',Vals.inj t t']
section
variable {X:Cx}{pins:List (Addr × Obj)}{σ:St}{H:Hp}{s:Shared}{a:Addr}{xs ys:List V}
theorem Ah.of {K:Frag}(h:H a=some (.lst xs)):Ah K H a xs := .inl (.inl h)
theorem An.of {K:Frag}(h:H a=some (.tup xs)):An K H a xs := .inl (.inl h)
theorem Inv.list (I:Inv X pins σ H s)(h:Ah X.K H a xs):∃ Ag:List Value,Vals xs Ag/\PlainL s.heap a Ag.toArray/\xs.length <= sizeLine:=by
 rcases h with h | ⟨o,Ag,n,hk,hc,hd,hs,hz,r⟩
 ·obtain⟨z,Ag,n,r,e⟩:=h.ok I.Aj
  exact⟨Ag,r,⟨_,n,e,rfl,rfl,rfl⟩,z⟩
 ·refine⟨Ag.toList,r,⟨o,n,I.Bh a o hk,hc,hd,by simpa using hs⟩,?_⟩
  have e:=r.length
  simp only[Array.length_toList]at e
  omega
theorem Inv.tuple (I:Inv X pins σ H s)(h:An X.K H a xs):∃ Ag:List Value,Vals xs Ag/\IsTup s.heap a Ag.toArray/\xs.length <= sizeLine:=by
 rcases h with h | ⟨o,Ag,n,hk,hc,hs,hz,r⟩
 ·obtain⟨z,Ag,r,p⟩:=h.ok I.Aj
  exact⟨Ag,r,p.isTup,z⟩
 ·refine⟨Ag.toList,r,⟨o,I.Bh a o hk,hc,n,by simpa using hs⟩,?_⟩
  have e:=r.length
  simp only[Array.length_toList]at e
  omega
theorem Inv.CU (I:Inv X pins σ H s)(h:Ah X.K H a xs)(h':Ah X.K H a ys):xs=ys:=by
 obtain⟨Ag,r,⟨o,n,e,_,_,d⟩,_⟩:=I.list h
 obtain⟨its',r',⟨o',n',e',_,_,d'⟩,_⟩:=I.list h'
 rw[e]at e';cases e'
 rw[d]at d'
 injection d' with d1 _
 have:Ag=its':=by simpa using congrArg Array.toList d1
 subst this
 exact r.inj r'
theorem Inv.C1 (I:Inv X pins σ H s)(h:An X.K H a xs)(h':An X.K H a ys):xs=ys:=by
 obtain⟨Ag,r,⟨o,e,_,n,d⟩,_⟩:=I.tuple h
 obtain⟨its',r',⟨o',e',_,n',d'⟩,_⟩:=I.tuple h'
 rw[e]at e';cases e'
 rw[d]at d'
 injection d' with d1 _
 have:Ag=its':=by simpa using congrArg Array.toList d1
 subst this
 exact r.inj r'
end
noncomputable abbrev Cx.Cw (X:Cx)(E:Value->Shared->Prop):Cx:={ X with xe:=E }
noncomputable abbrev Cx.G6 (X:Cx):Cx:=X.Cw fun _ _=>False
theorem Cx.Ok.Cw {X:Cx}(ok:X.Ok)(E:Value->Shared->Prop):(X.Cw E).Ok :=
 ⟨ok.mod,ok.kind,ok.glob,ok.blt,ok.above,ok.inj,ok.has,ok.Gz,ok.hd,ok.frames,ok.Jp,ok.O5,ok.bs,ok.Ek,ok.Dx,ok.DS,ok.Bx,ok.EX⟩
theorem Cx.Ok.Bs {X:Cx}{E:Value->Shared->Prop}(ok:(X.Cw E).Ok):X.Ok :=
 ⟨ok.mod,ok.kind,ok.glob,ok.blt,ok.above,ok.inj,ok.has,ok.Gz,ok.hd,ok.frames,ok.Jp,ok.O5,ok.bs,ok.Ek,ok.Dx,ok.DS,ok.Bx,ok.EX⟩
section
variable {X:Cx}{pins:List (Addr × Obj)}{σ:St}{H:Hp}{s:Shared}{E:Value->Shared->Prop}
theorem Inv.Cw (I:Inv X pins σ H s)(E:Value->Shared->Prop):Inv (X.Cw E) pins σ H s:=⟨I.ok.Cw E,I.os,I.bare,I.base,I.loc,I.cell,I.free,I.AL,I.pin,I.Aj,I.len⟩
theorem Inv.Bs (I:Inv (X.Cw E) pins σ H s):Inv X pins σ H s:=⟨I.ok.Bs,I.os,I.bare,I.base,I.loc,I.cell,I.free,I.AL,I.pin,I.Aj,I.len⟩
theorem SP.Bs {D:jL}{f:Flow}{s':Shared}(h:SP (X.Cw E) pins D f s'):SP X pins D f s':=by
 cases f with
 | next=>obtain⟨σ',H',I,q⟩:=h;exact⟨σ',H',I.Bs,q⟩
 | brk=>obtain⟨σ',H',I,q⟩:=h;exact⟨σ',H',I.Bs,q⟩
 | cont=>obtain⟨σ',H',I,q⟩:=h;exact⟨σ',H',I.Bs,q⟩
 | ret u=>obtain⟨v,σ',H',I,r,q⟩:=h;exact⟨v,σ',H',I.Bs,r,q⟩
theorem BK.G6 {st:List Stmt}{t:TS}(h:BK X.G6 st t):BK X st t:=fun pins s σ H D I hw =>
 wpAny_mono (h pins s σ H D (I.Cw _) hw) (fun _ _ q=>q.Bs) fun _ _ z=>False.elim z
end
section
variable {X:Cx}{st:Stmt}{rest:List Stmt}{t u:TS}{e:Expr}{te:TE}{pos:Pos}
noncomputable def Kj:TS:=fun D σ H=>D.nx σ H
noncomputable def xW (t u:TS):TS:=fun D σ H=>t { D with nx:=u D } σ H
theorem aH:BK X [] Kj:=fun _ _ σ H _ I h=>wpAny_execs_nil ⟨σ,H,I,h⟩
theorem af (h1:PS X st t)(h2:BK X rest u):BK X (st :: rest) (xW t u):=by
 intro pins s σ H D I h
 refine wpAny_execs_cons (aR (h1 pins s σ H { D with nx:=u D } I h) fun f s1 q=>?_)
 cases f with
 | next =>
  obtain⟨σ',H',I',q⟩:=q
  exact h2 pins s1 σ' H' D I' q
 | ret v=>exact q
 | brk=>exact q
 | cont=>exact q
theorem ai (h1:PS X st t):BK X [st] t:=by
 intro pins s σ H D I h
 refine wpAny_execs_cons (aR (h1 pins s σ H D I h) fun f s1 q=>?_)
 cases f with
 | next=>exact wpAny_execs_nil q
 | ret v=>exact q
 | brk=>exact q
 | cont=>exact q
theorem Inv.quiet {pins:List (Addr × Obj)}{σ:St}{H:Hp}{s:Shared}(I:Inv X pins σ H s):interactive X.env=false:=by simp[interactive,I.ok.kind]
noncomputable def Kk (te:TE):TS:=fun D σ H=>te σ H fun _ H1=>D.nx σ H1
theorem aN (he:PE X e te)(hs:swapsWith e none pos.line X.env=pure false:=by rfl):PS X (.Expr e pos) (Kk te):=by
 intro pins s σ H D I h
 exact wpAny_Expr_any (aR (he pins s σ H _ I h) fun v s1 Af=>by obtain⟨x,H1,I1,r1,q1⟩:=Af;exact⟨σ,H1,I1,q1⟩) I.quiet hs
noncomputable def Qz (te:TE):TS:=fun D σ H=>te σ H D.rt
theorem ar (he:PE X e te):PS X (.Return (some e) pos) (Qz te):=by
 intro pins s σ H D I h
 exact wpAny_Return_some (aR (he pins s σ H _ I h) fun v s1 Af=>by obtain⟨x,H1,I1,r1,q1⟩:=Af;exact⟨x,σ,H1,I1,r1,q1⟩)
noncomputable def Q0 (c:TT)(t u:TS):TS:=fun D σ H=>c σ H fun b H1=>if b=true then t D σ H1 else u D σ H1
theorem aP {c:Expr}{a b:List Stmt}{tc:TT}(hc:PT X c tc)(ha:BK X a t)(hb:BK X b u):PS X (.If c a b pos) (Q0 tc t u):=by
 intro pins s σ H D I h
 refine wpAny_If (aR (hc pins s σ H _ I h) fun d s1 Af=>?_)
 obtain⟨H1,I1,q1⟩:=Af
 cases d with
 | true=>exact ha pins s1 σ H1 D I1 q1
 | false=>exact hb pins s1 σ H1 D I1 q1
end
noncomputable abbrev TG:=V->St->Hp->(St->Hp->Prop)->Prop
noncomputable abbrev zX:=List V->St->Hp->(St->Hp->Prop)->Prop
noncomputable def PG (X:Cx)(target:Expr)(t:TG):Prop :=
 ∀ (pins:List (Addr × Obj))(s:Shared)(σ:St)(H:Hp)(v:V)(u:Value)(Q:St->Hp->Prop),Inv X pins σ H s->RelV v u->t v σ H Q ->
  wpAny (model X.prog X.w) X.A (assign target X.env u) (fun _ s'=>∃ σ' H',Inv X pins σ' H' s'/\Q σ' H') X.xe s
noncomputable def OA (X:Cx)(ts:List Expr)(t:zX):Prop :=
 ∀ (pins:List (Addr × Obj))(s:Shared)(σ:St)(H:Hp)(vs:List V)(us:List Value)(Q:St->Hp->Prop),Inv X pins σ H s->Vals vs us->t vs σ H Q ->
  wpAny (model X.prog X.w) X.A (assignInOrder ((assignEach ts X.env).map (·.2)) us) (fun _ s'=>∃ σ' H',Inv X pins σ' H' s'/\Q σ' H') X.xe s
noncomputable abbrev zW:=V->V->V->Hp->(Hp->Prop)->Prop
noncomputable def Kl (X:Cx)(t:zW):Prop :=
 ∀ (pins:List (Addr × Obj))(s:Shared)(σ:St)(H:Hp)(o i v:V)(ov iv u:Value)(Q:Hp->Prop),Inv X pins σ H s->RelV o ov->RelV i iv->RelV v u->t o i v H Q ->
  wpAny (model X.prog X.w) X.A (setItem ov iv u) (fun _ s'=>∃ H',Inv X pins σ H' s'/\Q H') X.xe s
noncomputable abbrev OB:=V->V->Hp->VK->Prop
noncomputable def VM (X:Cx)(op:Operator)(t:OB):Prop :=
 ∀ (pins:List (Addr × Obj))(s:Shared)(σ:St)(H:Hp)(x y:V)(v u:Value)(Q:VK),Inv X pins σ H s->RelV x v->RelV y u->t x y H Q ->
  wpAny (model X.prog X.w) X.A (inplaceOp op v u) (EP X pins σ Q) X.xe s
section
variable {X:Cx}{pos:Pos}
noncomputable def dO (i:Nat):TG:=fun v σ H Q=>Q (σ.set i (some v)) H
theorem ay {i:Nat}{x:Str}(hN:X.N.Nodup)(hi:X.N[i]? = some x)(hx:Loc X.env.scope x)(hf:X.fn x=true∨X.env.scope.names.lookup x=some .local:=by first | exact .inl rfl | exact .inr rfl | assumption):PG X (.Name x pos) (dO i):=by
 intro pins s σ H v u Q I r h
 exact wpAny_assign_Name (gi I hN hi hx r (fun s' I'=>⟨_,H,I',h⟩) hf)
noncomputable def Q2:zX:=fun vs σ H Q=>vs=[]/\Q σ H
noncomputable def Km (t:TG)(u:zX):zX:=fun vs σ H Q=>∃ v r,vs=v :: r/\t v σ H fun σ' H'=>u r σ' H' Q
theorem gH:OA X [] Q2:=by
 intro pins s σ H vs us Q I r h
 obtain⟨e,h⟩:=h
 subst e
 cases r
 exact assignInOrder_nil ⟨σ,H,I,h⟩
theorem bZ {e:Expr}{es:List Expr}{t:TG}{u:zX}(h1:PG X e t)(h2:OA X es u)
  (hs:(assignEach (e :: es) X.env).map (·.2)=assign e X.env :: (assignEach es X.env).map (·.2):=by rfl):OA X (e :: es) (Km t u):=by
 intro pins s σ H vs us Q I r h
 obtain⟨v,vr,e1,h⟩:=h
 subst e1
 cases r with
 | cons r rr =>
  rw[hs]
  refine assignInOrder_cons (aR (h1 pins s σ H _ _ _ I r h) fun _ s1 Af=>?_)
  obtain⟨σ1,H1,I1,q1⟩:=Af
  exact h2 pins s1 σ1 H1 _ _ Q I1 rr q1
noncomputable def zF (K:Frag)(n:Nat)(t:zX):TG:=fun v σ H Q=>∃ a xs,v = .ref a/\An K H a xs/\xs.length=n/\t xs σ H Q
theorem jk {es:List Expr}{k:Nat}{t:zX}{n:Nat}(hc:X.calm=true)(h:OA X es t)
  (hn:(assignEach es X.env).length=n:=by rfl) (CV:(assignEach es X.env).findIdx? (·.1)=none:=by rfl):PG X (.Tuple es k pos) (zF X.K n t):=by
 intro pins s σ H v u Q I r hw
 obtain⟨a,xs,e1,hq,hl,hw⟩:=hw
 subst e1
 cases r
 obtain⟨Ag,rv,ht,hz⟩:=I.tuple hq
 refine assign_Tuple_tuple (I.ok.hd hc) ht (by simp[hn,← hl,rv.length]) CV fun h' hx=>?_
 have I1:Inv X pins σ H { s with heap:=h' }:=I.kept (t':=s.toks) fun b o e=>hx b o (ne_of_lt (lt_size e)) e
 exact h pins _ σ H xs _ Q I1 (by simpa using rv) hw
noncomputable def Q3 (to ti:TE)(t:zW):TG:=fun v σ H Q=>to σ H fun o H1=>ti σ H1 fun i H2=>t o i v H2 fun H3=>Q σ H3
theorem oA {o i:Expr}{to ti:TE}{t:zW}(ho:PE X o to)(hi:PE X i ti)(hs:Kl X t)
  (ha:∀ v,assign (.Subscript o i pos) X.env v=(do
   let ov ← holding [v] (eval o X.env)
   let iv ← holding [v,ov] (eval i X.env)
   standAt pos
   holding [v,ov,iv] (setItem ov iv v)
   release [v,ov,iv] []):=by intro _;rfl):PG X (.Subscript o i pos) (Q3 to ti t):=by
 intro pins s σ H v u Q I r h
 rw[ha]
 refine wpAny_bind (wpAny_holding (aR (ho pins s σ H _ I h) fun ov s1 Af=>?_))
 obtain⟨x,H1,I1,r1,q1⟩:=Af
 refine wpAny_bind (wpAny_holding (aR (hi pins s1 σ H1 _ I1 q1) fun iv s2 Af=>?_))
 obtain⟨y,H2,I2,r2,q2⟩:=Af
 refine wpAny_bind (wpAny_standAt (wpAny_bind (wpAny_holding (aR (hs pins s2 σ H2 x y v ov iv u _ I2 r1 r2 r q2) fun _ s3 Af=>?_))))
 obtain⟨H3,I3,q3⟩:=Af
 exact wpAny_release ⟨σ,H3,I3,q3⟩
noncomputable def yh (te:TE)(g:TG):TS:=fun D σ H=>te σ H fun x H1=>g x σ H1 D.nx
theorem kX {tg e:Expr}{te:TE}{g:TG}(he:PE X e te)(hg:PG X tg g)(hs:swapsWithSole [tg] e pos.line X.env=pure false:=by rfl)(hw:swappedStores [tg] e X.env=pure none:=by rfl)
  (h1:(assignEach [tg] X.env).map (·.2)=[assign tg X.env]:=by rfl):PS X (.Assign [tg] e pos) (yh te g):=by
 intro pins s σ H D I h
 refine wpAny_Assign_stores (aR (he pins s σ H _ I h) fun v s1 Af=>?_) hs hw
 obtain⟨x,H1,I1,r1,q1⟩:=Af
 rw[h1]
 exact aR (hg pins s1 σ H1 x v _ I1 r1 q1) fun _ s2 q=>q
theorem aA {i:Nat}{x:Str}{e:Expr}{te:TE}{pos':Pos}(hN:X.N.Nodup)(hi:X.N[i]? = some x)(hx:Loc X.env.scope x)(he:PE X e te)(hs:swapsWith e (some (.Name x pos')) pos.line X.env=pure false:=by rfl)(hf:X.fn x=true∨X.env.scope.names.lookup x=some .local:=by first | exact .inl rfl | exact .inr rfl | assumption) :
  PS X (.Assign [.Name x pos'] e pos) (yh te (dO i)):=by
 intro pins s σ H D I h
 refine wpAny_Assign_Name (aR (he pins s σ H _ I h) fun v s1 Af=>?_) hs
 obtain⟨y,H1,I1,r1,q1⟩:=Af
 exact gi I1 hN hi hx r1 (fun s2 I2=>⟨_,H1,I2,q1⟩) hf
noncomputable def Q4 (i:Nat)(te:TE)(ti:OB):TS:=fun D σ H=>∃ x,σ[i]? = some (some x)/\te σ H fun y H1=>ti x y H1 fun z H2=>D.nx (σ.set i (some z)) H2
theorem yH {i:Nat}{x:Str}{e:Expr}{te:TE}{op:Operator}{ti:OB}{pos':Pos}(hN:X.N.Nodup)(hi:X.N[i]? = some x)(hx:Loc X.env.scope x)(he:PE X e te)(ho:VM X op ti)(hf:X.fn x=true∨X.env.scope.names.lookup x=some .local:=by first | exact .inl rfl | exact .inr rfl | assumption) :
  PS X (.AugAssign (.Name x pos') op e pos) (Q4 i te ti):=by
 intro pins s σ H D I h
 obtain⟨v,e1,h⟩:=h
 obtain⟨m,hn,hl⟩:=I.loc
 have vis:Kc X.env.scope x:=by rcases hx with k | k;exact .inl k;exact .inr (.inl k)
 obtain⟨u,r,l⟩:=hl i x v hi e1 vis
 refine wpAny_AugAssign_Name ?_
 have go:wpAny (model X.prog X.w) X.A (eval e X.env) (fun w s₂=>wpAny (model X.prog X.w) X.A (inplaceOp op u w) (fun r s₃=>wpAny (model X.prog X.w) X.A (storeName X.env x r) (fun _=>SP X pins D .next) X.xe s₃) X.xe s₂) X.xe s:=by
  refine aR (he pins s σ H _ I h) fun w s1 Af=>?_
  obtain⟨y,H1,I1,r1,q1⟩:=Af
  refine aR (ho pins s1 σ H1 v y u w _ I1 r r1 q1) fun z s2 Af=>?_
  obtain⟨zv,H2,I2,r2,q2⟩:=Af
  exact gi I2 hN hi hx r2 (fun s3 I3=>⟨_,H2,I3,q2⟩) hf
 rcases l with ⟨hk,hm⟩ | ⟨hk,c,hc,BL⟩
 ·exact wpAny_loadName_local I.ok.kind hk hn hm go
 ·rcases hk with hk | hk
  ·exact wpAny_loadName_cell I.ok.kind hk hc BL go
  ·rcases hx with k | k
   ·have:X.env.scope.names.lookup x=some .free:=hk
    rw[k]at this;cases this
   ·have:X.env.scope.names.lookup x=some .free:=hk
    rw[k]at this;cases this
noncomputable def ipI (f:Int->Int->Int):OB:=fun x y H Q=>∃ i j,x = .int i/\y = .int j/\Q (.int (f i j)) H
theorem zA:VM X .Add (ipI fun i j=>i + j):=by
 intro pins s σ H x y v u Q I r1 r2 h
 obtain⟨i,j,e1,e2,q⟩:=h
 subst e1;subst e2
 obtain⟨t,rfl⟩:=r1
 obtain⟨t',rfl⟩:=r2
 exact iadd_int ⟨.int _,H,I.tok _,⟨_,rfl⟩,q⟩
end
section
variable {X:Cx}{pos:Pos}
noncomputable def xV (c:TT)(tb:TS):TS:=fun D σ H=>∃ W:Nat->St->Hp->Prop,(∃ m,W m σ H)/\∀ m σ H,W m σ H ->
 c σ H fun b H1=>if b=true then ∃ N:St->Hp->Prop,(∀ σ' H',N σ' H'->∃ m',m' < m/\W m' σ' H')/\tb { D with nx:=N,ct:=N,bk:=D.nx } σ H1 else D.nx σ H1
theorem lU {c:Expr}{body:List Stmt}{tc:TT}{tb:TS}(hp:PassesOwn (model X.prog X.w) X.A X.env X.xe)(hc:PT X c tc)(hb:BK X body tb):PS X (.While c body [] pos) (xV tc tb):=by
 intro pins s σ H D I h
 obtain⟨W,⟨m0,w0⟩,turn⟩:=h
 refine wpAny_While (codeAny_whileLoop (fun n s'=>∃ σ' H',Inv X pins σ' H' s'/\W n σ' H') ?_ m0 ⟨σ,H,I,w0⟩)
 rintro n s1 ⟨σ1,H1,I1,w1⟩
 refine wpAny_passesOwn hp (aR (hc pins s1 σ1 H1 _ I1 (turn n σ1 H1 w1)) fun b s2 Af=>?_)
 obtain⟨H2,I2,q2⟩:=Af
 cases b with
 | true =>
  obtain⟨N,hN,q2⟩:=q2
  rw[if_pos rfl]
  refine wpAny_passesOwn hp (aR (hb pins s2 σ1 H2 _ I2 q2) fun f s3 q3=>?_)
  cases f with
  | next =>
   obtain⟨σ3,H3,I3,n3⟩:=q3
   obtain⟨m',hm,w3⟩:=hN σ3 H3 n3
   exact⟨m',hm,σ3,H3,I3,w3⟩
  | cont =>
   obtain⟨σ3,H3,I3,n3⟩:=q3
   obtain⟨m',hm,w3⟩:=hN σ3 H3 n3
   exact⟨m',hm,σ3,H3,I3,w3⟩
  | brk=>exact q3
  | ret v=>exact q3
 | false =>
  rw[if_neg Bool.false_ne_true]
  exact wpAny_execs_nil ⟨σ1,H2,I2,q2⟩
end
structure It where
 go:Nat->Hp->Prop
 EY:Nat->Hp->V->Hp->Prop
 stop:Nat->Hp->Prop
noncomputable def fH (X:Cx)(pins:List (Addr × Obj))(H:Hp)(b:Addr):Prop :=
 H b=none/\b ≠ X.env.locals/\b ∉ X.fs/\(b ∈ X.ex∨X.s₀.heap.objs.size <= b)/\(∀ x c,X.env.cells.lookup x=some c->c ≠ b)/\∀ p ∈ X.pn ++ pins,p.1 ≠ b
theorem Inv.DT {X:Cx}{pins:List (Addr × Obj)}{σ:St}{H H':Hp}{s:Shared}{b:Addr}(I:Inv X pins σ H s)(hb:s.heap.objs.size <= b)(hn:H' b=none):fH X pins H' b:=by
 refine⟨hn,ne_of_gt (lt_of_lt_of_le I.lt hb),I.HR hb, .inr (le_trans I.sz hb),fun x c e z=>?_,fun p hp z=>?_⟩
 ·obtain⟨v,q⟩:=I.cell x c e
  exact absurd (lt_of_lt_of_le q.lt (by rw[z];exact hb)) (lt_irrefl _)
 ·exact absurd (lt_of_lt_of_le (lt_size (I.pin p hp).1) (by rw[z];exact hb)) (lt_irrefl _)
structure nu (P:Program)(w:World)(K:Frag)(tg:Expr)(J:It)(fp:List Addr)(it:Addr)(tn:Nat->Heap->Prop):Prop where
 mem:it ∈ fp
 obj:∀ i h,tn i h->∀ b ∈ fp,∃ o,h.get? b=some o/\∀ v,o.data ≠ .cell v
 keep:∀ i h h',tn i h->(∀ b ∈ fp,∀ o,h.get? b=some o->h'.get? b=some o)->tn i h'
 item:∀ (X:Cx),X.prog=P->X.w=w->X.K=K->X.calm=true->∀ (i:Nat)(pins:List (Addr × Obj))(s:Shared)(σ:St)(H:Hp)(E:Value->Shared->Prop),Inv X pins σ H s->(∀ b ∈ fp,fH X pins H b)->tn i s.heap->J.go i H ->
  wpAny (model P w) X.A (pyNext (.ref it)) (fun r s1=>∃ u,r=some u /\
   wpAny (model P w) X.A (letOwnedTupleGo tg (.ref it) u) (fun _ s2=>∃ x H',Inv X pins σ H' s2/\RelV x u/\J.EY i H x H'/\tn (i + 1) s2.heap/\∀ b ∈ fp,H' b=none) E s1) E s
 done:∀ (X:Cx),X.prog=P->X.w=w->X.K=K->X.calm=true->∀ (i:Nat)(pins:List (Addr × Obj))(s:Shared)(σ:St)(H:Hp)(E:Value->Shared->Prop),Inv X pins σ H s->(∀ b ∈ fp,fH X pins H b)->tn i s.heap->J.stop i H ->
  wpAny (model P w) X.A (pyNext (.ref it)) (fun r s1=>r=none/\Inv X pins σ H s1) E s
 self:∀ (A:Around)(i:Nat)(s:Shared)(Q:Value->Shared->Prop)(E:Value->Shared->Prop),tn i s.heap->Q (.ref it) s->wpAny (model P w) A (pyIter (.ref it)) Q E s
noncomputable abbrev TI:=St->Hp->(It->Hp->Prop)->Prop
noncomputable def VN (X:Cx)(pins:List (Addr × Obj))(σ:St)(tg:Expr)(R:It->Hp->Prop)(OC:Value)(s2:Shared):Prop :=
 ∃ (it:Addr)(fp:List Addr)(tn:Nat->Heap->Prop)(J:It)(H':Hp),OC = .ref it/\Inv X pins σ H' s2/\nu X.prog X.w X.K tg J fp it tn/\tn 0 s2.heap/\(∀ b ∈ fp,fH X pins H' b)/\R J H'
noncomputable def PI (X:Cx)(tg iter:Expr)(wi:TI):Prop :=
 ∀ (pins:List (Addr × Obj))(s:Shared)(σ:St)(H:Hp)(R:It->Hp->Prop),Inv X pins σ H s->wi σ H R ->
  wpAny (model X.prog X.w) X.A (eval iter X.env) (fun v s1=>wpAny (model X.prog X.w) X.A (pyIter v) (VN X pins σ tg R) X.xe s1) X.xe s
theorem qk {M:Model}{A:Around}{E:Value->Shared->Prop}{s:Shared}{tg:Expr}{it:Addr}{u:Value}{o:Obj}{n:String}{vs:Array Value}{Q:Unit->Shared->Prop}(ho:s.heap.get? it=some o)(hc:o.cls = .type n)(hd:o.data = .fields vs)
  (hn:["enumerate", "zip", "dict_itemiterator", "dict_reverseitemiterator", "odict_iterator", "itertools.zip_longest", "itertools.pairwise"].contains n=false) (hQ:Q () s):wpAny M A (letOwnedTupleGo tg (.ref it) u) Q E s:=by
 unfold letOwnedTupleGo
 cases tg<;>first
  | exact wpAny_pure hQ
  | (cases u<;>first
    | exact wpAny_pure hQ
    | (refine wpAny_bind (wpAny_load ho ?_)
       rw[hc,hd]
       show wpAny M A (if (["enumerate", "zip", "dict_itemiterator", "dict_reverseitemiterator", "odict_iterator", "itertools.zip_longest", "itertools.pairwise"].contains n && vs[0]? == some (rawInt _))=true then _ else _) Q E s
       rw[if_neg (by intro h;rw[hn,Bool.false_and]at h;cases h)]
       exact wpAny_pure hQ))
noncomputable def xq (K:Frag)(a:Addr):It :=
 ⟨fun i H=>∃ xs x,Ah K H a xs/\xs[i]? = some x,fun i H x H'=>H' = H/\∀ xs,Ah K H a xs->xs[i]? = some x,fun i H=>∃ xs,Ah K H a xs/\xs.length <= i⟩
noncomputable def OD (K:Frag)(a:Addr):It :=
 ⟨fun i H=>∃ xs x,An K H a xs/\xs[i]? = some x,fun i H x H'=>H' = H/\∀ xs,An K H a xs->xs[i]? = some x,fun i H=>∃ xs,An K H a xs/\xs.length <= i⟩
noncomputable def vn (lo:Int)(n:Nat):It:=⟨fun i _=>i < n,fun i H x H'=>H' = H/\x = .int (lo + i),fun i _=>n <= i⟩
theorem q5 {P:Program}{w:World}{K:Frag}{tg:Expr}(a it:Addr):nu P w K tg (xq K a) [it] it (fun i h=>h.IsListIter it a i) where
 mem:=by simp
 obj:=fun i h st b hb=>by
  have e:b=it:=by simpa using hb
  subst e
  obtain⟨o,e,c,d⟩:=st
  exact⟨o,e,fun v z=>by rw[d]at z;cases z⟩
 keep:=fun i h h' st k=>st.at fun o e=>k it (by simp) o e
 item:=by
  intro X hP hw hK hc i pins s σ H E I hf st hg
  subst hP hw hK
  obtain⟨xs,x,hq,hx⟩:=hg
  obtain⟨Ag,rv,p,hz⟩:=I.list hq
  obtain⟨u,hu,ru⟩:=rv.get hx
  obtain⟨f0,f1,f2,f3,f4,f5⟩:=hf it (by simp)
  refine wpAny_pyNext_list_item st p.isList (x:=u) (by simpa using hu) fun h' Em sb=>?_
  have I1:Inv X pins σ H { s with heap:=h' }:=I.turned (t':=s.toks) (fun b o hb e=>(sb.2 b hb).trans e) f0 f1 f3 f4 f5
  obtain⟨o,e,c,d⟩:=id Em
  exact⟨u,rfl,qk (s:={ s with heap:=h' }) e c d (by decide) ⟨x,H,I1,ru,⟨rfl,fun ys hy=>by rw[I.CU hy hq];exact hx⟩,Em,fun b hb=>(hf b hb).1⟩⟩
 done:=by
  intro X hP hw hK hc i pins s σ H E I hf st hg
  subst hP hw hK
  obtain⟨xs,hq,hx⟩:=hg
  obtain⟨Ag,rv,p,hz⟩:=I.list hq
  obtain⟨f0,f1,f2,f3,f4,f5⟩:=hf it (by simp)
  have hl:=rv.length
  exact wpAny_pyNext_list_end (I.ok.hd hc) st p.isList (by simp;omega) fun h' eb=>⟨rfl,I.turned (t':=s.toks) (fun b o hb e=>eb b o hb e) f0 f1 f3 f4 f5⟩
 self:=fun _ _ _ _ _ st h=>wpAny_pyIter_listiter st h
theorem n9 {P:Program}{w:World}{K:Frag}{tg:Expr}(a it:Addr):nu P w K tg (OD K a) [it] it (fun i h=>h.IsTupleIter it a i) where
 mem:=by simp
 obj:=fun i h st b hb=>by
  have e:b=it:=by simpa using hb
  subst e
  obtain⟨o,e,c,d⟩:=st
  exact⟨o,e,fun v z=>by rw[d]at z;cases z⟩
 keep:=fun i h h' st k=>st.at fun o e=>k it (by simp) o e
 item:=by
  intro X hP hw hK hc i pins s σ H E I hf st hg
  subst hP hw hK
  obtain⟨xs,x,hq,hx⟩:=hg
  obtain⟨Ag,rv,p,hz⟩:=I.tuple hq
  obtain⟨u,hu,ru⟩:=rv.get hx
  obtain⟨f0,f1,f2,f3,f4,f5⟩:=hf it (by simp)
  refine wpAny_pyNext_tuple_item st (show s.heap.IsTuple a Ag.toArray from p) (x:=u) (by simpa using hu) fun h' Em sb=>?_
  have I1:Inv X pins σ H { s with heap:=h' }:=I.turned (t':=s.toks) (fun b o hb e=>(sb.2 b hb).trans e) f0 f1 f3 f4 f5
  obtain⟨o,e,c,d⟩:=id Em
  exact⟨u,rfl,qk (s:={ s with heap:=h' }) e c d (by decide) ⟨x,H,I1,ru,⟨rfl,fun ys hy=>by rw[I.C1 hy hq];exact hx⟩,Em,fun b hb=>(hf b hb).1⟩⟩
 done:=by
  intro X hP hw hK hc i pins s σ H E I hf st hg
  subst hP hw hK
  obtain⟨xs,hq,hx⟩:=hg
  obtain⟨Ag,rv,p,hz⟩:=I.tuple hq
  obtain⟨f0,f1,f2,f3,f4,f5⟩:=hf it (by simp)
  have hl:=rv.length
  exact wpAny_pyNext_tuple_end (I.ok.hd hc) st (show s.heap.IsTuple a Ag.toArray from p) (by simp;omega) fun h' eb=>⟨rfl,I.turned (t':=s.toks) (fun b o hb e=>eb b o hb e) f0 f1 f3 f4 f5⟩
 self:=fun _ _ _ _ _ st h=>wpAny_pyIter_tupleiter st h
theorem nA {P:Program}{w:World}{K:Frag}{tg:Expr}(it:Addr)(lo:Int)(n:Nat):nu P w K tg (vn lo n) [it] it (fun i h=>IsRangeIter h it (lo + (i:Nat) * 1) ((n:Int) - (i:Nat)) 1) where
 mem:=by simp
 obj:=fun i h st b hb=>by
  have e:b=it:=by simpa using hb
  subst e
  exact⟨_,st,fun v z=>by
   have z':Data.fields _=Data.cell v:=z
   cases z'⟩
 keep:=fun i h h' st k=>k it (by simp) _ st
 item:=by
  intro X hP hw hK hc i pins s σ H E I hf st hg
  subst hP hw hK
  obtain⟨f0,f1,f2,f3,f4,f5⟩:=hf it (by simp)
  have W:=Walks.range (prog:=X.prog) (w:=X.w) (I.ok.hd hc) it lo 1 n
  refine W.item i s _ _ hg st fun v h' tk hv Em kk=>?_
  obtain⟨t,rfl⟩:=hv
  have I1:Inv X pins σ H { s with heap:=h',toks:=tk }:=I.turned (fun b o hb e=>kk b o (by simpa using hb) e) f0 f1 f3 f4 f5
  refine⟨_,rfl,qk (s:={ s with heap:=h',toks:=tk }) (n := "range_iterator") Em rfl rfl (by decide) ⟨.int (lo + i),H,I1,⟨t,?_⟩,⟨rfl,rfl⟩,Em,fun b hb=>(hf b hb).1⟩⟩
  rw[Int.mul_one]
 done:=by
  intro X hP hw hK hc i pins s σ H E I hf st hg
  subst hP hw hK
  obtain⟨f0,f1,f2,f3,f4,f5⟩:=hf it (by simp)
  exact wpAny_pyNext_range_end (I.ok.hd hc) st (by have:n <= i:=hg;omega) fun h' eb=>⟨rfl,I.turned (t':=s.toks) (fun b o hb e=>eb b o hb e) f0 f1 f3 f4 f5⟩
 self:=fun _ _ _ _ _ st h=>wpAny_pyIter_rangeiter st h
end L2
namespace L2
open PySem PySem.Spec PyProof.Rows
section
variable {X:Cx}{tg:Expr}
noncomputable def Kn (K:Frag)(tl:TE):TI:=fun σ H R=>tl σ H fun x H1=>∃ a,x = .ref a/\(∃ xs,Ah K H1 a xs)/\R (xq K a) H1
noncomputable def Q5 (K:Frag)(tl:TE):TI:=fun σ H R=>tl σ H fun x H1=>∃ a,x = .ref a/\(∃ xs,An K H1 a xs)/\R (OD K a) H1
theorem cb {l:Expr}{tl:TE}(hl:PE X l tl):PI X tg l (Kn X.K tl):=by
 intro pins s σ H R I h
 refine aR (hl pins s σ H _ I h) fun v s1 Af=>?_
 obtain⟨x,H1,I1,r1,q1⟩:=Af
 obtain⟨a,e,⟨xs,hq⟩,q⟩:=q1
 subst e
 cases r1
 obtain⟨Ag,rv,p,hz⟩:=I1.list hq
 refine wpAny_pyIter_list p.isList ?_
 refine⟨s1.heap.objs.size,[s1.heap.objs.size],_,_,H1,rfl,I1.kept (t':=s1.toks) fun b o e=>Heap.get?_push_of_some _ e,q5 a _,⟨_,Heap.get?_push_size _ rfl,rfl,rfl⟩,fun b hb=>?_,q⟩
 have e:b=s1.heap.objs.size:=by simpa using hb
 subst e
 exact I1.DT (le_refl _) (I1.Aj.fresh (le_refl _))
theorem kZ {l:Expr}{tl:TE}(hl:PE X l tl):PI X tg l (Q5 X.K tl):=by
 intro pins s σ H R I h
 refine aR (hl pins s σ H _ I h) fun v s1 Af=>?_
 obtain⟨x,H1,I1,r1,q1⟩:=Af
 obtain⟨a,e,⟨xs,hq⟩,q⟩:=q1
 subst e
 cases r1
 obtain⟨Ag,rv,p,hz⟩:=I1.tuple hq
 refine wpAny_pyIter_tuple (show s1.heap.IsTuple a Ag.toArray from p) ?_
 refine⟨s1.heap.objs.size,[s1.heap.objs.size],_,_,H1,rfl,I1.kept (t':=s1.toks) fun b o e=>Heap.get?_push_of_some _ e,n9 a _,⟨_,Heap.get?_push_size _ rfl,rfl,rfl⟩,fun b hb=>?_,q⟩
 have e:b=s1.heap.objs.size:=by simpa using hb
 subst e
 exact I1.DT (le_refl _) (I1.Aj.fresh (le_refl _))
theorem tI {pins:List (Addr × Obj)}{σ:St}{H:Hp}{s:Shared}{R:It->Hp->Prop}{E:Value->Shared->Prop}{lo hi:Int}{t u v:Tok}{tk:Nat}(I:Inv X pins σ H s)(h1:-(2 ^ 62) <= lo)(h2:lo < 2 ^ 62)(h3:-(2 ^ 62) <= hi)(h4:hi < 2 ^ 62)
  (q:R (vn lo (hi - lo).toNat) H):wpAny (model X.prog X.w) X.A (pyIter (.ref s.heap.objs.size)) (VN X pins σ tg R) E { s with heap:=s.heap.push { cls := .type "range",data := .fields #[.int lo t, .int hi u, .int 1 v] },toks:=tk }:=by
 refine wpAny_pyIter_range (IsRange.new ..) (small_one h1 h2 h3 h4) ?_
 have I1:Inv X pins σ H { s with heap:=s.heap.push { cls := .type "range",data := .fields #[.int lo t, .int hi u, .int 1 v] },toks:=tk }:=I.kept fun b o e=>Heap.get?_push_of_some _ e
 refine⟨(s.heap.push { cls := .type "range",data := .fields #[.int lo t, .int hi u, .int 1 v] }).objs.size,[(s.heap.push { cls := .type "range",data := .fields #[.int lo t, .int hi u, .int 1 v] }).objs.size],_,_,H,rfl,
  I1.kept (t':=tk) fun b o e=>Heap.get?_push_of_some _ e,nA _ lo (hi - lo).toNat,?_,fun b hb=>?_,q⟩
 ·have e1:lo + ((0:Nat):Int) * 1=lo:=by simp
  have e2:(((hi - lo).toNat:Nat):Int) - ((0:Nat):Int)=Builtin.Range.rangeSize lo hi 1:=by rw[rangeSize_one];split<;>omega
  show IsRangeIter _ _ (lo + ((0:Nat):Int) * 1) ((((hi - lo).toNat:Nat):Int) - ((0:Nat):Int)) 1
  rw[e1,e2]
  exact Heap.get?_push_size _ rfl
 ·have e:b=(s.heap.push { cls := .type "range",data := .fields #[.int lo t, .int hi u, .int 1 v] }).objs.size:=by simpa using hb
  subst e
  exact I1.DT (le_refl _) (I1.Aj.fresh (le_refl _))
noncomputable def Ko (ta:TA):TI:=fun σ H R=>ta σ H fun vs H1=>∃ j:Int,vs=[.int j]/\-(2 ^ 62) <= j/\j < 2 ^ 62/\R (vn 0 j.toNat) H1
theorem aM {a:Expr}{ta:TA}{p pos:Pos}(hg:Gl X "range")(hm:X.mg "range" = none)(ha:PA X [a] ta)(hs:starEach [a] X.env=[(false,eval a X.env)]:=by rfl):PI X tg (.Call (.Name "range" p) [a] [] pos) (Ko ta):=by
 intro pins s σ H R I h
 refine Call_ (io I hg hm boot_range (PyProof.Rows.callWith_type1 (aR (ha pos pins s σ H _ I h) fun us s1 Af=>?_) hs rfl))
 obtain⟨vs,H1,I1,r1,q1⟩:=Af
 obtain⟨j,e,q1,q2,q⟩:=q1
 subst e
 cases r1 with
 | cons r rr =>
  cases rr
  obtain⟨t,rfl⟩:=r
  exact call_range_1 (tI I1 (by omega) (by omega) q1 q2 (by simpa using q))
noncomputable def Q6 (wi:TI)(g:TG)(tb:TS):TS:=fun D σ H=>wi σ H fun J H1=>∃ W:Nat->Nat->St->Hp->Prop,(∃ m,W 0 m σ H1)/\∀ i m σ H,W i m σ H ->
 (J.stop i H/\D.nx σ H)∨(J.go i H/\∃ N:St->Hp->Prop,(∀ σ' H',N σ' H'->∃ m',m' < m/\W (i + 1) m' σ' H')/\∀ x H',J.EY i H x H'->g x σ H' fun σ2 H2=>tb { D with nx:=N,ct:=N,bk:=D.nx } σ2 H2)
noncomputable def eA (fp:List Addr)(h:Heap):List (Addr × Obj):=fp.filterMap fun b=>(h.get? b).map fun o=>(b,o)
theorem eD {fp:List Addr}{h:Heap}{b:Addr}{o:Obj}(hb:b ∈ fp)(e:h.get? b=some o):(b,o) ∈ eA fp h:=List.mem_filterMap.mpr ⟨b,hb,by rw[e];rfl⟩
theorem jV {fp:List Addr}{h:Heap}{p:Addr × Obj}(hp:p ∈ eA fp h):p.1 ∈ fp/\h.get? p.1=some p.2:=by
 obtain⟨b,hb,e⟩:=List.mem_filterMap.mp hp
 cases q:h.get? b with
 | none=>rw[q]at e;cases e
 | some o =>
  rw[q]at e
  have e':(b,o)=p:=Option.some.inj e
  subst e'
  exact⟨hb,q⟩
theorem Inv.pinned {pins:List (Addr × Obj)}{σ:St}{H:Hp}{s:Shared}{fp:List Addr}(I:Inv X pins σ H s)(hf:∀ b ∈ fp,fH X pins H b)(ho:∀ b ∈ fp,∃ o,s.heap.get? b=some o/\∀ v,o.data ≠ .cell v):Inv X (pins ++ eA fp s.heap) σ H s :=
 I.Bi fun p hp=>(mem_append.mp hp).elim (fun z=>I.pin p (mem_append_right _ z)) fun z=>by
  obtain⟨hb,e⟩:=jV z
  obtain⟨f0,f1,f2,_⟩:=hf p.1 hb
  obtain⟨o,e',d⟩:=ho p.1 hb
  rw[e]at e';cases e'
  exact⟨e,f0,f1,f2,d⟩
theorem Inv.B5 {pins pl:List (Addr × Obj)}{σ:St}{H:Hp}{s:Shared}(I:Inv X (pins ++ pl) σ H s):Inv X pins σ H s:=I.Bi fun p hp=>I.pin p (mem_append_right _ (mem_append_left _ hp))
theorem bI {iter:Expr}{body:List Stmt}{wi:TI}{g:TG}{tb:TS}{pos:Pos}(hp:PassesOwn (model X.prog X.w) X.A X.env X.xe)(hc:X.calm=true)(hi:PI X tg iter wi)(hg:PG X tg g)(hb:BK X body tb)
  (hs:∀ x,foldedSetIterable iter X.env x=pure x:=by intro _;rfl):PS X (.For tg iter body [] pos) (Q6 wi g tb):=by
 intro pins s σ H D I h
 refine wpAny_For (aR (hi pins s σ H _ I h) fun v s1 h1=>aR h1 fun OC s2 h2=>?_) hs
 obtain⟨it,fp,tn,J,H2,e,I2,T,Kp,f2,W,⟨m0,w0⟩,turn⟩:=h2
 subst e
 have stat:∀ {H':Hp},(∀ b ∈ fp,H' b=none)->∀ b ∈ fp,fH X pins H' b:=fun hn b hb=>⟨hn b hb,(f2 b hb).2⟩
 refine codeAny_forLoop_any (fun n s'=>∃ i σ' H',Inv X pins σ' H' s'/\tn i s'.heap/\(∀ b ∈ fp,H' b=none)/\W i n σ' H') ?_ m0 ⟨0,σ,H2,I2,Kp,fun b hb=>(f2 b hb).1,w0⟩
 rintro n s3 ⟨i,σ3,H3,I3,VO,VP,w3⟩
 rcases turn i n σ3 H3 w3 with ⟨stop,qn⟩ | ⟨go,N,hN,step⟩
 ·refine wpAny_passesOwn hp (aR (T.done X rfl rfl rfl hc i pins s3 σ3 H3 X.xe I3 (stat VP) VO stop) fun r s4 Af=>?_)
  obtain⟨hr,I4⟩:=Af
  subst hr
  exact wpAny_execs_nil ⟨σ3,H3,I4,qn⟩
 ·refine wpAny_passesOwn hp (aR (T.item X rfl rfl rfl hc i pins s3 σ3 H3 X.xe I3 (stat VP) VO go) fun r s4 Af=>?_)
  obtain⟨u,hr,h4⟩:=Af
  subst hr
  refine wpAny_passesOwn hp (aR h4 fun _ s5 Af=>?_)
  obtain⟨x,H5,I5,r5,y5,Jr,OE⟩:=Af
  have I5':=I5.pinned (stat OE) (T.obj _ _ Jr)
  refine wpAny_passesOwn hp (aR (hg _ s5 σ3 H5 x u _ I5' r5 (step x H5 y5)) fun _ s6 Af=>?_)
  obtain⟨σ6,H6,I6,q6⟩:=Af
  refine wpAny_passesOwn hp (aR (hb _ s6 σ6 H6 _ I6 q6) fun f s7 q7=>?_)
  have again:∀ {σ7:St}{H7:Hp},Inv X (pins ++ eA fp s5.heap) σ7 H7 s7->N σ7 H7->∃ m,m < n/\∃ i σ' H',Inv X pins σ' H' s7/\tn i s7.heap/\(∀ b ∈ fp,H' b=none)/\W i m σ' H':=fun {σ7 H7} I7 n7=>by
   obtain⟨m',hm,w7⟩:=hN σ7 H7 n7
   refine⟨m',hm,i + 1,σ7,H7,I7.B5,T.keep _ _ _ Jr fun b hb o e=>(I7.pin (b,o) (mem_append_right _ (mem_append_right _ (eD hb e)))).1,fun b hb=>?_,w7⟩
   obtain⟨o,e,d⟩:=T.obj _ _ Jr b hb
   exact(I7.pin (b,o) (mem_append_right _ (mem_append_right _ (eD hb e)))).2.1
  cases f with
  | next=>obtain⟨σ7,H7,I7,n7⟩:=q7;exact again I7 n7
  | cont=>obtain⟨σ7,H7,I7,n7⟩:=q7;exact again I7 n7
  | brk=>obtain⟨σ7,H7,I7,q7⟩:=q7;exact⟨σ7,H7,I7.B5,q7⟩
  | ret v=>obtain⟨x7,σ7,H7,I7,r7,q7⟩:=q7;exact⟨x7,σ7,H7,I7.B5,r7,q7⟩
end
theorem gR {K:Frag}{a:Addr}{xs:List V}{g:TG}{tb:TS}{D:jL}{σ:St}{H:Hp}(Pv:Nat->St->Hp->Prop)(h0:Pv 0 σ H)(hl:∀ i σ H,i <= xs.length->Pv i σ H->Ah K H a xs)
  (hs:∀ i x σ H,xs[i]? = some x->Pv i σ H->g x σ H fun σ2 H2=>tb { D with nx:=Pv (i + 1),ct:=Pv (i + 1),bk:=D.nx } σ2 H2) (hd:∀ σ H,Pv xs.length σ H->D.nx σ H) :
  ∃ W:Nat->Nat->St->Hp->Prop,(∃ m,W 0 m σ H)/\∀ i m σ H,W i m σ H ->
   ((xq K a).stop i H/\D.nx σ H)∨((xq K a).go i H/\∃ N:St->Hp->Prop,(∀ σ' H',N σ' H'->∃ m',m' < m/\W (i + 1) m' σ' H')/\∀ x H',(xq K a).EY i H x H'->g x σ H' fun σ2 H2=>tb { D with nx:=N,ct:=N,bk:=D.nx } σ2 H2):=by
 refine⟨fun i m σ H=>m=xs.length - i/\i <= xs.length/\Pv i σ H,⟨xs.length,by simp,zero_le _,h0⟩,?_⟩
 rintro i m σ H ⟨rfl,hi,p⟩
 have q:=hl i σ H hi p
 by_cases AX:i < xs.length
 ·refine .inr ⟨⟨xs,xs[i],q,by simp[AX]⟩,Pv (i + 1),fun σ' H' p'=>⟨xs.length - (i + 1),by omega,rfl,AX,p'⟩,fun x H' y=>?_⟩
  obtain⟨e,y⟩:=y
  subst e
  exact hs i x σ _ (y xs q) p
 ·have e:i=xs.length:=by omega
  subst e
  exact .inl ⟨⟨xs,q,le_refl _⟩,hd σ H p⟩
theorem bE {lo:Int}{n:Nat}{g:TG}{tb:TS}{D:jL}{σ:St}{H:Hp}(Pv:Nat->St->Hp->Prop)(h0:Pv 0 σ H)
  (hs:∀ i σ H,i < n->Pv i σ H->g (.int (lo + i)) σ H fun σ2 H2=>tb { D with nx:=Pv (i + 1),ct:=Pv (i + 1),bk:=D.nx } σ2 H2) (hd:∀ σ H,Pv n σ H->D.nx σ H) :
  ∃ W:Nat->Nat->St->Hp->Prop,(∃ m,W 0 m σ H)/\∀ i m σ H,W i m σ H ->
   ((vn lo n).stop i H/\D.nx σ H)∨((vn lo n).go i H/\∃ N:St->Hp->Prop,(∀ σ' H',N σ' H'->∃ m',m' < m/\W (i + 1) m' σ' H')/\∀ x H',(vn lo n).EY i H x H'->g x σ H' fun σ2 H2=>tb { D with nx:=N,ct:=N,bk:=D.nx } σ2 H2):=by
 refine⟨fun i m σ H=>m=n - i/\i <= n/\Pv i σ H,⟨n,by simp,zero_le _,h0⟩,?_⟩
 rintro i m σ H ⟨rfl,hi,p⟩
 by_cases AX:i < n
 ·refine .inr ⟨AX,Pv (i + 1),fun σ' H' p'=>⟨n - (i + 1),by omega,rfl,AX,p'⟩,fun x H' y=>?_⟩
  obtain⟨e,y⟩:=y
  subst e y
  exact hs i σ _ AX p
 ·have e:i=n:=by omega
  subst e
  exact .inl ⟨le_refl _,hd σ H p⟩
end L2
namespace L2
open PySem PySem.Spec PyProof.Rows
noncomputable abbrev R2:=V->V->Hp->VK->Prop
noncomputable def eI (X:Cx)(f:Value->Value->Sem Value)(r:R2):Prop :=
 ∀ (pins:List (Addr × Obj))(s:Shared)(σ:St)(H:Hp)(x y:V)(v u:Value)(Q:VK),Inv X pins σ H s->RelV x v->RelV y u->r x y H Q ->
  wpAny (model X.prog X.w) X.A (f v u) (EP X pins σ Q) X.xe s
noncomputable def Q7 (X:Cx)(f:Value->Sem Value)(r:V->Hp->VK->Prop):Prop :=
 ∀ (pins:List (Addr × Obj))(s:Shared)(σ:St)(H:Hp)(x:V)(v:Value)(Q:VK),Inv X pins σ H s->RelV x v->r x H Q ->
  wpAny (model X.prog X.w) X.A (f v) (EP X pins σ Q) X.xe s
noncomputable def fu (X:Cx)(f:Value)(r:List V->Hp->VK->Prop):Prop :=
 ∀ (pins:List (Addr × Obj))(s:Shared)(σ:St)(H:Hp)(xs:List V)(us:List Value)(Q:VK),Inv X pins σ H s->Vals xs us->r xs H Q ->
  wpAny (model X.prog X.w) X.A (call f us) (EP X pins σ Q) X.xe s
noncomputable def Q8 (X:Cx)(r:V->Hp->(Bool->Hp->Prop)->Prop):Prop :=
 ∀ (pins:List (Addr × Obj))(s:Shared)(σ:St)(H:Hp)(x:V)(v:Value)(Q:Bool->Hp->Prop),Inv X pins σ H s->RelV x v->r x H Q ->
  wpAny (model X.prog X.w) X.A (truthy v) (TP X pins σ Q) X.xe s
noncomputable def OF (r:R2)(ta tb:TE):TE:=fun σ H Q=>ta σ H fun x H1=>tb σ H1 fun y H2=>r x y H2 Q
noncomputable def tUn (r:V->Hp->VK->Prop)(ta:TE):TE:=fun σ H Q=>ta σ H fun x H1=>r x H1 Q
noncomputable def rI (C:Int->Int->Prop)(g:Int->Int->V):R2:=fun x y H Q=>∃ i j,x = .int i/\y = .int j/\C i j/\Q (g i j) H
noncomputable def rH (g:Int->Int->V):R2:=fun x y H Q=>∃ i j,x = .int i/\y = .int j/\Q (g i j) H
noncomputable def rU (g:Int->V):V->Hp->VK->Prop:=fun x H Q=>∃ i,x = .int i/\Q (g i) H
section
variable {X:Cx}{a b c:Expr}{ta tb tc:TE}{pos:Pos}
theorem zR (ha:PE X a ta)(hb:PE X b tb){pins:List (Addr × Obj)}{s:Shared}{σ:St}{H:Hp}{R:V->V->Hp->Prop}(I:Inv X pins σ H s)
  (h:ta σ H fun x H1=>tb σ H1 fun y H2=>R x y H2) {Q:Value->Shared->Prop} {f:Value->Value->Sem Value}
  (hf:∀ v u s2 x y H2,Inv X pins σ H2 s2->RelV x v->RelV y u->R x y H2->wpAny (model X.prog X.w) X.A (f v u) Q X.xe s2) :
  wpAny (model X.prog X.w) X.A (eval a X.env) (fun v s₁=>wpAny (model X.prog X.w) X.A (eval b X.env) (fun u s₂=>wpAny (model X.prog X.w) X.A (f v u) Q X.xe s₂) X.xe s₁) X.xe s:=by
 refine aR (ha pins s σ H _ I h) fun v s1 Af=>?_
 obtain⟨x,H1,I1,r1,q1⟩:=Af
 refine aR (hb pins s1 σ H1 _ I1 q1) fun u s2 Af=>?_
 obtain⟨y,H2,I2,r2,q2⟩:=Af
 exact hf v u s2 x y H2 I2 r1 r2 q2
theorem aG {op:Operator}{r:R2}(ho:eI X (binaryOp op) r)(ha:PE X a ta)(hb:PE X b tb):PE X (.BinOp a op b pos) (OF r ta tb):=by
 intro pins s σ H Q I h
 exact wpAny_BinOp (zR ha hb I h fun v u s2 x y H2 I2 rx ry q=>ho pins s2 σ H2 x y v u Q I2 rx ry q)
theorem Kq {op:UnaryOp}{r:V->Hp->VK->Prop}(ho:Q7 X (unaryOp op) r)(ha:PE X a ta):PE X (.UnaryOp op a pos) (tUn r ta):=by
 intro pins s σ H Q I h
 exact UnaryOp_ (aR (ha pins s σ H _ I h) fun v s1 Af=>by obtain⟨x,H1,I1,r1,q1⟩:=Af;exact ho pins s1 σ H1 x v Q I1 r1 q1)
theorem Js {f:Value->Value->Sem Value}{C:Int->Int->Prop}{g:Int->Int->Int}
  (rule:∀ (i j:Int)(t u:Tok)(s:Shared)(Q:Value->Shared->Prop)(E:Value->Shared->Prop),C i j->Q (.int (g i j) s.toks) { s with toks:=s.toks + 1 }->wpAny (model X.prog X.w) X.A (f (.int i t) (.int j u)) Q E s) :
  eI X f (rI C fun i j => .int (g i j)):=by
 intro pins s σ H x y v u Q I rx ry h
 obtain⟨i,j,rfl,rfl,hc,q⟩:=h
 obtain⟨t,rfl⟩:=rx
 obtain⟨t',rfl⟩:=ry
 exact rule i j t t' s _ _ hc ⟨.int (g i j),H,I.tok _,⟨_,rfl⟩,q⟩
theorem qQ {f:Value->Value->Sem Value}{g:Int->Int->Int}
  (rule:∀ (i j:Int)(t u:Tok)(s:Shared)(Q:Value->Shared->Prop)(E:Value->Shared->Prop),Q (.int (g i j) s.toks) { s with toks:=s.toks + 1 }->wpAny (model X.prog X.w) X.A (f (.int i t) (.int j u)) Q E s) :
  eI X f (rH fun i j => .int (g i j)):=by
 intro pins s σ H x y v u Q I rx ry h
 obtain⟨i,j,rfl,rfl,q⟩:=h
 obtain⟨t,rfl⟩:=rx
 obtain⟨t',rfl⟩:=ry
 exact rule i j t t' s _ _ ⟨.int (g i j),H,I.tok _,⟨_,rfl⟩,q⟩
theorem we {f:Value->Value->Sem Value}{g:Int->Int->Bool}
  (rule:∀ (i j:Int)(t u:Tok)(s:Shared)(Q:Value->Shared->Prop)(E:Value->Shared->Prop),Q (.bool (g i j)) s->wpAny (model X.prog X.w) X.A (f (.int i t) (.int j u)) Q E s) :
  eI X f (rH fun i j => .bl (g i j)):=by
 intro pins s σ H x y v u Q I rx ry h
 obtain⟨i,j,rfl,rfl,q⟩:=h
 obtain⟨t,rfl⟩:=rx
 obtain⟨t',rfl⟩:=ry
 exact rule i j t t' s _ _ ⟨.bl (g i j),H,I,rfl,q⟩
noncomputable def Q9 (i j:Int):Prop:=0 < j/\j < 1073741824
noncomputable def Kr (i j:Int):Prop:=0 <= j/\j <= 1000000/\i.natAbs < 2 ^ 64
noncomputable def HU (i j:Int):Prop:=(-(2 ^ 64) < i/\i < 2 ^ 64)∨(-(2 ^ 64) < j/\j < 2 ^ 64)
theorem HU.ok {i j:Int}(h:HU i j):IntMulOk i j:=by
 rcases h with ⟨h1,h2⟩ | ⟨h1,h2⟩
 ·exact .of_left (intBits_le_64 h1 h2)
 ·exact .of_right (intBits_le_64 h1 h2)
theorem n8 (k:Nat):(0:Int) <= 2 ^ k:=by
 rw[two_pow_cast]
 exact Int.natCast_nonneg _
theorem bT:eI X (binaryOp .Add) (rH fun i j => .int (i + j)):=qQ fun _ _ _ _ _ _ _ q=>add_int q
theorem cx:eI X (binaryOp .Sub) (rH fun i j => .int (i - j)):=qQ fun _ _ _ _ _ _ _ q=>sub_int q
theorem jn:eI X (binaryOp .Mult) (rI HU fun i j => .int (i * j)):=Js fun _ _ _ _ _ _ _ hc q=>mul_int q hc.ok
theorem fA:eI X (binaryOp .FloorDiv) (rI Q9 fun i j => .int (i / j)):=Js fun i j _ _ _ _ _ hc q=>by
 have h1:(0:Int) < j:=hc.1
 have h2:j < 1073741824:=hc.2
 exact floordiv_int (by omega) (by rw[Int.fdiv_eq_ediv_of_nonneg i (by omega)];exact q) (.inl (PyProof.noPylong_small (by omega)))
theorem bG:eI X (binaryOp .Mod) (rI (fun _ j=>0 < j) fun i j => .int (i % j)):=Js fun i j _ _ _ _ _ hc q=>by
 have h1:(0:Int) < j:=hc
 exact mod_int' (by omega) (by rw[Int.fmod_eq_emod_of_nonneg i (by omega)];exact q)
theorem tY:eI X (binaryOp .Pow) (rI Kr fun i j => .int (i ^ j.toNat)):=Js fun _ _ _ _ _ _ _ hc q=>pow_int_small hc.1 hc.2.1 hc.2.2 q
theorem yM:eI X (binaryOp .LShift) (rI Kr fun i j => .int (i * 2 ^ j.toNat)):=Js fun _ _ _ _ _ _ _ hc q=>lshift_int_small hc.1 hc.2.1 hc.2.2 q
theorem tX:eI X (binaryOp .RShift) (rI (fun _ j=>0 <= j) fun i j => .int (i / 2 ^ j.toNat)):=Js fun i j _ _ _ _ _ hc q =>
 rshift_int hc (by rw[Int.fdiv_eq_ediv_of_nonneg i (n8 _)];exact q)
theorem ua:eI X (binaryOp .BitAnd) (rH fun i j => .int (Builtin.bitAnd i j)):=qQ fun _ _ _ _ _ _ _ q=>and_int q
theorem Ks:eI X (binaryOp .BitOr) (rH fun i j => .int (Builtin.bitOr i j)):=qQ fun _ _ _ _ _ _ _ q=>or_int q
theorem lr:eI X (inplaceOp .Add) (rH fun i j => .int (i + j)):=qQ fun _ _ _ _ _ _ _ q=>iadd_int q
theorem qi:eI X (inplaceOp .Sub) (rH fun i j => .int (i - j)):=qQ fun _ _ _ _ _ _ _ q=>isub_int q
theorem unI {f:Value->Sem Value}{g:Int->Int}
  (rule:∀ (i:Int)(t:Tok)(s:Shared)(Q:Value->Shared->Prop)(E:Value->Shared->Prop),Q (.int (g i) s.toks) { s with toks:=s.toks + 1 }->wpAny (model X.prog X.w) X.A (f (.int i t)) Q E s) :
  Q7 X f (rU fun i => .int (g i)):=by
 intro pins s σ H x v Q I rx h
 obtain⟨i,rfl,q⟩:=h
 obtain⟨t,rfl⟩:=rx
 exact rule i t s _ _ ⟨.int (g i),H,I.tok _,⟨_,rfl⟩,q⟩
theorem xO:Q7 X (unaryOp .USub) (rU fun i => .int (-i)):=unI fun _ _ _ _ _ q=>neg_int q
end
noncomputable def yl:V->V->Bool
 | .Av, .Av=>true | .Av, .int _=>true | .int _, .Av=>true | .Av, .bl _=>true | .bl _, .Av=>true | .Av, .str _=>true | .str _, .Av=>true
 | .int _, .int _=>true | .bl _, .bl _=>true | .str _, .str _=>true | .DF _, .DF _=>true
 | .int _, .str _=>true | .str _, .int _=>true | .bl _, .str _=>true | .str _, .bl _=>true
 | _,_=>false
noncomputable def rEq:R2:=fun x y H Q=>yl x y=true/\Q (.bl (decide (x=y))) H
noncomputable def rNe:R2:=fun x y H Q=>yl x y=true/\Q (.bl (!decide (x=y))) H
theorem qt {i j:Int}:decide (V.int i=V.int j)=(i == j):=by
 rw[Bool.eq_iff_iff]
 simp
theorem uX {i j:Bool}:decide (V.bl i=V.bl j)=(i == j):=by
 rw[Bool.eq_iff_iff]
 simp
theorem qr {i j:Str}:decide (V.str i=V.str j)=(i == j):=by
 rw[Bool.eq_iff_iff]
 simp
theorem qu {i j:Array UInt8}:decide (V.DF i=V.DF j)=(i.toList == j.toList):=by
 rw[Bool.eq_iff_iff]
 cases i
 cases j
 simp
section
variable {X:Cx}{a b c:Expr}{ta tb tc:TE}{pos:Pos}
theorem aQ {pins:List (Addr × Obj)}{σ:St}{H:Hp}{s:Shared}{Q:VK}{k k':Bool}(I:Inv X pins σ H s)(q:Q (.bl k) H)(e:k=k'):EP X pins σ Q (.bool k') s:=by
 subst e
 exact⟨.bl k,H,I,rfl,q⟩
theorem bC:eI X (compareOp .Eq) rEq:=by
 intro pins s σ H x y v u Q I rx ry h
 obtain⟨hs,q⟩:=h
 cases x with
 | Av =>
  cases rx
  cases y with
  | Av=>cases ry;exact PySem.EqNone.eq_none_none (aQ I q (by simp))
  | bl j=>cases ry;exact PySem.EqNone.eq_none_bool (aQ I q (by simp))
  | int j=>obtain⟨t',rfl⟩:=ry;exact PySem.EqNone.eq_none_int (aQ I q (by simp))
  | str j=>obtain⟨t',rfl⟩:=ry;exact PySem.EqNone.eq_none_str (aQ I q (by simp))
  | _=>exact absurd (show false=true from hs) Bool.false_ne_true
 | bl i =>
  cases rx
  cases y with
  | Av=>cases ry;exact PySem.EqNone.eq_bool_none (aQ I q (by simp))
  | bl j=>cases ry;exact eq_bool (aQ I q uX)
  | str j=>obtain⟨t',rfl⟩:=ry;exact PySem.EqMixed.eq_bool_str (aQ I q (by simp))
  | _=>exact absurd (show false=true from hs) Bool.false_ne_true
 | int i =>
  obtain⟨t,rfl⟩:=rx
  cases y with
  | Av=>cases ry;exact PySem.EqNone.eq_int_none (aQ I q (by simp))
  | int j=>obtain⟨t',rfl⟩:=ry;exact eq_int (aQ I q qt)
  | str j=>obtain⟨t',rfl⟩:=ry;exact PySem.EqMixed.eq_int_str (aQ I q (by simp))
  | _=>exact absurd (show false=true from hs) Bool.false_ne_true
 | str i =>
  obtain⟨t,rfl⟩:=rx
  cases y with
  | Av=>cases ry;exact PySem.EqNone.eq_str_none (aQ I q (by simp))
  | bl j=>cases ry;exact PySem.EqMixed.eq_str_bool (aQ I q (by simp))
  | int j=>obtain⟨t',rfl⟩:=ry;exact PySem.EqMixed.eq_str_int (aQ I q (by simp))
  | str j=>obtain⟨t',rfl⟩:=ry;exact eq_str (aQ I q qr)
  | _=>exact absurd (show false=true from hs) Bool.false_ne_true
 | DF i =>
  obtain⟨t,rfl⟩:=rx
  cases y with
  | DF j=>obtain⟨t',rfl⟩:=ry;exact PySem.W.eq_bytes (aQ I q qu)
  | _=>exact absurd (show false=true from hs) Bool.false_ne_true
 | _=>cases y<;>exact absurd (show false=true from hs) Bool.false_ne_true
theorem jS:eI X (compareOp .NotEq) rNe:=by
 intro pins s σ H x y v u Q I rx ry h
 obtain⟨hs,q⟩:=h
 cases x with
 | Av =>
  cases rx
  cases y with
  | Av=>cases ry;exact PySem.EqNone.ne_none_none (aQ I q (by simp))
  | bl j=>cases ry;exact PySem.EqNone.ne_none_bool (aQ I q (by simp))
  | int j=>obtain⟨t',rfl⟩:=ry;exact PySem.EqNone.ne_none_int (aQ I q (by simp))
  | str j=>obtain⟨t',rfl⟩:=ry;exact PySem.EqNone.ne_none_str (aQ I q (by simp))
  | _=>exact absurd (show false=true from hs) Bool.false_ne_true
 | bl i =>
  cases rx
  cases y with
  | Av=>cases ry;exact PySem.EqNone.ne_bool_none (aQ I q (by simp))
  | bl j=>cases ry;exact ne_bool (aQ I q (congrArg not uX))
  | str j=>obtain⟨t',rfl⟩:=ry;exact PySem.EqMixed.ne_bool_str (aQ I q (by simp))
  | _=>exact absurd (show false=true from hs) Bool.false_ne_true
 | int i =>
  obtain⟨t,rfl⟩:=rx
  cases y with
  | Av=>cases ry;exact PySem.EqNone.ne_int_none (aQ I q (by simp))
  | int j=>obtain⟨t',rfl⟩:=ry;exact ne_int (aQ I q (congrArg not qt))
  | str j=>obtain⟨t',rfl⟩:=ry;exact PySem.EqMixed.ne_int_str (aQ I q (by simp))
  | _=>exact absurd (show false=true from hs) Bool.false_ne_true
 | str i =>
  obtain⟨t,rfl⟩:=rx
  cases y with
  | Av=>cases ry;exact PySem.EqNone.ne_str_none (aQ I q (by simp))
  | bl j=>cases ry;exact PySem.EqMixed.ne_str_bool (aQ I q (by simp))
  | int j=>obtain⟨t',rfl⟩:=ry;exact PySem.EqMixed.ne_str_int (aQ I q (by simp))
  | str j=>obtain⟨t',rfl⟩:=ry;exact ne_str (aQ I q (congrArg not qr))
  | _=>exact absurd (show false=true from hs) Bool.false_ne_true
 | DF i =>
  obtain⟨t,rfl⟩:=rx
  cases y with
  | DF j=>obtain⟨t',rfl⟩:=ry;exact PySem.W.ne_bytes (aQ I q (congrArg not qu))
  | _=>exact absurd (show false=true from hs) Bool.false_ne_true
 | _=>cases y<;>exact absurd (show false=true from hs) Bool.false_ne_true
theorem jo:eI X (compareOp .Lt) (rH fun i j => .bl (decide (i < j))):=we fun _ _ _ _ _ _ _ q=>lt_int q
theorem pS:eI X (compareOp .LtE) (rH fun i j => .bl (decide (i <= j))):=we fun _ _ _ _ _ _ _ q=>le_int q
theorem tZ:eI X (compareOp .Gt) (rH fun i j => .bl (decide (j < i))):=we fun _ _ _ _ _ _ _ q=>gt_int q
theorem xG:eI X (compareOp .GtE) (rH fun i j => .bl (decide (j <= i))):=we fun _ _ _ _ _ _ _ q=>ge_int q
theorem lh:eI X (compareOp .Is) (fun x y H Q=>y = .Av/\Q (.bl (decide (x = .Av))) H):=by
 intro pins s σ H x y v u Q I rx ry h
 obtain⟨rfl,q⟩:=h
 cases ry
 refine is_none_gen (aQ I q ?_)
 cases x<;>first
  | (cases rx;rfl)
  | (obtain⟨t,rfl⟩:=rx;rfl)
theorem vZ:eI X (compareOp .IsNot) (fun x y H Q=>y = .Av/\Q (.bl (!decide (x = .Av))) H):=by
 intro pins s σ H x y v u Q I rx ry h
 obtain⟨rfl,q⟩:=h
 cases ry
 refine isnot_none_gen (aQ I q ?_)
 cases x<;>first
  | (cases rx;rfl)
  | (obtain⟨t,rfl⟩:=rx;rfl)
theorem aB (b:Expr){op:CmpOp}(h:op ≠ .In:=by decide)(h2:op ≠ .NotIn:=by decide):behindInMarks op b=false:=by
 have e1:(op == CmpOp.In)=false:=by cases op<;>first | rfl | exact absurd rfl h
 have e2:(op == CmpOp.NotIn)=false:=by cases op<;>first | rfl | exact absurd rfl h2
 cases b<;>simp[behindInMarks,e1,e2]
theorem c5 {op:CmpOp}{r:R2}(ho:eI X (compareOp op) r)(ha:PE X a ta)(hb:PE X b tb)(hm:behindInMarks op b=false):PE X (.Compare a [op] [b] pos) (OF r ta tb):=by
 intro pins s σ H Q I h
 exact wpAny_Compare1 (zR ha hb I h fun v u s2 x y H2 I2 rx ry q=>ho pins s2 σ H2 x y v u Q I2 rx ry q) hm
noncomputable def Kt (t:TE):TT:=fun σ H Q=>t σ H fun x H'=>∃ k,x = .bl k/\Q k H'
theorem aw {op:CmpOp}{r:R2}(ho:eI X (compareOp op) r)(ha:PE X a ta)(hb:PE X b tb)(hm:behindInMarks op b=false):PT X (.Compare a [op] [b] pos) (Kt (OF r ta tb)):=by
 intro pins s σ H Q I h
 refine wpAny_isTrue_Compare1 (aR (ha pins s σ H _ I h) fun v s1 ⟨x,H1,I1,r1,q1⟩=>aR (hb pins s1 σ H1 _ I1 q1) fun u s2 ⟨y,H2,I2,r2,q2⟩ =>
  aR (ho pins s2 σ H2 x y v u _ I2 r1 r2 q2) fun c s3 ⟨z,H3,I3,r3,k,e,q3⟩=>?_) hm
 subst e
 cases r3
 exact wpAny_truthy_bool ⟨H3,I3,q3⟩
noncomputable def yd (r r':R2)(ta tb tc:TE):TE:=fun σ H Q=>ta σ H fun x H1=>tb σ H1 fun y H2=>r x y H2 fun z H3=>∃ k,z = .bl k /\
 (if k=true then tc σ H3 fun w' H4=>r' y w' H4 Q else Q (.bl false) H3)
theorem mj {op QA:CmpOp}{r r':R2}(ho:eI X (compareOp op) r)(E3:eI X (compareOp QA) r')(ha:PE X a ta)(hb:PE X b tb)(hc:PE X c tc)
  (hm:lastMarks [op,QA] [b,c]=false:=by with_unfolding_all rfl):PE X (.Compare a [op,QA] [b,c] pos) (yd r r' ta tb tc):=by
 intro pins s σ H Q I h
 refine Compare_chain (aR (ha pins s σ H _ I h) fun v s1 ⟨x,H1,I1,r1,q1⟩=>chain_link (aR (hb pins s1 σ H1 _ I1 q1) fun u s2 ⟨y,H2,I2,r2,q2⟩ =>
  aR (ho pins s2 σ H2 x y v u _ I2 r1 r2 q2) fun d s3 ⟨z,H3,I3,r3,k,e,q3⟩=>?_)) hm
 subst e
 cases r3
 refine wpAny_truthy_bool ?_
 cases k with
 | false=>exact ite_ff ⟨.bl false,H3,I3,rfl,q3⟩
 | true=>exact ite_tt (chain_last (aR (hc pins s3 σ H3 _ I3 q3) fun w' s4 Af=>by obtain⟨z',H4,I4,r4,q4⟩:=Af;exact E3 pins s4 σ H4 y z' u w' Q I4 r2 r4 q4))
noncomputable def Ku (K:Frag)(x:V)(H:Hp)(k:Bool):Prop :=
 match x with
 | .Av=>k=false
 | .bl b=>k=b
 | .int i=>k=(i != 0)
 | .str y=>y.length <= sizeLine/\k=((y.length:Int) != 0)
 | .DF y=>y.size <= sizeLine/\k=((y.size:Int) != 0)
 | .ref p=>(∃ xs,Ah K H p xs/\k = !xs.isEmpty)∨(∃ xs,An K H p xs/\k = !xs.isEmpty)∨∃ kvs,H p=some (.dK kvs)/\k = !kvs.isEmpty
 | _=>False
theorem oO {κ:Type} {kvs:List (κ × V)} {vs:List (κ × Value)} (r:KV kvs vs):(!vs.isEmpty) = !kvs.isEmpty:=by
 cases r<;>rfl
theorem jy {xs:List V}{Ag:List Value}(r:Vals xs Ag):(!Ag.toArray.isEmpty) = !xs.isEmpty:=by
 cases r<;>simp
theorem jt:(sizeLine:Nat) < 2 ^ 63:=by rw[sizeLine_eq];decide
theorem xP:Q8 X (fun x H Q=>∃ k,Ku X.K x H k/\Q k H):=by
 intro pins s σ H x v Q I rx h
 obtain⟨k,e,q⟩:=h
 have hl:=jt
 have hs:sizeLine=16777216:=sizeLine_eq
 cases x with
 | Av =>
  cases rx
  have e':k=false:=e
  subst e'
  exact truthy_none ⟨H,I,q⟩
 | bl b =>
  cases rx
  have e':k=b:=e
  subst e'
  exact wpAny_truthy_bool ⟨H,I,q⟩
 | int i =>
  obtain⟨t,rfl⟩:=rx
  have e':k=(i != 0):=e
  subst e'
  exact PySem.P.truthy_int ⟨H,I,q⟩
 | str y =>
  obtain⟨t,rfl⟩:=rx
  obtain⟨hy,e'⟩:y.length <= sizeLine/\k=((y.length:Int) != 0):=e
  subst e'
  exact PySem.P.truthy_str (by omega) ⟨H,I.tok _,q⟩
 | DF y =>
  obtain⟨t,rfl⟩:=rx
  obtain⟨hy,e'⟩:y.size <= sizeLine/\k=((y.size:Int) != 0):=e
  subst e'
  exact PySem.W.truthy_bytes (by omega) ⟨H,I.tok _,q⟩
 | ref p =>
  cases rx
  have e':(∃ xs,Ah X.K H p xs/\k = !xs.isEmpty)∨(∃ xs,An X.K H p xs/\k = !xs.isEmpty)∨∃ kvs,H p=some (.dK kvs)/\k = !kvs.isEmpty:=e
  rcases e' with ⟨xs,hx,e'⟩ | ⟨xs,hx,e'⟩ | ⟨kvs,hx,e'⟩
  ·subst e'
   obtain⟨Ag,r,pl,hz⟩:=I.list hx
   have hlen:=r.length
   exact wpAny_truthy_list pl.isList (by simp only[size_toArray];omega) ⟨H,I.tok _,by rw[jy r];exact q⟩
  ·subst e'
   obtain⟨Ag,r,pl,hz⟩:=I.tuple hx
   have hlen:=r.length
   exact truthy_tuple pl (by simp only[size_toArray];omega) ⟨H,I.tok _,by rw[jy r];exact q⟩
  ·subst e'
   obtain⟨hz,hS,vs,r,m⟩:kvs.length <= sizeLine/\(p == sysModules)=false/\∃ vs,KV kvs vs/\s.heap.DictOf (aV X.prog X.w) p vs:=I.Aj p _ hx
   have hlen:kvs.length=vs.length:=Paired.length r
   exact wpAny_truthy_dict hS m (by omega) ⟨H,I.tok _,by rw[oO r];exact q⟩
 | _=>exact(show False from e).elim
theorem gG (ha:PE X a ta)(he:∀ whole,isTrue a X.env whole=(do let v ← whole;standAt a.pos;holding [v] (truthy v))) :
  PT X a (fun σ H Q=>ta σ H fun x H'=>∃ k,Ku X.K x H' k/\Q k H'):=by
 intro pins s σ H Q I h
 exact isTrue_plain (aR (ha pins s σ H _ I h) fun v s1 Af=>by obtain⟨x,H1,I1,r1,q1⟩:=Af;exact xP pins s1 σ H1 x v Q I1 r1 q1) (he _)
theorem lG {x:V}{us:List Value}(r:Vals [x] us):∃ u,us=[u]/\RelV x u:=by
 cases r with
 | cons r1 r2=>cases r2;exact⟨_,rfl,r1⟩
theorem vals2 {x y:V}{us:List Value}(r:Vals [x,y] us):∃ u w',us=[u,w']/\RelV x u/\RelV y w':=by
 cases r with
 | cons r1 r2 =>
  cases r2 with
  | cons r3 r4=>cases r4;exact⟨_,_,rfl,r1,r3⟩
theorem uZ:fu X (.builtin "abs") (fun xs H Q=>∃ i,xs=[.int i]/\Q (.int (if i < 0 then -i else i)) H):=by
 intro pins s σ H xs us Q I r h
 obtain⟨i,rfl,q⟩:=h
 obtain⟨u,rfl,t,rfl⟩:=lG r
 exact call_abs_int fun u tk=>⟨.int (if i < 0 then -i else i),H,I.tok _,⟨_,rfl⟩,q⟩
theorem rE (hc:X.calm=true):fu X (.builtin "max") (fun xs H Q=>∃ i j,xs=[.int i, .int j]/\Q (.int (if j > i then j else i)) H):=by
 intro pins s σ H xs us Q I r h
 obtain⟨i,j,rfl,q⟩:=h
 obtain⟨u,w',rfl,⟨t,rfl⟩,⟨t',rfl⟩⟩:=vals2 r
 refine max_two_ints (I.ok.hd hc) fun h' tk k=>⟨_,H,I.kept k,?_,q⟩
 by_cases hj:j > i
 ·rw[if_pos hj,if_pos hj];exact⟨_,rfl⟩
 ·rw[if_neg hj,if_neg hj];exact⟨_,rfl⟩
end
end L2
namespace L2
open PySem PySem.Spec PyProof.Rows
structure Dy (h:Heap)(x dx C:Addr)(mA:Str->Option Value):Prop where
 obj:h.get? x=some (PySem.W.instObj C dx)
 ns:h.Ns1 dx mA
 ne:dx ≠ x
theorem re {h:Heap}{dx:Addr}{mA:Str->Option Value}(n:h.Ns1 dx mA):∃ od,h.get? dx=some od/\∀ name,PySem.W.lookIn name od=some (mA name):=by
 obtain⟨o,es,ep,ho,hd,hk,_,hm⟩:=n
 refine⟨o,ho,fun name=>?_⟩
 have e:=hm name
 unfold nsFind findBy at e
 rw[← Array.find?_toList]at e
 unfold PySem.W.lookIn
 rw[hd]
 dsimp only
 split
 ·rename_i y q
  rw[q]at e
  exact congrArg some e
 ·rename_i q
  rw[q]at e
  have a:es.toList.any (·.refKey)=false:=by
   rw[List.any_eq_false]
   intro y hy
   obtain⟨z,t,QB⟩:=hk y (Array.mem_toList_iff.mp hy)
   simp[DictEntry.refKey,QB]
  have a':¬ es.toList.any (·.refKey)=true:=by rw[a];exact Bool.false_ne_true
  rw[if_neg a']
  exact congrArg some e
theorem Dy.look {h:Heap}{x dx C:Addr}{mA:Str->Option Value}(I:Dy h x dx C mA):∃ od,PySem.W.InstAt h x (PySem.W.instObj C dx) C (some od)/\∀ name,PySem.W.lookIn name od=some (mA name) :=
 let ⟨od,ho,hl⟩:=re I.ns
 ⟨od,⟨I.obj,rfl,rfl,ho⟩,hl⟩
section
variable {prog:Program}{w:World}{A:Around}{E:Value->Shared->Prop}{s:Shared}{K:Frag}{x dx C f:Addr}{mA:Str->Option Value}{name:Str}{v:Value}
theorem wW {expr:Bool}{Q:Value->Shared->Prop}(X:K.In s.heap)(I:Dy s.heap x dx C mA)(hg:plainGet K C name=true)(hh:hasDictIn K C=true)
  (ha:findIn K (.ref C) name=some none) (hv:mA name=some v) (Jt:PySem.W.handedIn v=true) (h:Q v { s with toks:=s.toks + 1 }) :
  wpAny (model prog w) A (getAttr (.ref x) name expr) Q E s:=by
 obtain⟨od,J,hl⟩:=I.look
 exact PySem.W.get_value X J (PySem.W.plainGet_of hg).1 (PySem.W.findObj_own hh ha rfl (by rw[hl,hv])) Jt h
theorem uL {pl:Sem Bool}{Q:Value × List Value->Shared->Prop}(X:K.In s.heap)(I:Dy s.heap x dx C mA)(hg:plainGet K C name=true)
  (hf:findIn K (.ref C) name=some (some (.ref f))) (ht:isFn K (.ref f)=true) (hv:mA name=none) (h:Q (.ref f,[.ref x]) s) :
  wpAny (model prog w) A (getMethod (.ref x) name pl) Q E s:=by
 obtain⟨od,J,hl⟩:=I.look
 exact PySem.W.method_fn X J (PySem.W.plainGet_of hg).1 (PySem.W.plainGet_of hg).2 hf (beq_iff_eq.mp ht) (by show(PySem.W.lookIn name od).map (·.isSome)=some false;rw[hl,hv];rfl) h
theorem v7 {ns:List Str}{Q:Unit->Shared->Prop}(X:K.In s.heap)(I:Dy s.heap x dx C mA)
  (hs:findIn K (.ref C) "__setattr__" = some (some (.builtin "object.__setattr__"))) (hp:plainOver K C=true) (ht:PySem.W.takerIn K C name=some none) (hh:hasDictIn K C=true)
  (hw:PySem.Within mA ns) (hsz:ns.length <= sizeLine)
  (h:∀ h',Dy h' x dx C (fun y=>if y=name then some v else mA y)->Heap.SameBut dx s.heap h'->Q () { s with heap:=h',toks:=s.toks + 2 }) :
  wpAny (model prog w) A (setAttr (.ref x) name v) Q E s:=by
 obtain⟨od,J,hl⟩:=I.look
 refine PySem.W.set_plain X J hs (PySem.W.osa_open (s:={ s with toks:=s.toks + 1 }) (r:=none) X J hp ht fun b=>?_)
 obtain⟨cd,hc,HS⟩:=PySem.W.any_some hh
 have hx:s.heap.get? x=some ⟨.ref C,some dx, .plain,#[]⟩:=I.obj
 refine wpAny_bind (wpAny_pure (wpAny_bind (wpAny_bind (wpAny_loadPart hx (wpAny_bind (PySem.W.Looks.here (s:={ s with toks:=s.toks + 1 }) (PySem.W.looks_clsIn X hc) ?_))))))
 rw[HS]
 refine wpAny_pure (a:=some dx) (wpAny_bind (wpAny_pure (wpAny_bind ?_)))
 refine wpAny_nsSet1 (s:={ s with toks:=s.toks + 1 }) I.ns fun h' En EZ=>?_
 obtain⟨oD,VQ,VR,Kv,Kw,Kx⟩:=En.count (PySem.Within.cons name v hw)
 refine wpAny_bind (wpAny_lookBehind Kv (by rw[Kw];exact pastItsLine_dict (le_trans Kx (by rw[length_cons];omega))) ?_)
 exact wpAny_pure (h _ ⟨(EZ.2 _ (Ne.symm I.ne)).trans I.obj,En,I.ne⟩ EZ)
theorem uF {R:Result->Shared->Prop}{vs:List Value}{kw:List (Str × Value)}(X:K.In s.heap)(hm:makesIn K C=true)
  (hi:findIn K (.ref C) "__init__" = some (some (.ref f))) (hf:PySem.W.typeIn K (.ref f)=some (.type "function"))
  (h:codeAny (model prog w) (A.under (.builtin "type.__call__" ⟨.ref C :: vs,kw⟩)) (.call (.ref f) ⟨.ref (s.heap.objs.size + 1) :: vs,kw⟩) (PySem.W.InitBack (s.heap.objs.size + 1) R)
   { s with heap:=(s.heap.push PySem.W.emptyDict).push (PySem.W.instObj C s.heap.objs.size) }) :
  codeAny (model prog w) A (.call (.ref C) ⟨vs,kw⟩) R s:=by
 obtain⟨hh,g,d,t,os⟩:=s
 exact PySem.W.make_core (PySem.W.makes_of X hm) (PySem.W.looks_findIn X hi) (fun self=>PySem.W.bind_fn X self hf) (.inl rfl) h
end
noncomputable def aJ (f:Str)(v:V):List (Str × V)->List (Str × V)
 | []=>[(f,v)]
 | (g,x) :: r=>if g=f then (g,v) :: r else (g,x) :: aJ f v r
theorem eV (f g:Str)(v:V):∀ fs:List (Str × V),(aJ f v fs).lookup g=if g=f then some v else fs.lookup g
 | []=>by
  show List.lookup g [(f,v)]=_
  by_cases h:g=f
  ·have hb:(g == f)=true:=beq_iff_eq.mpr h
   simp only[List.lookup,hb,if_pos h]
  ·have hb:(g == f)=false:=beq_eq_false_iff_ne.mpr h
   simp only[List.lookup,hb,if_neg h]
 | (k,x) :: r=>by
  have ih:=eV f g v r
  rw[show aJ f v ((k,x) :: r)=(if k=f then (k,v) :: r else (k,x) :: aJ f v r) from rfl]
  by_cases hk:k=f
  ·rw[if_pos hk]
   by_cases h:g=k
   ·have hb:(g == k)=true:=beq_iff_eq.mpr h
    simp only[List.lookup,hb,if_pos (h.trans hk)]
   ·have hb:(g == k)=false:=beq_eq_false_iff_ne.mpr h
    simp only[List.lookup,hb,if_neg (fun e:g=f=>h (e.trans hk.symm))]
  ·rw[if_neg hk]
   by_cases h:g=k
   ·have hb:(g == k)=true:=beq_iff_eq.mpr h
    simp only[List.lookup,hb,if_neg (fun e:g=f=>hk (h.symm.trans e))]
   ·have hb:(g == k)=false:=beq_eq_false_iff_ne.mpr h
    simp only[List.lookup,hb]
    exact ih
theorem ip (f:Str)(v:V):∀ fs:List (Str × V),f ∈ (aJ f v fs).map (·.1)/\∀ g,g ∈ fs.map (·.1)->g ∈ (aJ f v fs).map (·.1)
 | []=>⟨by simp[aJ],fun g h=>by simp at h⟩
 | (k,x) :: r=>by
  obtain⟨i1,i2⟩:=ip f v r
  rw[show aJ f v ((k,x) :: r)=(if k=f then (k,v) :: r else (k,x) :: aJ f v r) from rfl]
  by_cases hk:k=f
  ·rw[if_pos hk]
   subst hk
   exact⟨by simp,fun g h=>by simpa using h⟩
  ·rw[if_neg hk]
   refine⟨?_,fun g h=>?_⟩
   ·rw[map_cons]
    exact mem_cons_of_mem _ i1
   ·rw[map_cons]at h ⊢
    rcases mem_cons.mp h with e | e
    ·exact mem_cons.mpr (.inl e)
    ·exact mem_cons_of_mem _ (i2 g e)
theorem i7 (f:Str)(v:V):∀ fs:List (Str × V),(aJ f v fs).length <= fs.length + 1
 | []=>by simp[aJ]
 | (k,x) :: r=>by
  have ih:=i7 f v r
  rw[show aJ f v ((k,x) :: r)=(if k=f then (k,v) :: r else (k,x) :: aJ f v r) from rfl]
  by_cases hk:k=f
  ·rw[if_pos hk,length_cons,length_cons];omega
  ·rw[if_neg hk,length_cons,length_cons];omega
theorem AY.some_of {v:V}{o:Option Value}(r:AY (some v) o):∃ u,o=some u/\RelV v u:=by
 cases o with
 | none=>exact(show False from r).elim
 | some u=>exact⟨u,rfl,r⟩
theorem AY.none_of {o:Option Value}(r:AY none o):o=none:=by
 cases o with
 | none=>rfl
 | some u=>exact(show False from r).elim
theorem rq {v:V}{u:Value}(r:RelV v u):PySem.W.handedIn u=true:=by
 cases v with
 | Av=>cases (show u=Value.none from r);rfl
 | bl b=>cases (show u=Value.bool b from r);rfl
 | int i=>obtain⟨t,e⟩:=(show ∃ t,u=Value.int i t from r);cases e;rfl
 | str x=>obtain⟨t,e⟩:=(show ∃ t,u=Value.str x t from r);cases e;rfl
 | DF b=>obtain⟨t,e⟩:=(show ∃ t,u=Value.bytes b t from r);cases e;rfl
 | HP b=>obtain⟨t,e⟩:=(show ∃ t,u=Value.float b t from r);cases e;rfl
 | ref a=>cases (show u=Value.ref a from r);rfl
 | ty n=>cases (show u=Value.type n from r);rfl
section
variable {P:Program}{w:World}{H H':Hp}{h h':Heap}{a C dx:Addr}{fs AS:List (Str × V)}
theorem iQ (Aj:Bk P w H h)(e:H a=some (.ins C dx fs)):∃ mA,Dy h a dx C mA/\(∀ f,AY (fs.lookup f) (mA f))/\PySem.Within mA (fs.map (·.1))/\fs.length <= 1000/\H dx=some (.own a):=by
 obtain⟨d,z,ne,ob,mA,n,r,q⟩:=(show Ay P w H h a (.ins C dx fs) from Aj a _ e)
 exact⟨mA,⟨ob,n,ne⟩,r,q,z,d⟩
end
structure C2 (K:Frag)(C:Addr):Prop where
 pg:plainGet K C Str.empty=true
 hd:hasDictIn K C=true
 po:plainOver K C=true
 sa:findIn K (.ref C) "__setattr__" = some (some (.builtin "object.__setattr__"))
theorem C2.get {K:Frag}{C:Addr}(c:C2 K C)(f:Str):plainGet K C f=true:=c.pg
noncomputable def Aq (K:Frag)(C:Addr)(f:Str):Prop:=findIn K (.ref C) f=some none
theorem Aq.Ky {K:Frag}{C:Addr}{f:Str}(n:Aq K C f):PySem.W.takerIn K C f=some none:=by
 unfold PySem.W.takerIn
 rw[show findIn K (.ref C) f=some none from n]
 rfl
structure bz (K:Frag)(C:Addr)(m:Str)(f:Addr):Prop where
 at_:findIn K (.ref C) m=some (some (.ref f))
 fn:isFn K (.ref f)=true
 kp:keepIn K (.ref f)=true
section
variable {X:Cx}{pins:List (Addr × Obj)}{σ:St}{H:Hp}{s:Shared}{a C dx:Addr}{fs:List (Str × V)}{f:Str}{v:V}{A:Around}{E:Value->Shared->Prop}
theorem j0 {b:Bool}{Q:Value->Shared->Prop}(I:Inv X pins σ H s)(e:H a=some (.ins C dx fs))(c:C2 X.K C)(n:Aq X.K C f)(l:fs.lookup f=some v)
  (h:∀ u s',Inv X pins σ H s'->RelV v u->Q u s'):wpAny (model X.prog X.w) A (getAttr (.ref a) f b) Q E s:=by
 obtain⟨mA,O,r,_,_,_⟩:=iQ I.Aj e
 obtain⟨u,hu,ru⟩:=AY.some_of (v:=v) (o:=mA f) (by rw[← l];exact r f)
 exact wW I.Bh O (c.get f) c.hd n hu (rq ru) (h u _ (I.tok _) ru)
theorem jz {m:Str}{g:Addr}{pl:Sem Bool}{Q:Value × List Value->Shared->Prop}(I:Inv X pins σ H s)(e:H a=some (.ins C dx fs))(c:C2 X.K C)(k:bz X.K C m g)(l:fs.lookup m=none)
  (h:Q (.ref g,[.ref a]) s):wpAny (model X.prog X.w) A (getMethod (.ref a) m pl) Q E s:=by
 obtain⟨mA,O,r,_,_,_⟩:=iQ I.Aj e
 have hn:mA m=none:=AY.none_of (by rw[← l];exact r m)
 exact uL I.Bh O (c.get m) k.at_ k.fn hn h
theorem jd {y:V}{u:Value}{Q:Unit->Shared->Prop}(I:Inv X pins σ H s)(e:H a=some (.ins C dx fs))(c:C2 X.K C)(n:Aq X.K C f)(hl:fs.length < 1000)(ry:RelV y u)
  (h:∀ s',Inv X pins σ (upd H a (.ins C dx (aJ f y fs))) s'->Q () s'):wpAny (model X.prog X.w) A (setAttr (.ref a) f u) Q E s:=by
 obtain⟨mA,O,r,wi,_,ho⟩:=iQ I.Aj e
 have hz:(fs.map (·.1)).length <= sizeLine:=by rw[length_map,sizeLine_eq];omega
 refine v7 I.Bh O c.sa c.po n.Ky c.hd wi hz fun h' O' sb=>h _ ?_
 have hd:∃ o,h'.get? dx=some o:=let ⟨o,_,_,e',_⟩:=O'.ns; ⟨o,e'⟩
 refine I.write (x:=a) (e:=dx) (by rw[e];exact True.intro) (.inr ho) (fun b q hb z=>(sb.2 b hb).trans z) hd ?_
 refine⟨by rw[ae O.ne];exact ho,?_,O.ne,O'.obj,_,O'.ns,fun g=>?_,fun g hg=>?_⟩
 ·have:=i7 f y fs;omega
 ·show AY ((aJ f y fs).lookup g) (if g=f then some u else mA g)
  rw[eV]
  by_cases q:g=f
  ·rw[if_pos q,if_pos q];exact ry
  ·rw[if_neg q,if_neg q];exact r g
 ·by_cases q:g=f
  ·rw[q];exact(ip f y fs).1
  ·refine(ip f y fs).2 g (wi g fun z=>hg ?_)
   show(if g=f then some u else mA g)=none
   rw[if_neg q];exact z
theorem Inv.made (I:Inv X pins σ H s):Inv X pins σ (upd (upd H s.heap.objs.size (.own (s.heap.objs.size + 1))) (s.heap.objs.size + 1) (.ins C s.heap.objs.size []))
  { s with heap:=(s.heap.push PySem.W.emptyDict).push (PySem.W.instObj C s.heap.objs.size) }:=by
 have e1:(s.heap.push PySem.W.emptyDict).get? s.heap.objs.size=some PySem.W.emptyDict:=Heap.get?_push_size s.heap rfl
 have e2:((s.heap.push PySem.W.emptyDict).push (PySem.W.instObj C s.heap.objs.size)).get? (s.heap.objs.size + 1)=some (PySem.W.instObj C s.heap.objs.size):=by
  have:=Heap.get?_push_size (s.heap.push PySem.W.emptyDict) (o:=PySem.W.instObj C s.heap.objs.size) rfl
  rwa [size_push]at this
 have e3:(s.heap.push PySem.W.emptyDict).Ns s.heap.objs.size (fun _=>none):=⟨PySem.W.emptyDict,#[],_,e1,rfl,(fun e he=>absurd he (by simp)),fun _=>rfl⟩
 have I1:=I.laid (a:=s.heap.objs.size) (o := .own (s.heap.objs.size + 1)) (h':=s.heap.push PySem.W.emptyDict) (t':=s.toks) (fun b u q=>Heap.get?_push_of_some _ q) (le_refl _) ⟨_,e1⟩
 refine I1.laid (a:=s.heap.objs.size + 1) (o := .ins C s.heap.objs.size []) (t':=s.toks) (fun b u q=>Heap.get?_push_of_some _ q) (le_of_eq (size_push _ _)) ?_
 have ne:s.heap.objs.size ≠ s.heap.objs.size + 1:=ne_of_lt (lt_succ_self _)
 refine⟨by rw[ae ne,ac],zero_le _,ne,e2,fun _=>none,(Heap.Ns1.of_empty e3).at fun o q=>Heap.get?_push_of_some _ q,fun _=>True.intro,fun y hy=>absurd rfl hy⟩
theorem xg {prog:Program}{w:World}{env:Env}{e:Expr}{f:Str}{pos:Pos}{s:Shared}{Q:Value->Shared->Prop}(hb:attributeBase e f env (eval e env)=eval e env)
  (h:wpAny (model prog w) A (eval e env) (fun o s₁=>wpAny (model prog w) A (getAttr o f true) Q E s₁) E s):wpAny (model prog w) A (eval (.Attribute e f pos) env) Q E s :=
 Attribute_any_ h (by rw[arm_eval_Attribute,hb])
end
noncomputable def rT (K:Frag)(ta:TE)(f:Str):TE:=fun σ H Q=>ta σ H fun x H1=>∃ a C dx fs v,x = .ref a/\H1 a=some (.ins C dx fs)/\C2 K C/\Aq K C f/\fs.lookup f=some v/\Q v H1
noncomputable def QC (K:Frag)(ta tv:TE)(f:Str):TS:=fun D σ H=>tv σ H fun y H1=>ta σ H1 fun x H2=>∃ a C dx fs,x = .ref a/\H2 a=some (.ins C dx fs)/\C2 K C/\Aq K C f/\fs.length < 1000 /\
 D.nx σ (upd H2 a (.ins C dx (aJ f y fs)))
noncomputable def QD (X:Cx)(op:Operator)(rd:V->V->Hp->VK->Prop):Prop :=
 ∀ (pins:List (Addr × Obj))(s:Shared)(σ:St)(H:Hp)(x y:V)(u v:Value)(Q:VK),Inv X pins σ H s->RelV x u->RelV y v->rd x y H Q->wpAny (model X.prog X.w) X.A (inplaceOp op u v) (EP X pins σ Q) X.xe s
noncomputable def vH (K:Frag)(ta tv:TE)(rd:V->V->Hp->VK->Prop)(f:Str):TS:=fun D σ H=>ta σ H fun x H1=>∃ a C dx fs v,x = .ref a/\H1 a=some (.ins C dx fs)/\C2 K C/\Aq K C f/\fs.lookup f=some v /\
 tv σ H1 fun y H2=>rd v y H2 fun z H3=>∃ DU AS,H3 a=some (.ins C DU AS)/\AS.length < 1000/\D.nx σ (upd H3 a (.ins C DU (aJ f z AS)))
section
variable {X:Cx}{o e value:Expr}{f:Str}{pos pos' DV:Pos}{ta tv:TE}
theorem al (he:PE X e ta)(hb:attributeBase e f X.env (eval e X.env)=eval e X.env):PE X (.Attribute e f pos) (rT X.K ta f):=by
 intro pins s σ H Q I h
 refine xg hb (aR (he pins s σ H _ I h) fun u s1 Af=>?_)
 obtain⟨x,H1,I1,rx,a,C,dx,fs,v,ex,ea,c,n,l,q⟩:=Af
 subst ex
 obtain rfl:u=Value.ref a:=rx
 exact j0 I1 ea c n l fun u' s2 I2 ru=>⟨v,H1,I2,ru,q⟩
theorem aT (ha:PE X o ta)(hv:PE X value tv)(hs:swapsWith value (some (.Attribute o f pos')) pos.line X.env=pure false):PS X (.Assign [.Attribute o f pos'] value pos) (QC X.K ta tv f):=by
 intro pins s σ H D I h
 refine plainObj_wpAny_Assign_Attribute (aR (hv pins s σ H _ I h) fun u s1 ⟨y,H1,I1,ry,q⟩=>aR (ha pins s1 σ H1 _ I1 q) fun ov s2 Af=>?_) hs
 obtain⟨x,H2,I2,rx,a,C,dx,fs,ex,ea,c,n,l,q2⟩:=Af
 subst ex
 obtain rfl:ov=Value.ref a:=rx
 exact jd I2 ea c n l ry fun s3 I3=>⟨σ,_,I3,q2⟩
theorem dI {op:Operator}{rd:V->V->Hp->VK->Prop}(ha:PE X o ta)(hv:PE X value tv)(Kz:QD X op rd):PS X (.AugAssign (.Attribute o f DV) op value pos) (vH X.K ta tv rd f):=by
 intro pins s σ H D I h
 refine wpAny_AugAssign_AttributeAny (aR (ha pins s σ H _ I h) fun ov s1 Af=>?_)
 obtain⟨x,H1,I1,rx,a,C,dx,fs,v,ex,ea,c,n,l,q⟩:=Af
 subst ex
 obtain rfl:ov=Value.ref a:=rx
 refine j0 I1 ea c n l fun u s2 I2 ru=>aR (hv pins s2 σ H1 _ I2 q) fun w3 s3 ⟨y,H2,I3,ry,q3⟩=>aR (Kz pins s3 σ H2 v y u w3 _ I3 ru ry q3) fun w4 s4 Af=>?_
 obtain⟨z,H3,I4,rz,DU,AS,ea',l',q4⟩:=Af
 exact jd I4 ea' c n l' rz fun s5 I5=>⟨σ,_,I5,q4⟩
end
section
variable {X:Cx}{pins:List (Addr × Obj)}{σ:St}{H:Hp}{s:Shared}{A:Around}{E:Value->Shared->Prop}{Q:Value->Shared->Prop}{c:Value}{b:Bool}
inductive iy (K:Frag)(H:Hp):V->Value->Prop where
 | Av:iy K H .Av (.type "NoneType")
 | bl (x:Bool):iy K H (.bl x) (.type "bool")
 | int (i:Int):iy K H (.int i) (.type "int")
 | str (x:Str):iy K H (.str x) (.type "str")
 | HP (x:UInt64):iy K H (.HP x) (.type "float")
 | lst {a:Addr} {xs:List V} (e:H a=some (.lst xs)):iy K H (.ref a) (.type "list")
 | BJ {a:Addr} {o:Obj} {xs:List V} (e:H a=some (.BJ o (.lst xs))):iy K H (.ref a) (.type "list")
 | tup {a:Addr} {xs:List V} (e:H a=some (.tup xs)):iy K H (.ref a) (.type "tuple")
 | dK {a:Addr} {kvs:List (bW × V)} (e:H a=some (.dK kvs)):iy K H (.ref a) (.type "dict")
 | dT {a:Addr} {kvs:List (List bW × V)} (e:H a=some (.dT kvs)):iy K H (.ref a) (.type "dict")
 | ins {a C dx:Addr} {fs:List (Str × V)} (e:H a=some (.ins C dx fs)) (cl:C2 K C) (ha:findIn K (.ref C) "__class__" = some (some (.builtin "object.__class__")))
   (hn:PySem.W.specialIn K (.builtin "object.__class__") "__get__" = some (some (.builtin "getset_descriptor.__get__"))) (VS:PySem.W.takesIn K (.builtin "object.__class__")=some true)
   (hm:PySem.W.mroIn K C (.type "object")=some true):iy K H (.ref a) (.ref C)
theorem rl {x:V}{u t:Value}(I:Inv X pins σ H s)(rx:RelV x u)(ty:iy X.K H x t)(e:kitOne X.K t c=some b)(h:∀ tk,Q (.bool b) { s with toks:=tk }) :
  wpAny (model X.prog X.w) A (call (.builtin "isinstance") [u,c]) Q E s:=by
 cases ty with
 | Av=>cases (show u=Value.none from rx);exact PySem.W.kia_one PySem.W.kitx_none I.Bh True.intro e (fun z=>nomatch z) h
 | bl y=>cases (show u=Value.bool y from rx);exact PySem.W.kia_one PySem.W.kitx_bool I.Bh True.intro e (fun z=>nomatch z) h
 | int i=>obtain⟨t,q⟩:=(show ∃ t,u=Value.int i t from rx);cases q;exact PySem.W.kia_one PySem.W.kitx_int I.Bh True.intro e (fun z=>nomatch z) h
 | str y=>obtain⟨t,q⟩:=(show ∃ t,u=Value.str y t from rx);cases q;exact PySem.W.kia_one PySem.W.kitx_str I.Bh True.intro e (fun z=>nomatch z) h
 | HP y=>obtain⟨t,q⟩:=(show ∃ t,u=Value.float y t from rx);cases q;exact PySem.W.kia_one PySem.W.kitx_float I.Bh True.intro e (fun z=>nomatch z) h
 | @lst a xs ea =>
  cases (show u=Value.ref a from rx)
  obtain⟨_,_,n,_,h1⟩:=(show Ay X.prog X.w H s.heap a (.lst xs) from I.Aj a _ ea)
  exact PySem.W.kia_one PySem.W.kitx_list I.Bh ⟨_,h1,rfl⟩ e (fun z=>nomatch z) h
 | @BJ a ob xs ea =>
  cases (show u=Value.ref a from rx)
  obtain⟨_,_,_,n,_,h1⟩:=(show Ay X.prog X.w H s.heap a (.BJ ob (.lst xs)) from I.Aj a _ ea)
  exact PySem.W.kia_one PySem.W.kitx_list I.Bh ⟨_,h1,rfl⟩ e (fun z=>nomatch z) h
 | @tup a xs ea =>
  cases (show u=Value.ref a from rx)
  obtain⟨_,_,_,p⟩:=(show Ay X.prog X.w H s.heap a (.tup xs) from I.Aj a _ ea)
  obtain⟨o,h1,⟨h2,_⟩,_⟩:=p
  exact PySem.W.kia_one PySem.W.kitx_tuple I.Bh ⟨o,h1,h2⟩ e (fun z=>nomatch z) h
 | @dK a kvs ea =>
  cases (show u=Value.ref a from rx)
  obtain⟨_,_,vs,_,p⟩:=(show Ay X.prog X.w H s.heap a (.dK kvs) from I.Aj a _ ea)
  obtain⟨o,es,ep,h1,h2,_⟩:=p
  exact PySem.W.kia_one PySem.W.kitx_dict I.Bh ⟨o,h1,h2.1⟩ e (fun z=>nomatch z) h
 | @dT a kvs ea =>
  cases (show u=Value.ref a from rx)
  obtain⟨_,_,xs,_,o,es,ep,h1,h2,_⟩:=(show Ay X.prog X.w H s.heap a (.dT kvs) from I.Aj a _ ea)
  exact PySem.W.kia_one PySem.W.kitx_dict I.Bh ⟨o,h1,h2.1⟩ e (fun z=>nomatch z) h
 | @ins a C dx fs ea cl ha hn VS hm =>
  cases (show u=Value.ref a from rx)
  obtain⟨mA,O,_⟩:=iQ I.Aj ea
  obtain⟨od,J,_⟩:=O.look
  exact PySem.W.kia_one (PySem.W.kitx_own (cl.get _) cl.hd ha hn VS hm) I.Bh J e (fun z=>nomatch z) h
end
end L2
namespace L2
open PySem PySem.Spec PyProof.Rows
structure Al (k:Nat)(A:Around):Prop where
 hd:A.handled=none
 dp:A.depth + 3 * k + 5 < recursionLimit
 un:A.units + 16 * k + 200 < cLine
theorem Al.mono {j k:Nat}{A:Around}(r:Al k A)(h:j <= k):Al j A:=⟨r.hd,by have:=r.dp;omega,by have:=r.un;omega⟩
theorem Al.deeper {k:Nat}{A:Around}(r:Al (k + 1) A)(env:Env):Al k (A.deeper env) :=
 ⟨r.hd,by have:=r.dp;show A.depth + 1 + 3 * k + 5 < _;omega,by have:=r.un;show A.units + 3 + 16 * k + 200 < _;omega⟩
theorem oG {A:Around}{C:Addr}{us:List Value}{kw:List (Str × Value)}:(A.under (.builtin "type.__call__" ⟨.ref C :: us,kw⟩)).depth=A.depth + 1:=by
 first | rfl | simp[Around.under,Code.weight,Code.isCreation,Code.isGuard,Code.isCaller,Code.frames,Code.isFrame,guardIds]
theorem oF {A:Around}{C:Addr}{us:List Value}{kw:List (Str × Value)}:(A.under (.builtin "type.__call__" ⟨.ref C :: us,kw⟩)).units=A.units + 1:=by
 first | rfl | simp[Around.under,Code.cUnits,Code.frames,Code.isFrame]
theorem Al.make {k:Nat}{A:Around}(r:Al (k + 1) A)(C:Addr)(us:List Value)(kw:List (Str × Value)):Al k (A.under (.builtin "type.__call__" ⟨.ref C :: us,kw⟩)) :=
 ⟨r.hd,by have:=r.dp;rw[oG];omega,by have:=r.un;rw[oF];omega⟩
theorem Al.depth {k:Nat}{A:Around}(r:Al k A):A.depth < recursionLimit:=by have:=r.dp;omega
theorem Al.units {k:Nat}{A:Around}(r:Al k A):A.units + 64 < cLine:=by have:=r.un;omega
noncomputable def K0:TA:=fun _ H Q=>Q [] H
noncomputable def K1 (ta:TE)(tr:TA):TA:=fun σ H Q=>ta σ H fun x H1=>tr σ H1 fun xs H2=>Q (x :: xs) H2
section
variable {X:Cx}{e:Expr}{es:List Expr}{te:TE}{t:TA}{pos:Pos}
theorem ad:PA X [] K0:=fun _ _ _ _ H Q I h=>Calls.spliced_nil ⟨[],H,I, .nil,h⟩
theorem aa (ha:PE X e te)(hr:PA X es t)(hs:starEach (e :: es) X.env=(false,eval e X.env) :: starEach es X.env:=by rfl):PA X (e :: es) (K1 te t):=by
 intro pos pins s σ H Q I h
 rw[hs]
 show wpAny _ _ (spliced ((false,eval e X.env) :: backTo pos (starEach es X.env))) _ _ s
 refine Calls.spliced_cons (aR (ha pins s σ H _ I h) fun u s1 Af=>?_)
 obtain⟨x,H1,I1,r1,q1⟩:=Af
 exact aR (hr pos pins s1 σ H1 _ I1 q1) fun us s2 Af=>by obtain⟨xs,H2,I2,r2,q2⟩:=Af;exact⟨x :: xs,H2,I2, .cons r1 r2,q2⟩
noncomputable def QE (t:TA):TE:=fun σ H Q=>t σ H fun xs H1=>xs.length <= sizeLine/\∀ p,H1 p=none->Q (.ref p) (upd H1 p (.tup xs))
noncomputable def QF (t:TA):TE:=fun σ H Q=>t σ H fun xs H1=>xs.length <= sizeLine/\∀ p,H1 p=none->Q (.ref p) (upd H1 p (.lst xs))
theorem bJ {x1} (h:PA X es t):PE X (.Tuple es x1 pos) (QE t):=by
 intro pins s σ H Q I hq
 refine wpAny_Tuple_spliced (aR (h pos pins s σ H _ I hq) fun us s1 ⟨xs,H1,I1,r,z,q⟩=>⟨by rw[← r.length];exact z,?_⟩)
 have hf:H1 s1.heap.objs.size=none:=I1.Aj.fresh (le_refl _)
 refine⟨.ref s1.heap.objs.size,upd H1 s1.heap.objs.size (.tup xs),I1.laid (t':=s1.toks) (fun b u e=>Heap.get?_push_of_some _ e) (le_refl _) ?_,rfl,q _ hf⟩
 exact⟨z,us,r,⟨_,Heap.get?_push_size _ rfl,⟨rfl,_,rfl⟩,rfl⟩⟩
theorem aX (h:PA X es t):PE X (.List es pos) (QF t):=by
 intro pins s σ H Q I hq
 refine wpAny_List_spliced (aR (h pos pins s σ H _ I hq) fun us s1 ⟨xs,H1,I1,r,z,q⟩=>⟨by rw[← r.length];exact z,?_⟩)
 have hf:H1 s1.heap.objs.size=none:=I1.Aj.fresh (le_refl _)
 refine⟨.ref s1.heap.objs.size,upd H1 s1.heap.objs.size (.lst xs),I1.laid (t':=s1.toks) (fun b u e=>Heap.get?_push_of_some _ e) (le_refl _) ?_,rfl,q _ hf⟩
 exact⟨z,us,0,r,Heap.get?_push_size _ rfl⟩
end
noncomputable abbrev Sp:=List V->Hp->VK->XK->Prop
noncomputable abbrev lD:=List Env->Hp->Shared->XK->Value->Shared->Prop
structure CW (P:Program)(w:World)(K:Frag)(mg:Str->Option Value)(base:Heap)(A:Around)(outer:List Env)(s:Shared)(H:Hp):Prop where
 frames:A.frames=some outer
 mod:Mod K mg base
 bs:∀ b o,base.get? b=some o->s.heap.get? b=some o/\H b=none
 Ek:base.objs.size <= s.heap.objs.size
 Bx:s.heap.FunFrames base outer
 EX:∀ b ∈ j2 outer,H b=none
 Aj:Bk P w H s.heap
 bare:AllBare s.gens
noncomputable def CE (outer:List Env)(P:Program)(w:World)(H:Hp)(s:Shared)(Q:VK)(u:Value)(s':Shared):Prop :=
 ∃ v H',s'.os=s.os/\AllBare s'.gens/\Un (j2 outer) [] H H' s.heap s'.heap/\Bk P w H' s'.heap/\RelV v u/\Q v H'
noncomputable def CR (CX:lD)(outer:List Env)(P:Program)(w:World)(H:Hp)(s:Shared)(Q:VK)(E:XK)(r:Result)(s':Shared):Prop :=
 match r with
 | .ok (.ret u)=>CE outer P w H s Q u s'
 | .ok _=>False
 | .error e=>CX outer H s E e s'
structure Ac (P:Program)(w:World)(K:Frag)(mg:Str->Option Value)(base:Heap)(CX:lD)(k:Nat)(f:Addr)(fd:FuncData)(ps:List Str)(sp:Sp):Prop where
 len:∀ vs H Q E,sp vs H Q E->vs.length=ps.length
 run:∀ (A:Around)(outer:List Env)(s:Shared)(H:Hp)(args:Args)(us:List Value)(vs:List V)(Q:VK)(E:XK),Al k A->CW P w K mg base A outer s H->BindsTo s fd args (ps.zip us)->Vals vs us->sp vs H Q E ->
  codeAny (model P w) A (.call (.ref f) args) (CR CX outer P w H s Q E) s
theorem Ac.imp {P:Program}{w:World}{K:Frag}{mg:Str->Option Value}{base:Heap}{CX:lD}{k:Nat}{f:Addr}{fd:FuncData}{ps:List Str}{sp VT:Sp}(F:Ac P w K mg base CX k f fd ps sp)
  (h:∀ vs H Q E,VT vs H Q E->sp vs H Q E):Ac P w K mg base CX k f fd ps VT :=
 ⟨fun vs H Q E q=>F.len vs H Q E (h _ _ _ _ q),fun A outer s H args us vs Q E hr he hb hv hs=>F.run A outer s H args us vs Q E hr he hb hv (h _ _ _ _ hs)⟩
theorem CW.make {P:Program}{w:World}{K:Frag}{mg:Str->Option Value}{base:Heap}{A:Around}{outer:List Env}{s:Shared}{H:Hp}(e:CW P w K mg base A outer s H)(C:Addr)(us:List Value)(kw:List (Str × Value)) :
  CW P w K mg base (A.under (.builtin "type.__call__" ⟨.ref C :: us,kw⟩)) outer s H:=⟨by first | exact e.frames | (simpa [Around.under,Code.envs,Code.isFrame,pushEnvs] using e.frames),e.mod,e.bs,e.Ek,e.Bx,e.EX,e.Aj,e.bare⟩
section
variable {X:Cx}{pins:List (Addr × Obj)}{σ:St}{H:Hp}{s s':Shared}
theorem Inv.HV (I:Inv X pins σ H s):CW X.prog X.w X.K X.mg X.base X.A X.stack s H :=
 ⟨I.ok.frames,I.ok.mod,I.bs,le_trans I.ok.Ek I.sz,I.stack,I.Cd,I.Aj,I.bare⟩
theorem Inv.after {Q:VK}{u:Value}(I:Inv X pins σ H s)(h:CE X.stack X.prog X.w H s Q u s'):EP X pins σ Q u s':=by
 obtain⟨v,H',os,bare,un,Aj,r,q⟩:=h
 obtain⟨hh,g,d,t,os'⟩:=s'
 obtain rfl:os' = s.os:=os
 exact⟨v,H',I.call (h':=hh) (g':=g) (d':=d) (t':=t) (ch:=[]) un Aj bare (fun b z=>absurd z (by simp)),r,q⟩
end
noncomputable def K2 (sp:Sp)(AE:List V)(E:XK)(t:TA):TE:=fun σ H Q=>t σ H fun vs H1=>sp (vs ++ AE) H1 Q E
noncomputable def xt (C:Addr)(m:Str)(sp:Sp)(AE:List V)(E:XK)(ta:TE)(t:TA):TE:=fun σ H Q=>ta σ H fun x H1=>∃ a dx fs,x = .ref a/\H1 a=some (.ins C dx fs)/\fs.lookup m=none /\
 t σ H1 fun vs H2=>sp (x :: (vs ++ AE)) H2 Q E
noncomputable def K3 (C:Addr)(sp:Sp)(AE:List V)(E:XK)(t:TA):TE:=fun σ H Q=>t σ H fun vs H1=>∀ x dx,H1 x=none->H1 dx=none->dx ≠ x ->
 sp (.ref x :: (vs ++ AE)) (upd (upd H1 dx (.own x)) x (.ins C dx [])) (fun v H2=>v = .Av/\Q (.ref x) H2) E
noncomputable def Binds (K:Frag)(fd:FuncData)(ps:List Str)(ds:List Value):Prop :=
 ∀ (s:Shared)(us:List Value),K.In s.heap->(us ++ ds).length=ps.length->BindsTo s fd ⟨us,[]⟩ (ps.zip (us ++ ds))
theorem Binds.all {K:Frag}{fd:FuncData}{ps:List Str}(h:∀ us:List Value,us.length=ps.length->bindArgs fd ⟨us,[]⟩ = pure (ps.zip us)):Binds K fd ps []:=fun s us _ hl=>by
 rw[append_nil]at hl ⊢
 exact .of_eq (h us hl)
noncomputable def cy (CX:lD)(X:Cx)(E:XK):Prop:=∀ (pins:List (Addr × Obj))(σ:St)(H:Hp)(s:Shared)(e:Value)(s':Shared),Inv X pins σ H s->CX X.stack H s E e s'->X.xe e s'
section
variable {X:Cx}{CX:lD}{k:Nat}{f C:Addr}{fd:FuncData}{ps:List Str}{sp:Sp}{AE:List V}{ds:List Value}{E:XK}{x m:Str}{p pos apos:Pos}{e o:Expr}{es:List Expr}{ta:TE}{t:TA}
theorem jh {pins:List (Addr × Obj)}{σ:St}{H:Hp}{s:Shared}{Q:VK}{us:List Value}{vs:List V}(F:Ac X.prog X.w X.K X.mg X.base CX k f fd ps sp)(hr:Al k X.A)(hb:Binds X.K fd ps ds)(hd:Vals AE ds)(hx:cy CX X E)
  (I:Inv X pins σ H s) (r:Vals vs us) (h:sp (vs ++ AE) H Q E):wpAny (model X.prog X.w) X.A (call (.ref f) us) (EP X pins σ Q) X.xe s:=by
 have r2:Vals (vs ++ AE) (us ++ ds):=r.append hd
 have hl:(us ++ ds).length=ps.length:=by rw[← r2.length];exact F.len _ _ _ _ h
 refine wpAny_call (codeAny_mono (F.run X.A X.stack s H ⟨us,[]⟩ (us ++ ds) (vs ++ AE) Q E hr I.HV (hb s us I.Bh hl) r2 h) fun r s' hq=>?_)
 cases r with
 | error e=>exact hx pins σ H s e s' I hq
 | ok fl =>
  cases fl with
  | ret u=>exact I.after hq
  | next=>exact False.elim hq
  | brk=>exact False.elim hq
  | cont=>exact False.elim hq
theorem au (F:Ac X.prog X.w X.K X.mg X.base CX k f fd ps sp)(hr:Al k X.A)(hg:Gl X x)(hm:X.mg x=some (.ref f))(hk:keepIn X.K (.ref f)=true)(hb:Binds X.K fd ps ds)(hd:Vals AE ds)(hx:cy CX X E)
  (ha:PA X (e :: es) t) (Dz:(x == ("__debug__":Str))=false:=by decide) (he:starEach (e :: es) X.env=(false,eval e X.env) :: starEach es X.env:=by rfl) (B4:(backTo pos (starEach es X.env)).any (·.1)=false:=by rfl) :
  PE X (.Call (.Name x p) (e :: es) [] pos) (K2 sp AE E t):=by
 intro pins s σ H Q I h
 refine wpAny_Call_Name_kw (fD I hg hm ?_ Dz)
 refine PySem.W.callWith_K (h₀:=X.base) I.ok.mod.CM hk (aR (ha pos pins s σ H _ I h) fun us s1 ⟨vs,H1,I1,r,q⟩=>⟨I1.Bh,?_⟩) he B4
 exact jh F hr hb hd hx I1 r q
theorem aD {pl:Sem Bool}(he:PE X o ta)(c:C2 X.K C)(hm:bz X.K C m f)(F:Ac X.prog X.w X.K X.mg X.base CX k f fd ps sp)(hr:Al k X.A)(hb:Binds X.K fd ps ds)(hd:Vals AE ds)(hx:cy CX X E)(ha:PA X (e :: es) t)
  (CV:starEach (e :: es) X.env=(false,eval e X.env) :: starEach es X.env:=by rfl) (B4:(backTo pos (starEach es X.env)).any (·.1)=false:=by rfl)
  (ht:eval (.Call (.Attribute o m apos) (e :: es) [] pos) X.env=(do
   let ov ← eval o X.env
   standAt apos.atName
   let (f,first) ← holding [ov] (getMethod ov m pl)
   callWith pos f first (backTo pos (starEach (e :: es) X.env)) (backToKw pos (keywordEach [] X.env))):=by rfl) :
  PE X (.Call (.Attribute o m apos) (e :: es) [] pos) (xt C m sp AE E ta t):=by
 intro pins s σ H Q I h
 refine PySem.W.methodCall_KW (pl:=pl) (aR (he pins s σ H _ I h) fun u s1 Af=>?_) ht
 obtain⟨x,H1,I1,rx,a,dx,fs,ex,ea,l,q⟩:=Af
 subst ex
 obtain rfl:u=Value.ref a:=rx
 refine jz I1 ea c hm l ?_
 refine PySem.W.callWith_K (first:=[.ref a]) (h₀:=X.base) I.ok.mod.CM hm.kp (aR (ha pos pins s1 σ H1 _ I1 q) fun us s2 ⟨vs,H2,I2,r,q2⟩=>⟨I2.Bh,?_⟩) CV B4
 exact jh (us := .ref a :: us) (vs := .ref a :: vs) F hr hb hd hx I2 (.cons rfl r) q2
theorem aW {pl:Sem Bool}(he:PE X o ta)(c:C2 X.K C)(hm:bz X.K C m f)(F:Ac X.prog X.w X.K X.mg X.base CX k f fd ps sp)(hr:Al k X.A)(hb:Binds X.K fd ps ds)(hd:Vals AE ds)(hx:cy CX X E)
  (ht:eval (.Call (.Attribute o m apos) [] [] pos) X.env=(do
   let ov ← eval o X.env
   standAt apos.atName
   let (f,first) ← holding [ov] (getMethod ov m pl)
   callWith pos f first (backTo pos (starEach [] X.env)) (backToKw pos (keywordEach [] X.env))):=by rfl) :
  PE X (.Call (.Attribute o m apos) [] [] pos) (xt C m sp AE E ta K0):=by
 intro pins s σ H Q I h
 refine PySem.W.methodCall_KW (pl:=pl) (aR (he pins s σ H _ I h) fun u s1 Af=>?_) ht
 obtain⟨x,H1,I1,rx,a,dx,fs,ex,ea,l,q⟩:=Af
 subst ex
 obtain rfl:u=Value.ref a:=rx
 refine jz I1 ea c hm l ?_
 exact PySem.W.callWith_K0 (first:=[.ref a]) I1.Bh hm.kp (jh (us:=[.ref a]) (vs:=[.ref a]) F hr hb hd hx I1 (.cons rfl .nil) q)
structure Mk (K:Frag)(C f:Addr):Prop where
 makes:makesIn K C=true
 init:findIn K (.ref C) "__init__" = some (some (.ref f))
 fn:isFn K (.ref f)=true
 kp:keepIn K (.ref C)=true
theorem tF {pins:List (Addr × Obj)}{σ:St}{H:Hp}{s:Shared}{Q:VK}{us:List Value}{vs:List V}(M:Mk X.K C f)(F:Ac X.prog X.w X.K X.mg X.base CX k f fd ps sp)(hr:Al (k + 1) X.A)(hb:Binds X.K fd ps ds)(hd:Vals AE ds)
  (hx:cy CX X E) (I:Inv X pins σ H s) (r:Vals vs us)
  (h:∀ x dx,H x=none->H dx=none->dx ≠ x->sp (.ref x :: (vs ++ AE)) (upd (upd H dx (.own x)) x (.ins C dx [])) (fun v H2=>v = .Av/\Q (.ref x) H2) E) :
  wpAny (model X.prog X.w) X.A (call (.ref C) us) (EP X pins σ Q) X.xe s:=by
 have hq:=h (s.heap.objs.size + 1) s.heap.objs.size (I.Aj.fresh (le_succ _)) (I.Aj.fresh (le_refl _)) (ne_of_lt (lt_succ_self _))
 have I2:=Inv.made (C:=C) I
 have r2:Vals (V.ref (s.heap.objs.size + 1) :: (vs ++ AE)) (Value.ref (s.heap.objs.size + 1) :: (us ++ ds)) := .cons rfl (r.append hd)
 have hl:(Value.ref (s.heap.objs.size + 1) :: us ++ ds).length=ps.length:=by
  have e:=r2.length
  rw[F.len _ _ _ _ hq]at e
  exact e.symm
 refine wpAny_call (uF (f:=f) I.Bh M.makes M.init (beq_iff_eq.mp M.fn) (codeAny_mono (F.run _ X.stack _ _ ⟨Value.ref (s.heap.objs.size + 1) :: us,[]⟩ (Value.ref (s.heap.objs.size + 1) :: (us ++ ds)) _ _ E (hr.make C us [])
  (I2.HV.make C us []) (hb _ (Value.ref (s.heap.objs.size + 1) :: us) I2.Bh hl) r2 hq) fun r s' BU=>?_))
 cases r with
 | error e=>exact hx pins σ _ _ e s' I2 BU
 | ok fl =>
  cases fl with
  | ret u =>
   obtain⟨v,H',I3,rv,ev,q3⟩:=I2.after BU
   subst ev
   exact⟨rv,⟨V.ref (s.heap.objs.size + 1),H',I3,rfl,q3⟩⟩
  | next=>exact False.elim BU
  | brk=>exact False.elim BU
  | cont=>exact False.elim BU
theorem c4 (M:Mk X.K C f)(F:Ac X.prog X.w X.K X.mg X.base CX k f fd ps sp)(hr:Al (k + 1) X.A)(hg:Gl X x)(hm:X.mg x=some (.ref C))(hb:Binds X.K fd ps ds)(hd:Vals AE ds)(hx:cy CX X E)
  (ha:PA X (e :: es) t) (Dz:(x == ("__debug__":Str))=false:=by decide) (he:starEach (e :: es) X.env=(false,eval e X.env) :: starEach es X.env:=by rfl) (B4:(backTo pos (starEach es X.env)).any (·.1)=false:=by rfl) :
  PE X (.Call (.Name x p) (e :: es) [] pos) (K3 C sp AE E t):=by
 intro pins s σ H Q I h
 refine wpAny_Call_Name_kw (fD I hg hm ?_ Dz)
 refine PySem.W.callWith_K (h₀:=X.base) I.ok.mod.CM M.kp (aR (ha pos pins s σ H _ I h) fun us s1 ⟨vs,H1,I1,r,q⟩=>⟨I1.Bh,?_⟩) he B4
 exact tF M F hr hb hd hx I1 r q
end
section
variable {X:Cx}{CX:lD}{k:Nat}{f C:Addr}{fd:FuncData}{ps ks:List Str}{sp:Sp}{E:XK}{x m:Str}{p pos apos kpos:Pos}{e o:Expr}{es:List Expr}{kws:List Keyword}{te ta:TE}{t tk:TA}{nm:Option Str}
variable {g:List Value->List Value->List Value}{gV:List V->List V->List V}
end
structure ao (N P:List Str)(sc:Scope):Prop where
 kind:sc.kind = .function
 co:sc.isCoroutine=false
 gen:sc.isGenerator=false
 nd:N.Nodup
 pre:N.take P.length=P
 par:∀ x ∈ P,sc.names.lookup x=some .local∨sc.names.lookup x=some .cell
 HW:∀ y ∈ sc.names,y.2 ≠ .free
theorem kC {kindOf:Str->Option NameKind}{x:Str}:∀ {binds:List (Str × Value)}{m:Str->Option Value},(∀ v,(x,v) ∉ binds)->bindL kindOf binds m x=m x
 | [],_,_=>rfl
 | (n,v) :: r,m,h=>by
  unfold bindL
  rw[kC fun w hw=>h w (mem_cons_of_mem _ hw)]
  split
  ·have:x ≠ n:=by rintro rfl;exact h v mem_cons_self
   simp[this]
  ·rfl
theorem kE {kindOf:Str->Option NameKind}{x:Str}:∀ {binds:List (Str × Value)}{m:Str->Option Value},(∀ v,(x,v) ∉ binds)->bindC kindOf binds m x=m x
 | [],_,_=>rfl
 | (n,v) :: r,m,h=>by
  unfold bindC
  rw[kE fun w hw=>h w (mem_cons_of_mem _ hw)]
  split
  ·rfl
  ·have:x ≠ n:=by rintro rfl;exact h v mem_cons_self
   simp[this]
theorem kD {kindOf:Str->Option NameKind}{x:Str}{v:Value}:∀ {P:List Str}{vs:List Value}{i:Nat}{m:Str->Option Value},P.Nodup->P[i]? = some x->vs[i]? = some v->kindOf x=some .local ->
  bindL kindOf (P.zip vs) m x=some v
 | [],_,_,_,_,h,_,_=>by simp at h
 | _ :: _,[],_,_,_,_,h,_=>by simp at h
 | p :: P,w :: vs,0,m,nd,h1,h2,hk=>by
  simp at h1 h2;subst h1;subst h2
  show bindL kindOf ((p,w) :: P.zip vs) m p=_
  unfold bindL
  rw[kC fun v hv=>(nodup_cons.mp nd).1 (of_mem_zip hv).1,if_pos hk]
  simp
 | p :: P,w :: vs,i + 1,m,nd,h1,h2,hk=>by
  show bindL kindOf ((p,w) :: P.zip vs) m x=_
  unfold bindL
  exact kD (i:=i) (nodup_cons.mp nd).2 (by simpa using h1) (by simpa using h2) hk
theorem kF {kindOf:Str->Option NameKind}{x:Str}{v:Value}:∀ {P:List Str}{vs:List Value}{i:Nat}{m:Str->Option Value},P.Nodup->P[i]? = some x->vs[i]? = some v->kindOf x ≠ some .local ->
  bindC kindOf (P.zip vs) m x=some v
 | [],_,_,_,_,h,_,_=>by simp at h
 | _ :: _,[],_,_,_,_,h,_=>by simp at h
 | p :: P,w :: vs,0,m,nd,h1,h2,hk=>by
  simp at h1 h2;subst h1;subst h2
  show bindC kindOf ((p,w) :: P.zip vs) m p=_
  unfold bindC
  rw[kE fun v hv=>(nodup_cons.mp nd).1 (of_mem_zip hv).1,if_neg hk]
  simp
 | p :: P,w :: vs,i + 1,m,nd,h1,h2,hk=>by
  show bindC kindOf ((p,w) :: P.zip vs) m x=_
  unfold bindC
  exact kF (i:=i) (nodup_cons.mp nd).2 (by simpa using h1) (by simpa using h2) hk
noncomputable def start (N:List Str)(vs:List V):St:=vs.map some ++ List.replicate (N.length - vs.length) none
noncomputable def iu (CX:lD)(P:Program)(w:World)(K:Frag)(mg:Str->Option Value)(base:Heap)(N:List Str)(qual:Str)(scope:Scope)(f:Addr)(cd:Value)(A:Around)(outer:List Env)(s:Shared)(H:Hp)(E:XK):Cx where
 prog:=P
 w:=w
 K:=K
 mg:=mg
 base:=base
 A:=A.deeper (envOfC qual scope s.heap.objs.size f cd)
 N:=N
 s₀:=s
 H₀:=H
 env:=envOfC qual scope s.heap.objs.size f cd
 outer:=outer
 stack:=envOfC qual scope s.heap.objs.size f cd :: outer
 ex:=[]
 calm:=true
 fn:=fun _=>true
 pn:=[]
 xe:=fun e s'=>wpAny (model P w) (A.deeper (envOfC qual scope s.heap.objs.size f cd)) (leaving (envOfC qual scope s.heap.objs.size f cd) e) (fun _ E4=>CX outer H s E e E4) (fun e' E4=>CX outer H s E e' E4) s'
theorem na {sc:Scope}{n:Nat}{x:Str}(h:sc.names.lookup x=some .cell):∃ c,(cellsFrom n sc.names []).lookup x=some c:=by
 have q:=PySem.W.cellsFrom_some sc.names n [] (.inl h)
 exact Option.isSome_iff_exists.mp q
theorem rm {CX:lD}{P:Program}{w:World}{K:Frag}{mg:Str->Option Value}{base:Heap}{N ps:List Str}{qual:Str}{scope:Scope}{f:Addr}{cd:Value}{A:Around}{outer:List Env}{s s1:Shared}{H:Hp}{E:XK}{us:List Value}{vs:List V}
  (S:ao N ps scope) (hd:A.handled=none) (e0:CW P w K mg base A outer s H) (hl:vs.length=ps.length) (r:Vals vs us)
  (x:InCallC s s.heap.objs.size (bindL (envOfC qual scope s.heap.objs.size f cd).kindOf (ps.zip us) fun _=>none) (cellsFrom (s.heap.objs.size + 1) scope.names []) (bindC (envOfC qual scope s.heap.objs.size f cd).kindOf (ps.zip us) fun _=>none) s1) :
  Inv (iu CX P w K mg base N qual scope f cd A outer s H E) [] (start N vs) H s1:=by
 have B4:ps.length <= N.length:=by have:=congrArg List.length S.pre;rw[length_take]at this;omega
 obtain⟨h1,tk,rfl,hk⟩:=x.done
 have Ft:∀ b:Addr,b ∉ (iu CX P w K mg base N qual scope f cd A outer s H E).ex:=fun b z=>absurd (show b ∈ ([]:List Addr) from z) (by simp)
 refine⟨⟨e0.mod,S.kind,rfl,rfl,le_refl _,fun y z c h1 h2=>?_,fun y hy=>?_,fun y c _ h=>?_,fun _=>hd,Around.frames_deeper e0.frames, .inr ⟨rfl,rfl⟩,fun b z=>absurd z (Ft b),e0.bs,e0.Ek,fun b _ _=>Ft b,fun b z=>absurd z (Ft b),e0.Bx,e0.EX⟩,
  rfl,e0.bare,Un.kept hk,⟨_,x.toInCall.ns,fun i y v h1 h2 h3=>?_⟩,fun y c h=>⟨_,x.cell y c h⟩,e0.Aj.fresh (le_refl _),fun y c h=>?_,fun p hp=>absurd (show p ∈ ([]:List (Addr × Obj)) from hp) (by simp),e0.Aj.kept hk,?_⟩
 ·exact name_of_addr x.apart (PySem.mem_of_lookup h1) (PySem.mem_of_lookup h2)
 ·have hy:scope.names.lookup y=some .cell∨scope.names.lookup y=some .free:=hy
  rcases hy with hy | hy
  ·exact na hy
  ·exact absurd rfl (S.HW _ (PySem.mem_of_lookup hy))
 ·exact le_of_lt (x.above y c (PySem.mem_of_lookup h))
 ·have hi:i < vs.length:=by
   unfold start at h2
   by_cases hi:i < vs.length
   ·exact hi
   ·rw[List.getElem?_append_right (by simpa using hi)]at h2
    rw[List.getElem?_replicate]at h2
    split at h2<;>cases h2
  have ha:vs[i]? = some v:=by
   unfold start at h2
   rw[List.getElem?_append_left (by simpa using hi),List.getElem?_map]at h2
   cases e:vs[i]? with
   | none=>rw[e]at h2;cases h2
   | some a=>rw[e]at h2;cases h2;rfl
  obtain⟨u,hu,rv⟩:=r.get ha
  have hp:ps[i]? = some y:=by
   rw[← S.pre,List.getElem?_take_of_lt (by omega)];exact h1
  have OG:ps.Nodup:=by rw[← S.pre];exact S.nd.sublist (List.take_sublist _ _)
  refine⟨u,rv,?_⟩
  rcases S.par y (mem_of_getElem? hp) with k | k
  ·exact .inl ⟨k,kD OG hp hu k⟩
  ·obtain⟨c,e⟩:=na (n:=s.heap.objs.size + 1) k
   refine .inr ⟨.inl k,c,e,?_⟩
   have q:=x.cell y c e
   rw[kF OG hp hu (by show scope.names.lookup y ≠ _;rw[k];decide)]at q
   exact q
 ·exact e0.Aj.fresh (le_of_lt (x.above y c (PySem.mem_of_lookup h)))
 ·unfold start
  show _=N.length
  rw[length_append,length_map,length_replicate]
  omega
theorem qm {CX:lD}{P:Program}{w:World}{K:Frag}{mg:Str->Option Value}{base:Heap}{k:Nat}{f:Addr}{name qual:Str}{params:Arguments}{body:List Stmt}{scope:Scope}{dV kV doc pm cdv ct oc:Value}{an od:Option Addr}
  {CO:Array (Option Value)} {N ps:List Str} {sp:Sp} (lk:K.lookup f=some ⟨oc,od, .func (fnOf name qual params body scope dV kV doc pm an cdv ct),CO⟩) (BG:codeIn K cdv qual=true) (S:ao N ps scope)
  (len:∀ vs H Q E,sp vs H Q E->vs.length=ps.length)
  (Be:∀ (A:Around)(outer:List Env)(s:Shared)(H:Hp)(vs:List V)(Q:VK)(E:XK),Al k (A.deeper (envOfC qual scope s.heap.objs.size f cdv))->sp vs H Q E ->
   ∃ t,BK (iu CX P w K mg base N qual scope f cdv A outer s H E) body t/\t { nx:=fun _ H'=>Q .Av H',rt:=Q } (start N vs) H) :
  Ac P w K mg base CX (k + 1) f (fnOf name qual params body scope dV kV doc pm an cdv ct) ps sp:=by
 refine⟨len,fun A outer s H args us vs Q E hr e0 hb r CC=>?_⟩
 have hl:=len _ _ _ _ CC
 have KX:K.In s.heap:=e0.mod.CM.keeps fun b o e=>(e0.bs b o e).1
 have lim:s.heap.NoLimit:=e0.mod.nolimit.keeps fun b o e=>(e0.bs b o e).1
 have K4:∀ y ∈ ps.zip us,scope.names.lookup y.1=some .local∨(scope.names.lookup y.1=some .cell/\((cellsFrom (s.heap.objs.size + 1) scope.names []).lookup y.1).isSome=true):=fun⟨n,v⟩ hy=>by
  rcases S.par n (of_mem_zip hy).1 with q | q
  ·exact .inl q
  ·exact .inr ⟨q,PySem.W.cellsFrom_some _ _ _ (.inl q)⟩
 refine codeAny_call_function hr.depth (KX _ _ lk) rfl S.co S.gen rfl (PySem.W.codeRec_of KX BG) (hb _ _ _ _ ?_)
 refine wpAny_newFunctionEnv_cells S.kind K4 fun env he s1 x=>?_
 subst he
 refine⟨lim.keeps x.toInCall.keep,codeAny_func ?_⟩
 obtain⟨t,ht,hq⟩:=Be A outer s H vs Q E (hr.deeper _) CC
 have I:Inv (iu CX P w K mg base N qual scope f cdv A outer s H E) [] (start N vs) H s1:=rm S hr.hd e0 hl r x
 refine wpAny_mono (ht [] s1 (start N vs) H _ I hq) (fun fl s' hs=>?_) fun e s' hs=>hs
 have fin:∀ {σ':St}{H':Hp}{v:V}{u:Value},Inv (iu CX P w K mg base N qual scope f cdv A outer s H E) [] σ' H' s'->RelV v u->Q v H'->CE outer P w H s Q u s' :=
  fun {σ' H' v u} J rv q=>⟨v,H',J.os,J.bare,J.base,J.Aj,rv,q⟩
 cases fl with
 | ret u =>
  obtain⟨v,σ',H',J,rv,q⟩:=hs
  exact fin J rv q
 | next =>
  obtain⟨σ',H',J,q⟩:=hs
  exact fin (v:=V.Av) (u:=Value.none) J rfl q
 | brk =>
  obtain⟨_,_,_,q⟩:=hs
  exact False.elim q
 | cont =>
  obtain⟨_,_,_,q⟩:=hs
  exact False.elim q
end L2
namespace L2
open PySem PySem.Spec PyProof.Rows
section
variable {X:Cx}{x:Str}{p pos:Pos}{e:Expr}{es:List Expr}{t:TA}{id T:String}{r:List V->Hp->VK->Prop}
noncomputable def VU (r:List V->Hp->VK->Prop)(t:TA):TE:=fun σ H Q=>t σ H fun vs H1=>r vs H1 Q
theorem av (hc:fu X (.builtin id) r)(hg:Gl X x)(hm:X.mg x=none)(hv:bootBuiltins x=some (.builtin id))(ha:PA X (e :: es) t)(hn:x ≠ "__name__":=by decide)(Dz:(x == ("__debug__":Str))=false:=by decide)
  (he:starEach (e :: es) X.env=(false,eval e X.env) :: starEach es X.env:=by rfl) (B4:(backTo pos (starEach es X.env)).any (·.1)=false:=by rfl):PE X (.Call (.Name x p) (e :: es) [] pos) (VU r t):=by
 intro pins s σ H Q I h
 refine wpAny_Call_Name_kw (io I hg hm hv ?_ hn Dz)
 exact PyProof.Rows.callWith_builtin1 (aR (ha pos pins s σ H _ I h) fun us s1 Af=>by obtain⟨vs,H1,I1,r1,q1⟩:=Af;exact hc pins s1 σ H1 vs us Q I1 r1 q1) he B4
theorem aY (hc:fu X (.type T) r)(hg:Gl X x)(hm:X.mg x=none)(hv:bootBuiltins x=some (.type T))(ha:PA X (e :: es) t)(hn:x ≠ "__name__":=by decide)(Dz:(x == ("__debug__":Str))=false:=by decide)
  (he:starEach (e :: es) X.env=(false,eval e X.env) :: starEach es X.env:=by rfl) (B4:(backTo pos (starEach es X.env)).any (·.1)=false:=by rfl):PE X (.Call (.Name x p) (e :: es) [] pos) (VU r t):=by
 intro pins s σ H Q I h
 refine wpAny_Call_Name_kw (io I hg hm hv ?_ hn Dz)
 exact PyProof.Rows.callWith_type1 (aR (ha pos pins s σ H _ I h) fun us s1 Af=>by obtain⟨vs,H1,I1,r1,q1⟩:=Af;exact hc pins s1 σ H1 vs us Q I1 r1 q1) he B4
end
end L2
namespace HT
open PySem PyProof.Rows
section
open PySem.SeqAt
open PySem.AutoSeq1 (wpAny_loadPart')
open PySem.MeetsSeq PySem.MeetsSeq2 PySem.MeetsSeq3
end
section
variable {prog:Program}{w:World}{A:Around}{E:Value->Shared->Prop}{s:Shared}
theorem Fu {t b:Addr}{vs ws:List Value}{Q:Value->Shared->Prop}(ht:IsTup s.heap t vs.toArray)(hb:IsTup s.heap b ws.toArray)(hv:vs ≠ [])
  (h1:ws=[]->Q (.ref t) s) (h2:ws ≠ []->Q (.ref s.heap.objs.size) { s with heap:=s.heap.push { cls := .type "tuple",data := .seq (vs ++ ws).toArray } })
  (hsz:vs.length + ws.length <= sizeLine):wpAny (model prog w) A (binaryOp .Add (.ref t) (.ref b)) Q E s:=by
 obtain⟨⟨cls,dd,data,sl⟩,ho,hc,n,hd⟩:=id ht
 obtain⟨⟨QG,OH,data2,Ju⟩,BV,CY,n2,hd2⟩:=id hb
 simp only at hc hd CY hd2
 subst hc hd CY hd2
 have e:vs.toArray ++ ws.toArray=(vs ++ ws).toArray:=by simp
 by_cases hw:ws=[]
 ·exact concat_meets ⟨_,ho,rfl⟩ ⟨_,BV,rfl⟩ noFill_tuple_add seq_tuple_add slot_tuple_add entry_tuple_add (args_tuple_add_2 _ _)
   (tuple_addW1 t b vs.toArray ws.toArray n n2 dd OH sl Ju (by simpa using hv) (by simp[hw])) ⟨ho,BV,h1 hw⟩
 ·refine concat_meets ⟨_,ho,rfl⟩ ⟨_,BV,rfl⟩ noFill_tuple_add seq_tuple_add slot_tuple_add entry_tuple_add (args_tuple_add_2 _ _)
   (tuple_addW2 t b vs.toArray ws.toArray n n2 dd OH sl Ju (by simpa using hv) (by simpa using hw) (by rw[size_toArray,size_toArray];exact hsz)) ⟨ho,BV,?_⟩
  rw[e]
  exact h2 hw
noncomputable def C3 (n d:Nat):Option Int->Nat
 | none=>d
 | some v=>if v < 0 then (v + (n:Int)).toNat else min v.toNat n
theorem CD (n d k:Nat):C3 n d (some (k:Int))=min k n:=by
 show(if (k:Int) < 0 then ((k:Int) + (n:Int)).toNat else min (k:Int).toNat n)=min k n
 rw[if_neg (by omega),toNat_natCast]
end
end HT
namespace L2
open PySem PySem.Spec PyProof.Rows
noncomputable abbrev TO:=St->Hp->(Option Int->Hp->Prop)->Prop
noncomputable def PO (X:Cx)(e:Option Expr)(t:TO):Prop :=
 ∀ (pins:List (Addr × Obj))(s:Shared)(σ:St)(H:Hp)(Q:Option Int->Hp->Prop),Inv X pins σ H s->t σ H Q ->
  wpAny (model X.prog X.w) X.A (evalPart e X.env) (fun u s'=>∃ o H',Inv X pins σ H' s'/\IsPart u o/\Q o H') X.xe s
noncomputable def vt:TO:=fun _ H Q=>Q none H
noncomputable def K5 (t:TE):TO:=fun σ H Q=>t σ H fun x H1=>∃ i,x = .int i/\Q (some i) H1
theorem oP {ns:List Int}:∀ {us:List Value},Vals (ns.map V.int) us->IntsAre us ns:=by
 induction ns with
 | nil=>intro us r;rw[map_nil]at r;cases r;exact .nil
 | cons n ns ih =>
  intro us r
  rw[map_cons]at r
  cases r with
  | cons r1 r2 =>
   obtain⟨t,e⟩:=r1
   subst e
   exact .cons n t (ih r2)
section
variable {X:Cx}{e:Expr}{te:TE}{lo hi:Option Expr}{tl th:TO}{pos p2:Pos}
theorem vU:PO X none vt:=by
 intro pins s σ H Q I h
 rw[evalPart_none]
 exact wpAny_pure ⟨none,H,I, .none,h⟩
theorem kY (h:PE X e te):PO X (some e) (K5 te):=by
 intro pins s σ H Q I hw
 rw[evalPart_some]
 refine aR (h pins s σ H _ I hw) fun u s1 Af=>?_
 obtain⟨x,H1,I1,r1,q1⟩:=Af
 obtain⟨i,rfl,q⟩:=q1
 obtain⟨t,rfl⟩:=r1
 exact⟨some i,H1,I1, .int i t,q⟩
noncomputable def VW (X:Cx)(r:V->Option Int->Option Int->Hp->VK->Prop):Prop :=
 ∀ (pins:List (Addr × Obj))(s:Shared)(σ:St)(H:Hp)(x:V)(v vl vu:Value)(lo hi:Option Int)(sl:Addr)(Q:VK),Inv X pins σ H s->RelV x v->s.heap.IsSliceOf sl vl vu .none->IsPart vl lo->IsPart vu hi->r x lo hi H Q ->
  ∃ T id,typeLookup (.type T) "__getitem__" = pure (some (.builtin id))/\s.TypeIs v T/\wpAny (model X.prog X.w) X.A (getItem v (.ref sl)) (EP X pins σ Q) X.xe s
noncomputable def tSl (r:V->Option Int->Option Int->Hp->VK->Prop)(te:TE)(tl th:TO):TE:=fun σ H Q=>te σ H fun x H1=>tl σ H1 fun l H2=>th σ H2 fun u H3=>r x l u H3 Q
theorem lX {r:V->Option Int->Option Int->Hp->VK->Prop}(hr:VW X r)(he:PE X e te)(hl:PO X lo tl)(hu:PO X hi th):PE X (.Subscript e (.Slice lo hi none p2) pos) (tSl r te tl th):=by
 intro pins s σ H Q I h
 refine Subscript_ (aR (he pins s σ H _ I h) fun v s1 Af=>?_)
 obtain⟨x,H1,I1,r1,q1⟩:=Af
 refine wpAny_Slice (aR (hl pins s1 σ H1 _ I1 q1) fun vl s2 ⟨l,H2,I2,pl,q2⟩=>aR (hu pins s2 σ H2 _ I2 q2) fun vu s3 Af=>?_)
 obtain⟨u,H3,I3,pu,q3⟩:=Af
 rw[evalPart_none]
 refine wpAny_pure ?_
 have I4:Inv X pins σ H3 { s3 with heap:=s3.heap.push { cls := .type "slice",data := .fields #[vl,vu, .none] } }:=I3.kept (t':=s3.toks) fun b ob q=>Heap.get?_push_of_some _ q
 obtain⟨T,id,hT,ht,hg⟩:=hr pins { s3 with heap:=s3.heap.push { cls := .type "slice",data := .fields #[vl,vu, .none] } } σ H3 x v vl vu l u s3.heap.objs.size Q I4 r1 (Heap.IsSliceOf.new ..) pl pu q3
 show wpAny (model X.prog X.w) X.A (subscriptTail e (.Slice lo hi none p2) v (.ref s3.heap.objs.size)) (EP X pins σ Q) X.xe { s3 with heap:=s3.heap.push { cls := .type "slice",data := .fields #[vl,vu, .none] } }
 exact tail_any (ops:=[.ref s3.heap.objs.size,v]) ht hT hg (by with_unfolding_all rfl)
noncomputable def l9 (xs:List V)(lo hi:Option Int):List V:=(xs.drop (HT.C3 xs.length 0 lo)).take (HT.C3 xs.length xs.length hi - HT.C3 xs.length 0 lo)
theorem mV (xs:List V)(lo hi:Option Int):(l9 xs lo hi).length <= xs.length:=by
 unfold l9
 rw[length_take,List.length_drop]
 omega
noncomputable def K6 (K:Frag):R2:=fun x y H Q=>∃ a b xs ys,x = .ref a/\y = .ref b/\An K H a xs/\An K H b ys/\xs ≠ []/\xs.length + ys.length <= sizeLine /\
 (ys=[]->Q (.ref a) H)/\(ys ≠ []->∀ p,H p=none->Q (.ref p) (upd H p (.tup (xs ++ ys))))
theorem Vals.Cf {xs:List V}{us:List Value}(r:Vals xs us):us=[]↔xs=[]:=by
 cases r with
 | nil=>simp
 | cons _ _=>simp
theorem wb:eI X (binaryOp .Add) (K6 X.K):=by
 intro pins s σ H x y v u Q I rx ry h
 obtain⟨a,b,xs,ys,rfl,rfl,ha,hb,hx,hz,q1,q2⟩:=h
 cases rx
 cases ry
 obtain⟨Ag,r1,p1,_⟩:=I.tuple ha
 obtain⟨Cy,r2,p2,_⟩:=I.tuple hb
 refine HT.Fu p1 p2 (fun z=>hx (r1.Cf.mp z)) (fun z=>⟨.ref a,H,I,rfl,q1 (r2.Cf.mp z)⟩) (fun z=>?_) (by rw[← r1.length,← r2.length];exact hz)
 refine⟨.ref s.heap.objs.size,_,I.laid (t':=s.toks) (o := .tup (xs ++ ys)) (fun b ob q=>Heap.get?_push_of_some _ q) (le_refl _) ?_,rfl,q2 (fun w=>z (r2.Cf.mpr w)) _ (I.Aj.fresh (le_refl _))⟩
 exact⟨by rw[length_append];exact hz,_,r1.append r2,Bq.new _ _⟩
end
end L2
namespace L2
open PySem PySem.Spec PyProof.Rows
noncomputable def wT (n:Nat)(i:Int):Option Nat:=if 0 <= i then (if i < n then some i.toNat else none) else if -(n:Int) <= i then some (i + n).toNat else none
noncomputable def Jv {α:Type}(xs:List α)(i:Int):Option α:=(wT xs.length i).bind fun j=>xs[j]?
theorem qf {n:Nat}{i:Int}{j:Nat}(h:wT n i=some j):seqIndex? i n=some j/\j < n/\-(n:Int) <= i/\i < n:=by
 unfold wT at h
 by_cases h0:0 <= i
 ·rw[if_pos h0]at h
  by_cases h1:i < n
  ·rw[if_pos h1]at h
   have e:i.toNat=j:=Option.some.inj h
   exact⟨by rw[seqIndex_of h0 h1,e],by omega,by omega,h1⟩
  ·rw[if_neg h1]at h;cases h
 ·rw[if_neg h0]at h
  by_cases h1:-(n:Int) <= i
  ·rw[if_pos h1]at h
   have e:(i + n).toNat=j:=Option.some.inj h
   exact⟨by rw[seqIndex_neg (by omega) h1,e],by omega,h1,by omega⟩
  ·rw[if_neg h1]at h;cases h
theorem qw {α:Type}{xs:List α}{i:Int}{v:α}(h:Jv xs i=some v):∃ j,seqIndex? i xs.length=some j/\xs[j]? = some v/\j < xs.length/\-(xs.length:Int) <= i/\i < xs.length:=by
 unfold Jv at h
 cases e:wT xs.length i with
 | none=>rw[e]at h;cases h
 | some j =>
  rw[e]at h
  obtain⟨h1,h2,h3,h4⟩:=qf e
  exact⟨j,h1,h,h2,h3,h4⟩
theorem ak {α:Type}{xs:List α}{j:Nat}{v:α}(h:xs[j]? = some v):Jv xs (j:Int)=some v:=by
 have hj:j < xs.length:=(List.getElem?_eq_some_iff.mp h).1
 have e:wT xs.length (j:Int)=some j:=by
  unfold wT
  rw[if_pos (by omega),if_pos (by omega)];simp
 unfold Jv;rw[e];exact h
noncomputable def xk (b:Expr):Prop:=∀ o i,subscripted b false o i=operate [o,i] (getItem o i)
noncomputable def oZ (X:Cx)(r:R2):Prop :=
 ∀ (value slice:Expr)(pins:List (Addr × Obj))(s:Shared)(σ:St)(H:Hp)(x y:V)(v u:Value)(Q:VK),Inv X pins σ H s->RelV x v->RelV y u->r x y H Q ->
  subscripted slice false v u=operate [v,u] (getItem v u)->wpAny (model X.prog X.w) X.A (subscriptTail value slice v u) (EP X pins σ Q) X.xe s
noncomputable def OI (X:Cx)(id:String)(r:V->List V->Hp->VK->Prop):Prop :=
 ∀ (pins:List (Addr × Obj))(s:Shared)(σ:St)(H:Hp)(x:V)(xs:List V)(v:Value)(us:List Value)(Q:VK),Inv X pins σ H s->RelV x v->Vals xs us->r x xs H Q ->
  wpAny (model X.prog X.w) X.A (call (.builtin id) (v :: us)) (EP X pins σ Q) X.xe s
section
variable {X:Cx}{a b:Expr}{ta tb:TE}{pos:Pos}
theorem ax {r:R2}(hr:oZ X r)(ha:PE X a ta)(hb:PE X b tb)(hs:xk b):PE X (.Subscript a b pos) (OF r ta tb):=by
 intro pins s σ H Q I h
 exact Subscript_ (zR ha hb I h fun v u s2 x y H2 I2 rx ry q=>hr a b pins s2 σ H2 x y v u Q I2 rx ry q (hs _ _))
noncomputable def tJ (K:Frag):R2:=fun x y H Q=>∃ p xs i v,x = .ref p/\y = .int i/\Ah K H p xs/\Jv xs i=some v/\Q v H
noncomputable def kS (K:Frag):R2:=fun x y H Q=>∃ p xs i v,x = .ref p/\y = .int i/\An K H p xs/\Jv xs i=some v/\Q v H
theorem aL:oZ X (tJ X.K):=by
 intro value slice pins s σ H x y v u Q I rx ry h hs
 obtain⟨p,xs,i,z,rfl,rfl,hq,he,q⟩:=h
 cases rx
 obtain⟨t,rfl⟩:=ry
 obtain⟨Ag,r,pl,hz⟩:=I.list hq
 obtain⟨j,h1,h2,h3,h4,h5⟩:=qw he
 obtain⟨w,ew,CZ⟩:=r.get h2
 have hl:=r.length
 have hn:=jt
 have fin:EP X pins σ Q w s:=⟨z,H,I,CZ,q⟩
 by_cases h0:0 <= i
 ·have hj:i.toNat=j:=by
   rw[seqIndex_of h0 h5]at h1
   exact Option.some.inj h1
  exact item_listR pl.isList h0 (by omega) (by rw[hj];simpa using ew) fin hs
 ·have hj:(i + (Ag.toArray.size:Int)).toNat=j:=by
   rw[seqIndex_neg (by omega) h4]at h1
   rw[size_toArray,← hl]
   exact Option.some.inj h1
  exact subscriptTail_builtinR (x:=w) pl.isList.typeIs slot_list_getitem.lookup
   (wpAny_getItem_list_neg (Q:=fun r s'=>r=w/\EP X pins σ Q r s') pl.isList (by omega) (by rw[size_toArray]<;>omega) (by omega) (by rw[hj];simpa using ew) ⟨rfl,fin⟩) hs
theorem aF:oZ X (kS X.K):=by
 intro value slice pins s σ H x y v u Q I rx ry h hs
 obtain⟨p,xs,i,z,rfl,rfl,hq,he,q⟩:=h
 cases rx
 obtain⟨t,rfl⟩:=ry
 obtain⟨Ag,r,pl,hz⟩:=I.tuple hq
 obtain⟨j,h1,h2,h3,h4,h5⟩:=qw he
 obtain⟨w,ew,CZ⟩:=r.get h2
 have hl:=r.length
 have hn:=jt
 have fin:EP X pins σ Q w s:=⟨z,H,I,CZ,q⟩
 exact subscriptTail_builtinR (x:=w) pl.typeIs slot_tuple_getitem.lookup
  (getItem_tuple (j:=j) (Q:=fun r s'=>r=w/\EP X pins σ Q r s') pl (by omega) (by omega) (by rw[size_toArray,← hl];exact h1) (by simpa using ew) ⟨rfl,fin⟩) hs
theorem oE (Ag:List Value)(n j:Nat)(u:Value):Obj.mapSeq (·.setIfInBounds j u) { cls := .type "list",data := .seq Ag.toArray n } = { cls := .type "list",data := .seq (Ag.set j u).toArray n }:=by
 simp[Obj.mapSeq]
theorem Inv.lst {pins:List (Addr × Obj)}{σ:St}{H:Hp}{s:Shared}{p:Addr}{xs:List V}(I:Inv X pins σ H s)(h:H p=some (.lst xs)) :
  ∃ (Ag:List Value)(n:Nat),Vals xs Ag/\s.heap.get? p=some { cls := .type "list",data := .seq Ag.toArray n }/\xs.length <= sizeLine:=by
 obtain⟨z,Ag,n,r,e⟩:=I.Aj p _ h
 exact⟨Ag,n,r,e,z⟩
theorem Inv.HX {pins:List (Addr × Obj)}{σ:St}{H:Hp}{s:Shared}{p:Addr}{xs ys:List V}{Ag its':List Value}{n n':Nat}{f:Obj->Obj}(I:Inv X pins σ H s)(h:H p=some (.lst xs))
  (ho:s.heap.get? p=some { cls := .type "list",data := .seq Ag.toArray n }) (hf:f { cls := .type "list",data := .seq Ag.toArray n } = { cls := .type "list",data := .seq its'.toArray n' }) (r:Vals ys its') (hz:ys.length <= sizeLine) (t:Nat) :
  Inv X pins σ (upd H p (.lst ys)) { s with heap:=s.heap.update p f,toks:=t }:=by
 have e:(s.heap.update p f).get? p=some { cls := .type "list",data := .seq its'.toArray n' }:=by
  rw[Heap.get?_update_self f ho (by rw[hf]<;>rfl),hf]
 refine I.write (x:=p) (e:=p) (by rw[h];trivial) (.inl rfl) (fun b u hb q=>(Heap.get?_update_other _ _ (Ne.symm hb)).trans q) ⟨_,e⟩ ?_
 exact⟨hz,its',n',r,e⟩
noncomputable def K7:V->V->V->Hp->(Hp->Prop)->Prop:=fun o i v H Q=>∃ p xs k j,o = .ref p/\i = .int k/\H p=some (.lst xs)/\wT xs.length k=some j/\Q (upd H p (.lst (xs.set j v)))
theorem je:Kl X K7:=by
 intro pins s σ H o i v ov iv u Q I ro ri rv h
 obtain⟨p,xs,k,j,rfl,rfl,hp,hj,q⟩:=h
 cases ro
 obtain⟨t,rfl⟩:=ri
 obtain⟨Ag,n,r,ho,hz⟩:=I.lst hp
 obtain⟨h1,h2,h3,h4⟩:=qf hj
 have hl:=r.length
 have hn:=jt
 have I':Inv X pins σ (upd H p (.lst (xs.set j v))) { s with heap:=s.heap.update p (Obj.mapSeq (·.setIfInBounds j u)) } :=
  I.HX hp ho (oE Ag n j u) (r.set rv j) (by rw[length_set];exact hz) s.toks
 by_cases h0:0 <= k
 ·have hk:k.toNat=j:=by
   rw[seqIndex_of h0 h4]at h1
   exact Option.some.inj h1
  exact PySem.W.ki_setAt ho h0 (by omega) (by rw[size_toArray,← hl];exact h4) (by rw[hk];exact⟨_,I',q⟩)
 ·have hk:(k + (Ag.toArray.size:Int)).toNat=j:=by
   rw[seqIndex_neg (by omega) h3]at h1
   rw[size_toArray,← hl]
   exact Option.some.inj h1
  exact PySem.W.ki_setBack ho (by omega) (by rw[size_toArray,← hl];exact h3) (by omega) (by rw[hk];exact⟨_,I',q⟩)
theorem kM (lo hi:Option Int)(n:Nat):(sliceBounds lo hi none n).1=((HT.C3 n 0 lo:Nat):Int)/\(sliceBounds lo hi none n).2.1=((HT.C3 n n hi:Nat):Int)/\(sliceBounds lo hi none n).2.2=1:=by
 refine⟨?_,?_,rfl⟩
 ·cases lo with
  | none=>simp[sliceBounds,HT.C3]
  | some i =>
   simp only[sliceBounds,HT.C3,Option.getD_none,show (1:Int) > 0 by decide,if_true]
   by_cases h:i < 0
   ·simp only[h,if_true]<;>omega
   ·simp only[h,if_false]<;>omega
 ·cases hi with
  | none=>simp[sliceBounds,HT.C3]
  | some i =>
   simp only[sliceBounds,HT.C3,Option.getD_none,show (1:Int) > 0 by decide,if_true]
   by_cases h:i < 0
   ·simp only[h,if_true]<;>omega
   ·simp only[h,if_false]<;>omega
theorem jH (Ag:List Value)(lo hi:Option Int):slicePick Ag.toArray lo hi none=((Ag.drop (HT.C3 Ag.length 0 lo)).take (HT.C3 Ag.length Ag.length hi - HT.C3 Ag.length 0 lo)).toArray:=by
 obtain⟨h1,h2,h3⟩:=kM lo hi Ag.toArray.size
 unfold slicePick
 rw[h1,h2,h3]
 simp only[sliceRange_one,pick_run,size_toArray]<;>rfl
noncomputable def QH (K:Frag):V->Option Int->Option Int->Hp->VK->Prop:=fun x lo hi H Q=>∃ a xs,x = .ref a/\Ah K H a xs/\∀ p,H p=none->Q (.ref p) (upd H p (.lst (l9 xs lo hi)))
theorem pF:VW X (QH X.K):=by
 intro pins s σ H x v vl vu lo hi sl Q I rx hs pl pu h
 obtain⟨a,xs,rfl,hx,q⟩:=h
 cases rx
 obtain⟨Ag,r,ht,hz⟩:=I.list hx
 have hlen:=r.length
 refine⟨"list",_,slot_list_getitem.lookup,ht.isList.typeIs,?_⟩
 refine wpAny_getItem_list_slice ht.isList hs pl pu .none (by simp) ?_ (by rw[size_toArray]<;>omega)
 rw[jH,← hlen]
 refine⟨.ref s.heap.objs.size,_,I.laid (t':=s.toks) (o := .lst (l9 xs lo hi)) (fun b ob q=>Heap.get?_push_of_some _ q) (le_refl _) ?_,rfl,q _ (I.Aj.fresh (le_refl _))⟩
 exact⟨le_trans (mV xs lo hi) hz,_,0,(r.drop (HT.C3 xs.length 0 lo)).take (HT.C3 xs.length xs.length hi - HT.C3 xs.length 0 lo),Heap.get?_push_size _ rfl⟩
noncomputable def gS:V->Bool
 | .Av=>true
 | .bl _=>true
 | .int _=>true
 | .str _=>true
 | _=>false
noncomputable def xK:V->V->Bool
 | .Av, .Av=>true
 | .bl a, .bl b=>a == b
 | .bl a, .int b=>(if a then 1 else 0) == b
 | .int a, .bl b=>a == (if b then 1 else 0)
 | .int a, .int b=>a == b
 | .str a, .str b=>a == b
 | _,_=>false
theorem zJ {A:Around}{s:Shared}{y x:V}{u v:Value}(ry:RelV y u)(rx:RelV x v)(fy:gS y=true)(fx:gS x=true):SeqAt.EqAt A s u v (xK y x):=by
 cases y with
 | Av =>
  cases ry
  cases x with
  | Av=>cases rx;exact SeqAt.EqAt.same _
  | bl b=>cases rx;exact SeqAt.EqAt.none_bool b
  | int b=>obtain⟨t,rfl⟩:=rx;exact SeqAt.EqAt.none_int b t
  | str b=>obtain⟨t,rfl⟩:=rx;exact SeqAt.EqAt.none_str b t
  | _=>exact absurd (show false=true from fx) Bool.false_ne_true
 | bl a =>
  cases ry
  cases x with
  | Av=>cases rx;exact SeqAt.EqAt.bool_none a
  | bl b=>cases rx;exact SeqAt.EqAt.bool_bool a b
  | int b=>obtain⟨t,rfl⟩:=rx;exact SeqAt.EqAt.bool_int a b t
  | str b=>obtain⟨t,rfl⟩:=rx;exact SeqAt.EqAt.bool_str a b t
  | _=>exact absurd (show false=true from fx) Bool.false_ne_true
 | int a =>
  obtain⟨t',rfl⟩:=ry
  cases x with
  | Av=>cases rx;exact SeqAt.EqAt.int_none a t'
  | bl b=>cases rx;exact SeqAt.EqAt.int_bool a t' b
  | int b=>obtain⟨t,rfl⟩:=rx;exact SeqAt.EqAt.int_int a t' b t
  | str b=>obtain⟨t,rfl⟩:=rx;exact SeqAt.EqAt.int_str a t' b t
  | _=>exact absurd (show false=true from fx) Bool.false_ne_true
 | str a =>
  obtain⟨t',rfl⟩:=ry
  cases x with
  | Av=>cases rx;exact SeqAt.EqAt.str_none a t'
  | bl b=>cases rx;exact SeqAt.EqAt.str_bool a t' b
  | int b=>obtain⟨t,rfl⟩:=rx;exact SeqAt.EqAt.str_int a t' b t
  | str b=>obtain⟨t,rfl⟩:=rx;exact SeqAt.EqAt.str_str a t' b t
  | _=>exact absurd (show false=true from fx) Bool.false_ne_true
 | _=>exact absurd (show false=true from fy) Bool.false_ne_true
noncomputable def oS (x:V)(u:Value):Bool:=match u with
 | .none=>xK .Av x
 | .bool b=>xK (.bl b) x
 | .int i _=>xK (.int i) x
 | .str z _=>xK (.str z) x
 | _=>false
theorem uN {x y:V}{u:Value}(r:RelV y u)(f:gS y=true):oS x u=xK y x:=by
 cases y with
 | Av=>cases r;rfl
 | bl b=>cases r;rfl
 | int i=>obtain⟨t,rfl⟩:=r;rfl
 | str z=>obtain⟨t,rfl⟩:=r;rfl
 | _=>exact absurd (show false=true from f) Bool.false_ne_true
theorem gY {x:V}:∀ {xs:List V}{us:List Value},Vals xs us->xs.all gS=true->us.any (oS x)=xs.any fun y=>xK y x
 | _,_, .nil,_=>rfl
 | y :: xs,u :: us, .cons r t,f=>by
  rw[all_cons,Bool.and_eq_true]at f
  rw[any_cons,any_cons,uN r f.1,gY t f.2]
theorem eU {A:Around}{s:Shared}{x:V}{v:Value}(rx:RelV x v)(fx:gS x=true):∀ {xs:List V}{us:List Value},Vals xs us->xs.all gS=true->∀ u ∈ us,SeqAt.EqAt A s u v (oS x u)
 | _,_, .nil,_=>fun u hu=>by cases hu
 | y :: xs,u :: us, .cons r t,f=>fun u' hu=>by
  rw[all_cons,Bool.and_eq_true]at f
  rcases mem_cons.mp hu with rfl | hu
  ·rw[uN r f.1];exact zJ r rx f.1 fx
  ·exact eU rx fx t f.2 u' hu
noncomputable def Jw (x:V)(xs:List V):Bool:=xs.any fun y=>xK y x
noncomputable def QI (K:Frag)(neg:Bool):R2:=fun x y H Q=>∃ p xs,y = .ref p/\(Ah K H p xs∨An K H p xs)/\gS x=true/\xs.all gS=true/\Q (.bl (if neg then !Jw x xs else Jw x xs)) H
theorem qP:eI X (compareOp .In) (QI X.K false):=by
 intro pins s σ H x y v u Q I rx ry h
 obtain⟨p,xs,rfl,hq,fx,fs,q⟩:=h
 cases ry
 rcases hq with hq | hq
 ·obtain⟨Ag,r,pl,hz⟩:=I.list hq
  refine SeqAt.in_listAt (oS x) pl.isList (fun w hw=>eU rx fx r fs w (by simpa using hw)) ⟨.bl _,H,I,rfl,?_⟩
  rw[show Ag.toArray.any (oS x)=Ag.any (oS x) by simp,gY r fs]
  exact q
 ·obtain⟨Ag,r,pl,hz⟩:=I.tuple hq
  refine SeqAt.in_tupleAt (oS x) pl (fun w hw=>eU rx fx r fs w (by simpa using hw)) ⟨.bl _,H,I,rfl,?_⟩
  rw[show Ag.toArray.any (oS x)=Ag.any (oS x) by simp,gY r fs]
  exact q
theorem lg:eI X (compareOp .NotIn) (QI X.K true):=by
 intro pins s σ H x y v u Q I rx ry h
 obtain⟨p,xs,rfl,hq,fx,fs,q⟩:=h
 cases ry
 rcases hq with hq | hq
 ·obtain⟨Ag,r,pl,hz⟩:=I.list hq
  refine SeqAt.notIn_listAt (oS x) pl.isList (fun w hw=>eU rx fx r fs w (by simpa using hw)) ⟨.bl _,H,I,rfl,?_⟩
  rw[show Ag.toArray.any (oS x)=Ag.any (oS x) by simp,gY r fs]
  exact q
 ·obtain⟨Ag,r,pl,hz⟩:=I.tuple hq
  refine SeqAt.notIn_tupleAt (oS x) pl (fun w hw=>eU rx fx r fs w (by simpa using hw)) ⟨.bl _,H,I,rfl,?_⟩
  rw[show Ag.toArray.any (oS x)=Ag.any (oS x) by simp,gY r fs]
  exact q
theorem aq:fu X (.builtin "len") (fun xs H Q=>∃ p ys,xs=[.ref p]/\(Ah X.K H p ys∨An X.K H p ys)/\Q (.int ys.length) H):=by
 intro pins s σ H xs us Q I r h
 obtain⟨p,ys,rfl,hq,q⟩:=h
 obtain⟨u,rfl,rx⟩:=lG r
 cases rx
 have hn:=jt
 rcases hq with hq | hq
 ·obtain⟨Ag,r',pl,hz⟩:=I.list hq
  have hlen:=r'.length
  exact Calls.call_len_list pl.isList (by simp only[size_toArray]<;>omega) ⟨.int ys.length,H,I.tok _,⟨s.toks + 1,by rw[size_toArray,hlen]⟩,q⟩
 ·obtain⟨Ag,r',pl,hz⟩:=I.tuple hq
  have hlen:=r'.length
  exact len_tuple pl (by simp only[size_toArray]<;>omega) ⟨.int ys.length,H,I.tok _,⟨s.toks + 1,by rw[size_toArray,hlen]⟩,q⟩
theorem aS:fu X (.type "list") (fun xs H Q=>∃ p ys,xs=[.ref p]/\(Ah X.K H p ys∨An X.K H p ys)/\∀ l,H l=none->Q (.ref l) (upd H l (.lst ys))):=by
 intro pins s σ H xs us Q I r h
 obtain⟨p,ys,rfl,hq,q⟩:=h
 obtain⟨u,rfl,rx⟩:=lG r
 cases rx
 have fin:∀ (Ag:List Value),Vals ys Ag->ys.length <= sizeLine->∀ (h':Heap)(c':Nat),(∀ b o',s.heap.get? b=some o'->h'.get? b=some o') ->
   h'.get? s.heap.objs.size=some { cls := .type "list",dict:=none,data := .seq Ag.toArray c',slots:=#[] }->EP X pins σ Q (.ref s.heap.objs.size) { s with heap:=h' }:=fun Ag r' hz h' c' kp e =>
  ⟨.ref s.heap.objs.size,_,I.laid (t':=s.toks) kp (le_refl _) (show Ay X.prog X.w _ h' _ (.lst ys) from ⟨hz,Ag,c',r',e⟩),rfl,q _ (I.Aj.fresh (le_refl _))⟩
 rcases hq with hq | hq
 ·obtain⟨Ag,r',pl,hz⟩:=I.list hq
  have hlen:=r'.length
  obtain⟨o,ho,hc,n,hd⟩:=pl.isList
  exact call_list_seq p (.inl rfl) ho hc hd (fun h' c' kp e=>fin Ag r' hz h' c' kp e) (by simp only[size_toArray]<;>omega)
 ·obtain⟨Ag,r',pl,hz⟩:=I.tuple hq
  have hlen:=r'.length
  obtain⟨o,ho,hc,n,hd⟩:=pl
  exact call_list_seq p (.inr rfl) ho hc hd (fun h' c' kp e=>fin Ag r' hz h' c' kp e) (by simp only[size_toArray]<;>omega)
theorem dB:fu X (.type "tuple") (fun xs H Q=>∃ p ys,xs=[.ref p]/\((Ah X.K H p ys/\∀ l,H l=none->Q (.ref l) (upd H l (.tup ys)))∨(An X.K H p ys/\Q (.ref p) H))):=by
 intro pins s σ H xs us Q I r h
 obtain⟨p,ys,rfl,h⟩:=h
 obtain⟨u,rfl,rx⟩:=lG r
 cases rx
 rcases h with ⟨hq,q⟩ | ⟨hq,q⟩
 ·obtain⟨Ag,r',pl,hz⟩:=I.list hq
  have hlen:=r'.length
  refine call_tuple_list pl.isList (fun h' kp=>?_) (by simp only[size_toArray]<;>omega)
  have I1:Inv X pins σ H { s with heap:=h' }:=I.kept (t':=s.toks) kp
  have I2:Inv X pins σ (upd H h'.objs.size (.tup ys)) { s with heap:=h'.push { cls := .type "tuple",data := .seq Ag.toArray } } :=
   I1.laid (t':=s.toks) (fun b o e=>Heap.get?_push_of_some _ e) (le_refl _) (show Ay X.prog X.w _ _ _ (.tup ys) from ⟨hz,Ag,r',Bq.new _ _⟩)
  exact⟨.ref h'.objs.size,_,I2,rfl,q _ (I1.Aj.fresh (le_refl _))⟩
 ·obtain⟨Ag,r',pl,hz⟩:=I.tuple hq
  exact call_tuple_same pl ⟨.ref p,H,I,rfl,q⟩
noncomputable def QJ (K:Frag)(T:String)(x:V)(H:Hp):Prop:=match x with
 | .str _=>T = "str"
 | .int _=>T = "int"
 | .ref p=>(T = "list"/\∃ xs,Ah K H p xs)∨(T = "tuple"/\∃ o,K.lookup p=some o/\o.cls = .type "tuple"/\o.dict=none) ∨
   (T = "dict"/\((∃ kvs,H p=some (.dK kvs))∨∃ kvs,H p=some (.dT kvs)))∨(T = "set"/\∃ S n,H p=some (.set S n))
 | _=>False
theorem rP {pins:List (Addr × Obj)}{σ:St}{H:Hp}{s:Shared}{T:String}{x:V}{v:Value}(I:Inv X pins σ H s)(r:RelV x v)(ty:QJ X.K T x H) :
  s.TypeIs v T/\∀ a,v = .ref a->∃ ob,s.heap.get? a=some ob/\ob.dict=none:=by
 cases x with
 | str z =>
  obtain⟨t,rfl⟩:=r
  cases (show T = "str" from ty)
  exact⟨typeIs_str s z t,fun _ e=>nomatch e⟩
 | int i =>
  obtain⟨t,rfl⟩:=r
  cases (show T = "int" from ty)
  exact⟨typeIs_int s i t,fun _ e=>nomatch e⟩
 | ref p =>
  cases r
  rcases ty with ⟨rfl,xs,hq⟩ | ⟨rfl,o,hk,hc,hd⟩ | ⟨rfl,hk⟩ | ⟨rfl,S,n,hk⟩
  ·obtain⟨Ag,_,pl,_⟩:=I.list hq
   refine⟨pl.isList.typeIs,fun a e=>?_⟩
   cases e
   obtain⟨o,n,e,c,hd,_⟩:=pl
   exact⟨o,e,hd⟩
  ·refine⟨⟨o,I.Bh p o hk,hc⟩,fun a e=>?_⟩
   cases e
   exact⟨o,I.Bh _ o hk,hd⟩
  ·have z:∃ o,s.heap.get? p=some o/\o.ExactDict:=by
    rcases hk with ⟨kvs,hk⟩ | ⟨kvs,hk⟩
    ·obtain⟨_,_,_,_,o,_,_,e,ex,_⟩:=I.Aj p _ hk
     exact⟨o,e,ex⟩
    ·obtain⟨_,_,_,_,o,_,_,e,ex,_⟩:=I.Aj p _ hk
     exact⟨o,e,ex⟩
   obtain⟨o,e,ex⟩:=z
   refine⟨⟨o,e,ex.1⟩,fun a e2=>?_⟩
   cases e2
   exact⟨o,e,ex.2.1⟩
  ·obtain⟨o,_,_,_,e,ex,_⟩:=I.Aj p _ hk
   refine⟨⟨o,e,ex.1⟩,fun a e2=>?_⟩
   cases e2
   exact⟨o,e,ex.2.1⟩
 | _=>exact False.elim ty
noncomputable def QK (K:Frag)(T:String)(r:V->List V->Hp->VK->Prop)(to:TE):TE:=fun σ H Q=>to σ H fun x H1=>QJ K T x H1/\r x [] H1 Q
noncomputable def tBM (K:Frag)(T:String)(r:V->List V->Hp->VK->Prop)(to:TE)(t:TA):TE:=fun σ H Q=>to σ H fun x H1=>QJ K T x H1/\t σ H1 fun xs H2=>r x xs H2 Q
variable {o e:Expr}{es:List Expr}{to:TE}{t:TA}{name:Str}{apos AV:Pos}{T id:String}{r:V->List V->Hp->VK->Prop}
theorem tV (pa:PlainAttrs T)(slot:Slot T name id)(QL:typeOf (.builtin id)=pure (.type "method_descriptor"))(hm:OI X id r)(ho:PE X o to)
  (Dc:attributeBase o name X.env (eval o X.env)=eval o X.env:=by rfl) (E5:(apos.endLine == AV.line)=true:=by rfl):PE X (.Call (.Attribute o name apos) [] [] AV) (QK X.K T r to):=by
 intro pins s σ H Q I h
 refine wpAny_Call_method0_late Dc E5 (aR (ho pins s σ H _ I h) fun v s1 Af=>?_)
 obtain⟨x,H1,I1,r1,ty,q1⟩:=Af
 obtain⟨h1,h2⟩:=rP I1 r1 ty
 exact⟨T,id,pa,slot,QL,h1,h2,Calls.callWith_builtin rfl (PySem.evalArgs_none (hm pins s1 σ H1 x [] v [] Q I1 r1 .nil q1))⟩
theorem cu (pa:PlainAttrs T)(slot:Slot T name id)(QL:typeOf (.builtin id)=pure (.type "method_descriptor"))(hm:OI X id r)(ho:PE X o to)(ha:PA X (e :: es) t)
  (Dc:attributeBase o name X.env (eval o X.env)=eval o X.env:=by rfl)
  (D1:((backTo AV (starEach (e :: es) X.env)).all (fun x=>!x.1) && (backToKw AV (keywordEach [] X.env)).all (fun x=>x.1.isSome)
   && decide ((e :: es).length + ([]:List Keyword).length + (if ([]:List Keyword).isEmpty then 0 else 1) < 30))=true:=by rfl)
  (E5:(apos.endLine == AV.line)=true:=by rfl) (hs:starEach (e :: es) X.env=(false,eval e X.env) :: starEach es X.env:=by rfl) (HY:(backTo AV (starEach es X.env)).any (·.1)=false:=by rfl) :
  PE X (.Call (.Attribute o name apos) (e :: es) [] AV) (tBM X.K T r to t):=by
 intro pins s σ H Q I h
 refine wpAny_Call_method_late Dc D1 E5 rfl (aR (ho pins s σ H _ I h) fun v s1 Af=>?_)
 obtain⟨x,H1,I1,r1,ty,q1⟩:=Af
 obtain⟨h1,h2⟩:=rP I1 r1 ty
 refine⟨T,id,pa,slot,QL,h1,h2,?_⟩
 have hA:=ha AV pins s1 σ H1 _ I1 q1
 rw[hs]at hA ⊢
 refine Calls.callWith_builtin (by show(false || (backTo AV (starEach es X.env)).any (·.1))=false;rw[HY]<;>rfl) (Calls.evalArgs_plain ?_)
 exact aR hA fun us s2 Af=>by obtain⟨vs,H2,I2,r2,q2⟩:=Af;exact hm pins s2 σ H2 x vs v us Q I2 r1 r2 q2
end
end L2
namespace L2
open PySem PySem.Spec PyProof.Rows
noncomputable def OJ (X:Cx)(id:String)(r:V->List V->Hp->VK->Prop):Prop :=
 ∀ (pins:List (Addr × Obj))(s:Shared)(σ:St)(H:Hp)(x:V)(xs:List V)(v:Value)(us:List Value)(Q:VK),Inv X pins σ H s->RelV x v->Vals xs us->r x xs H Q ->
  wpAny (model X.prog X.w) X.A (call (.builtin id) (v :: us)) (EP X pins σ Q) X.xe s
theorem Vals.one:∀ {x:V}{us:List Value},Vals [x] us->∃ u,us=[u]/\RelV x u:=by
 intro x us h
 cases h with
 | cons r t=>cases t;exact⟨_,rfl,r⟩
theorem Vals.zero:∀ {us:List Value},Vals [] us->us=[]
 | _, .nil=>rfl
theorem Vals.eraseIdx:∀ {xs:List V}{us:List Value}(i:Nat),Vals xs us->Vals (xs.eraseIdx i) (us.eraseIdx i)
 | _,_,_, .nil => .nil
 | _,_,0, .cons _ t=>t
 | _,_,i + 1, .cons r t => .cons r (Vals.eraseIdx i t)
theorem jZ {α:Type}:∀ (l:List α)(i:Nat),(l.eraseIdx i).length <= l.length
 | [],_=>le_refl _
 | _ :: _,0=>le_succ _
 | _ :: r,i + 1=>Nat.succ_le_succ (jZ r i)
section
variable {X:Cx}{pins:List (Addr × Obj)}{σ:St}{H:Hp}{s:Shared}{l b:Addr}{xs ys zs:List V}
theorem Inv.Fv {Ag its':List Value}{n:Nat}{f:Array Value->Array Value}{t':Nat}(I:Inv X pins σ H s)(hH:H l=some (.lst xs))
  (e:s.heap.get? l=some { cls := .type "list",data := .seq Ag.toArray n }) (hf:f Ag.toArray=its'.toArray) (hv:Vals ys its') (hz:ys.length <= sizeLine) :
  Inv X pins σ (upd H l (.lst ys)) { s with heap:=s.heap.update l (Obj.mapSeq f),toks:=t' }:=by
 have q:=PySem.IsL.update e f
 rw[hf]at q
 refine I.write (x:=l) (e:=l) (by rw[hH];exact trivial) (.inl rfl) (fun b' u hb hu=>(Heap.get?_update_other s.heap (Obj.mapSeq f) (Ne.symm hb)).trans hu) ⟨_,q⟩ ?_
 exact⟨hz,its',_,hv,q⟩
theorem Inv.QM {Ag:List Value}{t':Nat}(I:Inv X pins σ H s)(hv:Vals ys Ag)(hz:ys.length <= sizeLine) :
  Inv X pins σ (upd H s.heap.objs.size (.lst ys)) { s with heap:=s.heap.push { cls := .type "list",data := .seq Ag.toArray },toks:=t' } :=
 I.laid (fun _ _ q=>Heap.get?_push_of_some _ q) (le_refl _) ⟨hz,Ag,0,hv,Heap.get?_push_size _ rfl⟩
theorem Inv.fresh (I:Inv X pins σ H s):H s.heap.objs.size=none:=I.Aj.fresh (le_refl _)
theorem Inv.Dd (I:Inv X pins σ H s)(hH:H l=some (.lst xs)):xs.length <= sizeLine/\∃ (Ag:List Value)(n:Nat),Vals xs Ag/\xs.length=Ag.length/\s.heap.get? l=some { cls := .type "list",data := .seq Ag.toArray n }:=by
 obtain⟨z,Ag,n,r,e⟩:=I.Aj l _ hH
 exact⟨z,Ag,n,r,r.length,e⟩
theorem ux {n:Nat}(h:n <= sizeLine):Builtin.List.listTooLong n=false:=by
 unfold Builtin.List.listTooLong
 exact decide_eq_false (by omega)
end
section
variable {X:Cx}
noncomputable def vO:V->List V->Hp->VK->Prop:=fun x vs H Q=>∃ l xs y,x = .ref l/\vs=[y]/\H l=some (.lst xs)/\xs.length < sizeLine/\Q .Av (upd H l (.lst (xs ++ [y])))
theorem bD:OJ X "list.append" vO:=by
 intro pins s σ H x vs v us Q I rx rv h
 obtain⟨l,xs,y,rfl,rfl,hH,hz,q⟩:=h
 cases rx
 obtain⟨u,rfl,ru⟩:=rv.one
 obtain⟨z,Ag,n,r,hl,e⟩:=I.Dd hH
 refine call_meets F.slot_list_append ⟨_,e,rfl⟩ F.entry_list_append (F.args_list_append_2 _ _) (PySem.list_append l Ag.toArray n u (by rw[size_toArray];omega)) ⟨e,?_⟩
 refine⟨.Av,_,I.Fv (its':=Ag ++ [u]) hH e (by simp) (r.append (.cons ru .nil)) ?_,rfl,q⟩
 rw[length_append,length_singleton]
 omega
noncomputable def vM:V->List V->Hp->VK->Prop:=fun x vs H Q=>∃ l b xs zs,x = .ref l/\vs=[.ref b]/\H l=some (.lst xs)/\H b=some (.lst zs)/\xs.length + zs.length <= sizeLine/\Q .Av (upd H l (.lst (xs ++ zs)))
theorem fB:OJ X "list.extend" vM:=by
 intro pins s σ H x vs v us Q I rx rv h
 obtain⟨l,b,xs,zs,rfl,rfl,hH,hB,hz,q⟩:=h
 cases rx
 obtain⟨u,rfl,ru⟩:=rv.one
 cases ru
 obtain⟨z,Ag,n,r,hl,e⟩:=I.Dd hH
 obtain⟨z2,Cy,n2,r2,Fb,e2⟩:=I.Dd hB
 have hsz:Ag.toArray.size + Cy.toArray.size <= sizeLine:=by rw[size_toArray,size_toArray];omega
 have K8:¬ (!Ag.toArray.isEmpty && Builtin.List.listTooLong (Ag.toArray.size + Cy.toArray.size))=true:=by
  rw[ux hsz,Bool.and_false]
  exact Bool.false_ne_true
 refine call_meets F.slot_list_extend ⟨_,e,rfl⟩ F.entry_list_extend (F.args_list_extend_2 _ _)
  (AutoSeq1.list_extend_list_list_0 l Ag.toArray n b Cy.toArray n2 K8 (by rw[size_toArray];omega) (by omega)) ⟨e,e2,?_⟩
 refine⟨.Av,_,I.Fv (its':=Ag ++ Cy) hH e (by simp) (r.append r2) ?_,rfl,q⟩
 rw[length_append]
 omega
noncomputable def yD:V->List V->Hp->VK->Prop:=fun x vs H Q=>∃ l xs i k y,x = .ref l/\vs=[.int i]/\H l=some (.lst xs)/\-(2 ^ 63) <= i/\i < 2 ^ 63/\seqIndex? i xs.length=some k/\xs[k]? = some y/\Q y (upd H l (.lst (xs.eraseIdx k)))
theorem u9:OJ X "list.pop" yD:=by
 intro pins s σ H x vs v us Q I rx rv h
 obtain⟨l,xs,i,k,y,rfl,rfl,hH,h1,h2,hk,hy,q⟩:=h
 cases rx
 obtain⟨u,rfl,ru⟩:=rv.one
 obtain⟨t,rfl⟩:=ru
 obtain⟨z,Ag,n,r,hl,e⟩:=I.Dd hH
 obtain⟨w,hw,CZ⟩:=r.get hy
 refine call_meets F.slot_list_pop ⟨_,e,rfl⟩ F.entry_list_pop (F.args_list_pop_2 _ _)
  (MeetsSeq.list_pop_at l Ag.toArray n i t k w (fitsIndex_both h1 h2) (by rw[size_toArray,← hl];exact hk) (by rw[← Array.getElem?_toList];exact hw) (by rw[size_toArray];omega)) ⟨e,?_⟩
 refine⟨y,_,I.Fv (its':=Ag.eraseIdx k) hH e ?_ (r.eraseIdx k) ?_,CZ,q⟩
 ·show Ag.toArray.eraseIdxIfInBounds k=(Ag.eraseIdx k).toArray
  rw[List.eraseIdxIfInBounds_toArray]
 ·have:=jZ xs k
  omega
noncomputable def yF:V->List V->Hp->VK->Prop:=fun x vs H Q=>∃ l xs,x = .ref l/\vs=[]/\H l=some (.lst xs)/\Q .Av (upd H l (.lst []))
theorem uA:OJ X "list.clear" yF:=by
 intro pins s σ H x vs v us Q I rx rv h
 obtain⟨l,xs,rfl,rfl,hH,q⟩:=h
 cases rx
 have OK:=rv.zero
 subst OK
 obtain⟨z,Ag,n,r,hl,e⟩:=I.Dd hH
 refine call_meets F.slot_list_clear ⟨_,e,rfl⟩ F.entry_list_clear (F.args_list_clear_1 _) (AutoSeq1.list_clear_list_0 l Ag.toArray n (by rw[size_toArray];omega)) ⟨e,?_⟩
 exact⟨.Av,_,I.Fv (its':=[]) (ys:=[]) hH e rfl .nil (zero_le _),rfl,q⟩
noncomputable def QN:R2:=fun x y H Q=>∃ l b xs zs,x = .ref l/\y = .ref b/\H l=some (.lst xs)/\H b=some (.lst zs)/\xs.length + zs.length <= sizeLine/\∀ p,H p=none->Q (.ref p) (upd H p (.lst (xs ++ zs)))
theorem yP:eI X (binaryOp .Add) QN:=by
 intro pins s σ H x y v u Q I rx ry h
 obtain⟨l,b,xs,zs,rfl,rfl,hH,hB,hz,q⟩:=h
 cases rx
 cases ry
 obtain⟨z,Ag,n,r,hl,e⟩:=I.Dd hH
 obtain⟨z2,Cy,n2,r2,Fb,e2⟩:=I.Dd hB
 refine PySem.P.add_list e e2 ?_ (by rw[size_toArray,size_toArray];omega)
 have ea:Ag.toArray ++ Cy.toArray=(Ag ++ Cy).toArray:=by simp
 rw[ea]
 exact⟨.ref _,_,I.QM (t':=s.toks) (r.append r2) (by rw[length_append];omega),rfl,q _ I.fresh⟩
end
section
variable {prog:Program}{w:World}{A:Around}{E:Value->Shared->Prop}{s:Shared}
set_option maxRecDepth 100000 in
end
section
variable {X:Cx}
end
end L2
namespace VX
open PySem PySem.W PySem.Calls PyProof.Rows
theorem iD {P:Params}{h:Heap}:∀ (ns:List Int)(vs:List Value),WellAll P h vs (ns.map WData.int)->IntsAre vs ns:=by
 intro ns
 induction ns with
 | nil =>
  intro vs w
  rw[map_nil]at w
  cases w
  exact .nil
 | cons n ns ih =>
  intro vs w
  rw[map_cons]at w
  cases w with
  | cons a b =>
   cases a
   exact .cons _ _ (ih _ b)
theorem qI {l:OpenLaw}{n:Nat}(hn:l.most=some n){P:Params}{h:Heap}{args:List WData}{vals:List Value}
  (Fw:l.row.toRowW.claim.pre args=true) (Eo:WellAll P h vals args) :
  ∃ a vs ns,vals=[Value.ref a]/\args=[WData.list (ns.map WData.int)]/\h.get? a=some { cls := .type "list",data := .seq vs.toArray }/\IntsAre vs ns/\ns.length <= n:=by
 have hsh:WShape.hasAll [] args [.list .int]=true:=(pre_splitW Fw).1
 have hc:l.pre.holds [] { args:=args } = true:=(pre_splitW Fw).2
 obtain⟨d,r,rfl,h1,h2⟩:=hasAllW_cons hsh
 obtain rfl:=hasAllW_nil h2
 obtain⟨xs,rfl,h3⟩:=hasW_list h1
 obtain⟨ns,rfl⟩:=items_int h3
 have hlen:ns.length <= n:=by
  unfold OpenLaw.pre at hc
  have h4:(WTm.not (.lt (.lit (.int (n:Int))) (.len (.arg 0)))).holds [] { args:=[.list (ns.map .int)] } = true:=by
   have h4:=(holds_andW hc).1
   rw[hn]at h4
   exact h4
  have h5:=condW_of h4 (w_not (w_lt w_lit (w_len_list (w_arg rfl))))
  rw[length_map]at h5
  refine Nat.le_of_not_lt fun q=>?_
  have q':(n:Int) < ((ns.length:Nat):Int):=by omega
  first
   | (rw[decide_eq_true q']at h5;exact absurd h5 (by decide))
   | (simp at h5;omega)
 cases Eo with
 | cons w1 w2 =>
  cases w2
  cases w1 with
  | list ho B1=>exact⟨_,_,ns,rfl,rfl,ho,iD ns _ B1,hlen⟩
theorem qL (l:OpenLaw)(args:List WData):l.row.toRowW.claim.post args (.bool true) args=true :=
 postW_of (r:=l.row.toRowW) (X:=(true == true))
  (show WShape.has [] (.bool true) .bool=true by first | rfl | decide | simp[WShape.has,WShape.arms,WShape.armsAll])
  (show(WTm.eq .res (.lit (.bool true))).value [] { args:=args,res:=some (.bool true),after:=args } = some (.bool (true == true)) from w_eq_bool (w_res rfl) w_lit) rfl
theorem De {l:OpenLaw}{n:Nat}{q:Program}{loose:List Str}{XP:(Str->Option Value)->Heap->Prop}{YP:World->Heap->Prop}{d:DefRec}
  (hn:l.most=some n) (KA:d.params.defaults=[])
  (call:∀ (w:World)(s₀ s₁:Shared)(mg mb:Str->Option Value)(fa:Addr)(o:Obj)(pm cd doc:Value)(a:Addr)(vs:List Value)(ns:List Int),
   Ground q loose [] XP w s₀ mg mb s₁.heap->YP w s₁.heap ->
   s₁.heap.get? fa=some o->o.data = .func (docDef d.name d.params d.body d.scope pm cd doc)->s₁.heap.CodeRec cd d.name->mg d.name=some (.ref fa) ->
   s₁.heap.get? a=some { cls := .type "list",data := .seq vs.toArray }->IntsAre vs ns->ns.length <= n->s₁.gens = #[] ->
   codeAny (model l.prog w) callerA (.call (.ref fa) ⟨[.ref a],[]⟩) (fun r s'=>r = .ok (.ret (.bool true))/\OldK s₁.heap s'.heap/\s'.os=s₁.os/\AllBare s'.gens) s₁) :
  WalkO q loose XP YP l.row.toRowW d [] (fun f vs=>PySem.call f vs):=by
 intro w s₀ s₁ mg mb G Y fa o pm cd doc dV kV ho hd BG hD hmg hg args vals as Fw hlay hrd Eo hlo
 obtain rfl:dV = .none:=Dflts.none hD KA
 obtain rfl:kV = .none:=Dflts.noKw hD
 obtain⟨a,vs,ns,rfl,rfl,HZ,hints,hlen⟩:=qI hn Fw Eo
 refine enter_call (codeAny_mono (call w s₀ s₁ mg mb fa o pm cd doc a vs ns G Y ho (fd_plain hd) BG hmg HZ hints hlen hg) fun r s' hq=>?_)
 obtain⟨rfl,h2,h3,h4⟩:=hq
 exact⟨.inl ⟨.bool true, .bool true,[],rfl,fun _=>rfl, .bool true,qL l _,fun _=>⟨List.Pairwise.nil,fun _ hm=>(nomatch hm)⟩⟩,h2,h3,h4⟩
section
variable {prog:Program}{w:World}{A:Around}{E:Value->Shared->Prop}{s:Shared}{K:Frag}
end
end VX
namespace L2
open PySem PySem.Spec PyProof.Rows
theorem jM:∀ {vs:List Value}{ns:List Int},IntsAre vs ns->Vals (ns.map V.int) vs
 | _,_, .nil => .nil
 | _,_, .cons n t h => .cons ⟨t,rfl⟩ (jM h)
end L2
namespace L2
open PySem PySem.Spec PyProof.Rows
end L2
namespace L2
open PySem PySem.Spec PyProof.Rows
noncomputable def az (s:Stmt)(j:Nat):Stmt:=match s with
 | .ClassDef _ _ _ body _ _ _ _ _ _ _=>body.getD j (.Pass ⟨0,0,0,0⟩)
 | _ => .Pass ⟨0,0,0,0⟩
noncomputable def bv (s:Stmt):Arguments:=match s with
 | .FunctionDef _ a _ _ _ _ _ _ _ _=>a
 | _=>{ posonlyargs:=[],args:=[],vararg:=none,kwonlyargs:=[],kw_defaults:=[],kwarg:=none,defaults:=[] }
noncomputable def aE (s:Stmt):List Stmt:=match s with
 | .FunctionDef _ _ b _ _ _ _ _ _ _=>b
 | _=>[]
noncomputable def ah (s:Stmt):Scope:=match s with
 | .FunctionDef _ _ _ _ _ _ sc _ _ _=>sc
 | _=>{ kind := .function,names:=[],isGenerator:=false,isCoroutine:=false }
noncomputable abbrev aC:lD:=fun _ _ _ _ _ _=>False
noncomputable abbrev E0:XK:=fun _ _ _=>False
theorem ap {X:Cx}:cy aC X E0:=fun _ _ _ _ _ _ _ h=>h.elim
structure AA (K:Frag)(x qual:Str)(st:Stmt)(f:Addr)(fd:FuncData):Prop where
 ex:∃ (oc:Value)(od:Option Addr)(kV doc pm:Value)(an:Option Addr)(cdv ct:Value)(CO:Array (Option Value)),
  fd=fnOf x qual (bv st) (aE st) (ah st) .none kV doc pm an cdv ct/\K.lookup f=some ⟨oc,od, .func fd,CO⟩/\codeIn K cdv qual=true
 kp:keepIn K (.ref f)=true
section
variable {P:Program}{w:World}{K:Frag}{mg:Str->Option Value}{base:Heap}
theorem AA.ok {x qual:Str}{st:Stmt}{f:Addr}{fd:FuncData}{N ps:List Str}{k:Nat}{sp:Sp}(F:AA K x qual st f fd)(S:ao N ps (ah st))(len:∀ vs H Q E,sp vs H Q E->vs.length=ps.length)
  (Be:∀ (cdv:Value)(A:Around)(outer:List Env)(s:Shared)(H:Hp)(vs:List V)(Q:VK)(E:XK),Al k (A.deeper (envOfC qual (ah st) s.heap.objs.size f cdv))->sp vs H Q E ->
   ∃ t,BK (iu aC P w K mg base N qual (ah st) f cdv A outer s H E).G6 (aE st) t/\t { nx:=fun _ H'=>Q .Av H',rt:=Q } (start N vs) H):Ac P w K mg base aC (k + 1) f fd ps sp:=by
 obtain⟨oc,od,kV,doc,pm,an,cdv,ct,CO,rfl,lk,BG⟩:=F.ex
 refine qm lk BG S len fun A outer s H vs Q E hr CC=>?_
 obtain⟨t,h,q⟩:=Be cdv A outer s H vs Q E hr CC
 exact⟨t,h.G6,q⟩
theorem AA.binds {x qual:Str}{st:Stmt}{f:Addr}{fd:FuncData}{ps:List Str}(F:AA K x qual st f fd)
  (h:∀ (kV doc pm:Value)(an:Option Addr)(cdv ct:Value)(us:List Value),us.length=ps.length->bindArgs (fnOf x qual (bv st) (aE st) (ah st) .none kV doc pm an cdv ct) ⟨us,[]⟩ = pure (ps.zip us)):Binds K fd ps []:=by
 obtain⟨oc,od,kV,doc,pm,an,cdv,ct,CO,rfl,lk,BG⟩:=F.ex
 exact .all (h kV doc pm an cdv ct)
theorem j1 {x qual:Str}{st:Stmt}{f:Addr}{oc:Value}{od an:Option Addr}{CO:Array (Option Value)}{kV doc pm cdv ct:Value}(l:K.lookup f=some ⟨oc,od, .func (fnOf x qual (bv st) (aE st) (ah st) .none kV doc pm an cdv ct),CO⟩)
  (c:codeIn K cdv qual=true) (k:keepIn K (.ref f)=true):AA K x qual st f (fnOf x qual (bv st) (aE st) (ah st) .none kV doc pm an cdv ct):=⟨⟨oc,od,kV,doc,pm,an,cdv,ct,CO,rfl,l,c⟩,k⟩
end
theorem ki {A:Around}{k:Nat}(hr:Al k A):A.units + 1 < cLine:=lt_of_le_of_lt (Nat.add_le_add_left (by decide:1 <= 64) _) hr.units
section
variable {X:Cx}
theorem pv (i:Nat){x:Str}{pos:Pos}(hN:X.N[i]? = some x:=by rfl)(hv:Kc X.env.scope x:=by first | exact Or.inl rfl | exact Or.inr (Or.inl rfl) | exact Or.inr (Or.inr rfl))(hd:(x == ("__debug__":Str))=false:=by decide)
  (BG:(x == ("__classdict__":Str))=false:=by decide):PE X (.Name x pos) (qC i):=tQ hN hv hd BG
end
theorem aI {A B:Prop}(h:B):if false=true then A else B:=by
 rw[if_neg Bool.false_ne_true]
 exact h
theorem aK {A B:Prop}(h:A):if true=true then A else B:=by
 rw[if_pos rfl]
 exact h
theorem KC {c A B:Prop} [Decidable c] (h1:c->A) (h2:¬ c->B):if c then A else B:=by
 by_cases h:c
 ·rw[if_pos h]
  exact h1 h
 ·rw[if_neg h]
  exact h2 h
theorem KD {c A B:Prop} [Decidable c] (hc:c) (h:B):if (!decide c)=true then A else B:=by
 rw[decide_eq_true hc]
 exact aI h
noncomputable def Ab (H H':Hp):Prop:=∀ b o,H b=some o->H' b=some o
theorem Ab.refl (H:Hp):Ab H H:=fun _ _ h=>h
theorem Ab.trans {H H1 H2:Hp}(a:Ab H H1)(b:Ab H1 H2):Ab H H2:=fun c o h=>b c o (a c o h)
theorem Ab.free {H H':Hp}(e:Ab H H'){l:Addr}(h:H' l=Option.none):H l=Option.none:=by
 cases q:H l with
 | none=>rfl
 | some o =>
  rw[e l o q]at h
  cases h
theorem Ab.seq {K:Frag}{H H':Hp}{a:Addr}{xs:List V}(e:Ab H H')(h:Ah K H a xs):Ah K H' a xs:=by
 rcases h with (h | ⟨o,h⟩) | h
 ·exact .inl (.inl (e _ _ h))
 ·exact .inl (.inr ⟨o,e _ _ h⟩)
 ·exact .inr h
end L2
namespace Yd
open PySem
theorem oW (a b:Nat):Builtin.bitAnd (a:Int) (b:Int)=((a &&& b:Nat):Int):=by
 unfold Builtin.bitAnd
 simp
theorem c7 (x:Int):Builtin.bitNot x = -x - 1:=by
 unfold Builtin.bitNot
 omega
theorem DW (a b:Nat):Builtin.bitOr (a:Int) (b:Int)=((a ||| b:Nat):Int):=by
 unfold Builtin.bitOr
 have h1:Builtin.bitNot (a:Int) = -(a:Int) - 1:=c7 _
 have h2:Builtin.bitNot (b:Int) = -(b:Int) - 1:=c7 _
 unfold Builtin.bitAnd
 rw[h1,h2]
 have e1:decide (0 <= -(a:Int) - 1)=false:=decide_eq_false (by omega)
 have e2:decide (0 <= -(b:Int) - 1)=false:=decide_eq_false (by omega)
 rw[e1,e2]
 simp only[]
 have e3:Builtin.bitNot (-(a:Int) - 1)=a:=by rw[c7];omega
 have e4:Builtin.bitNot (-(b:Int) - 1)=b:=by rw[c7];omega
 rw[e3,e4]
 simp only[toNat_natCast]
 rw[c7,c7]
 omega
noncomputable def AK:List Nat->Nat->Nat
 | [],s=>s
 | n :: r,s=>AK r (s ||| 2 ^ n)
theorem Bt (k:Nat):∀ (l:List Nat)(s:Nat),(AK l s).testBit k=(s.testBit k || decide (k ∈ l))
 | [],s=>by simp[AK]
 | n :: r,s=>by
  unfold AK
  rw[Bt k r]
  rw[Nat.testBit_or,Nat.testBit_two_pow]
  by_cases h:n=k
  ·subst h;simp
  ·have:¬ k=n:=fun z=>h z.symm
   simp[h,this]
theorem E6 (l r:List Nat)(s:Nat):AK (l ++ r) s=AK r (AK l s):=by
 induction l generalizing s with
 | nil=>rfl
 | cons n t ih=>exact ih _
noncomputable def jK (l:List Nat):Nat->Nat
 | 0=>0
 | n + 1=>if n ∈ l then jK l n + 2 ^ n else jK l n
theorem CF (l:List Nat):∀ n,jK l n < 2 ^ n
 | 0=>by simp[jK]
 | n + 1=>by
  have:=CF l n
  unfold jK
  rw[Nat.pow_succ]
  split<;>omega
theorem mR (l:List Nat)(k:Nat):∀ n,(jK l n).testBit k=decide (k < n/\k ∈ l)
 | 0=>by simp[jK]
 | n + 1=>by
  have ih:=mR l k n
  have AX:=CF l n
  unfold jK
  by_cases hn:n ∈ l
  ·rw[if_pos hn,Nat.add_comm]
   rcases Nat.lt_trichotomy k n with h | h | h
   ·rw[Nat.testBit_two_pow_add_gt h,ih]
    simp[h,Nat.lt_succ_of_lt h]
   ·subst h
    rw[Nat.testBit_two_pow_add_eq,testBit_lt_two_pow AX]
    simp[hn]
   ·have hb:2 ^ n + jK l n < 2 ^ k:=by
     have:2 ^ (n + 1) <= 2 ^ k:=pow_le_pow_right (by decide) h
     rw[Nat.pow_succ]at this
     omega
    rw[testBit_lt_two_pow hb]
    have:¬ k < n + 1:=by omega
    simp[this]
  ·rw[if_neg hn,ih]
   by_cases h:k=n
   ·subst h;simp[hn]
   ·have:k < n↔k < n + 1:=by omega
    simp[this]
theorem Fx {l:List Nat}{n:Nat}(h:∀ k ∈ l,k < n):jK l n=AK l 0:=by
 apply Nat.eq_of_testBit_eq
 intro k
 rw[mR,Bt]
 by_cases hk:k ∈ l
 ·simp[hk,h k hk]
 ·simp[hk]
noncomputable def D3 (m b:Nat):List Nat:=(List.range b).filter fun k=>m.testBit k
theorem Df {m b k:Nat}(h:m < 2 ^ b):k ∈ D3 m b↔m.testBit k=true:=by
 unfold D3
 rw[mem_filter,mem_range]
 constructor
 ·exact fun z=>z.2
 ·intro z
  refine⟨?_,z⟩
  by_cases hk:k < b
  ·exact hk
  ·have:m < 2 ^ k:=lt_of_lt_of_le h (pow_le_pow_right (by decide) (by omega))
   rw[testBit_lt_two_pow this]at z
   cases z
theorem DX (m b:Nat):(D3 m b).Pairwise (· < ·):=List.Pairwise.filter _ pairwise_lt_range
theorem Dg:∀ {l r:List Int},l.Pairwise (· < ·)->r.Pairwise (· < ·)->(∀ k,k ∈ l↔k ∈ r)->l=r
 | [],[],_,_,_=>rfl
 | [],y :: r,_,_,h=>by
  have:=(h y).mpr mem_cons_self
  cases this
 | x :: l,[],_,_,h=>by
  have:=(h x).mp mem_cons_self
  cases this
 | x :: l,y :: r,hl,hr,h=>by
  obtain⟨hx,D4⟩:=pairwise_cons.mp hl
  obtain⟨hy,G7⟩:=pairwise_cons.mp hr
  have e:x=y:=by
   rcases mem_cons.mp ((h x).mp mem_cons_self) with z | z
   ·exact z
   ·rcases mem_cons.mp ((h y).mpr mem_cons_self) with z' | z'
    ·exact z'.symm
    ·have:=hx y z'
     have:=hy x z
     omega
  subst e
  congr 1
  refine Dg D4 G7 fun k=>?_
  constructor
  ·intro z
   rcases mem_cons.mp ((h k).mp (mem_cons_of_mem _ z)) with q | q
   ·have:=hx k z;omega
   ·exact q
  ·intro z
   rcases mem_cons.mp ((h k).mpr (mem_cons_of_mem _ z)) with q | q
   ·have:=hy k z;omega
   ·exact q
theorem DG (m:Nat):m < 2 ^ (Builtin.Int.intBits (m:Int)):=by
 unfold Builtin.Int.intBits
 by_cases h:m=0
 ·subst h;simp
 ·have e:((m:Int) == 0)=false:=by simp[h]
  rw[e]
  simp only[Bool.false_eq_true,if_false,Int.natAbs_natCast]
  exact Nat.lt_log2_self
theorem bits_le {m b:Nat}(h:m < 2 ^ b):Builtin.Int.intBits (m:Int) <= b:=by
 unfold Builtin.Int.intBits
 by_cases h0:m=0
 ·subst h0;simp
 ·have e:((m:Int) == 0)=false:=by simp[h0]
  rw[e]
  simp only[Bool.false_eq_true,if_false,Int.natAbs_natCast]
  have:=(Nat.log2_lt h0).mpr h
  omega
theorem DH (m k:Nat):decide (Builtin.bitAnd ((m:Int) / 2 ^ k) 1=1)=m.testBit k:=by
 have e:((m:Int) / 2 ^ k)=((m / 2 ^ k:Nat):Int):=by
  rw[Int.natCast_ediv,Int.natCast_pow]
  rfl
 rw[e,show (1:Int)=((1:Nat):Int) from rfl,oW,Nat.testBit_eq_decide_div_mod_eq]
 rw[Nat.and_one_is_mod]
 congr 1
 exact propext ⟨fun z=>by exact_mod_cast z,fun z=>by exact_mod_cast z⟩
end Yd
namespace L2
open PySem PySem.Spec PyProof.Rows
noncomputable def bV (cells:List (Str × Addr)):List (Str × NameKind)->List (Str × Addr)->List (Str × Addr)
 | [],acc=>acc
 | (n,k) :: r,acc=>if k == .free then bV cells r ((n,(cells.lookup n).getD 0) :: acc) else bV cells r acc
theorem fO {scope:Scope}{env:Env}(h:∀ y ∈ scope.names,y.2 = .free->∃ c,env.cells.lookup y.1=some c) :
  closureFor scope env=pure (bV env.cells scope.names []):=by
 unfold closureFor
 have key:∀ (names:List (Str × NameKind))(acc:List (Str × Addr)),(∀ y ∈ names,y.2 = .free->∃ c,env.cells.lookup y.1=some c) ->
   (forIn names acc fun (x:Str × NameKind)(cs:List (Str × Addr))=>(match x with
    | (name,kind)=>if (kind == NameKind.free)=true then do
      let c ← cellOf env name
      pure (ForInStep.yield ((name,c) :: cs))
     else pure (ForInStep.yield cs):Sem (ForInStep (List (Str × Addr)))))=(pure (bV env.cells names acc):Sem (List (Str × Addr))):=by
  intro names
  induction names with
  | nil=>intro acc _;rfl
  | cons y r ih =>
   intro acc hy
   obtain⟨n,k⟩:=y
   rw[List.forIn_cons]
   by_cases hk:(k == NameKind.free)=true
   ·obtain⟨c,hc⟩:=hy (n,k) mem_cons_self (by simpa using hk)
    have e1:cellOf env n=pure c:=by
     unfold cellOf
     simp only[]at hc
     rw[hc]
    simp only[hk,if_true,e1,pure_bind]
    rw[ih _ fun z hz=>hy z (mem_cons_of_mem _ hz)]
    unfold bV
    simp only[]at hc
    rw[if_pos hk,hc]
    conv=>rhs;unfold bV
    rfl
   ·simp only[hk,Bool.false_eq_true,if_false,pure_bind]
    rw[ih _ fun z hz=>hy z (mem_cons_of_mem _ hz)]
    conv=>rhs;unfold bV
    rw[if_neg hk]
 exact(congrArg (fun (m:Sem (List (Str × Addr)))=>m >>= fun z=>pure z) (key scope.names [] h)).trans (pure_bind _ _)
theorem dA {cells:List (Str × Addr)}{x:Str}{c:Addr}:∀ (names:List (Str × NameKind))(acc:List (Str × Addr)),(∀ y ∈ names,y.2 = .free->∃ c,cells.lookup y.1=some c) ->
  (∀ c,acc.lookup x=some c->cells.lookup x=some c)->(bV cells names acc).lookup x=some c->cells.lookup x=some c
 | [],acc,_,ha,e=>ha c e
 | (n,k) :: r,acc,hn,ha,e=>by
  unfold bV at e
  have hr:=fun z hz=>hn z (mem_cons_of_mem _ hz)
  split at e
  ·rename_i hk
   refine dA r _ hr (fun c' e'=>?_) e
   rw[lookup_cons]at e'
   split at e'
   ·rename_i hx
    have C4:x=n:=by simpa using hx
    subst C4
    obtain⟨c0,hc0⟩:=hn (x,k) mem_cons_self (by simpa using hk)
    simp only[]at hc0
    rw[hc0]at e' ⊢
    exact e'
   ·exact ha c' e'
  ·exact dA r acc hr ha e
theorem eE {cells:List (Str × Addr)}{x:Str}:∀ (names:List (Str × NameKind))(acc:List (Str × Addr)),((x,NameKind.free) ∈ names∨∃ c,acc.lookup x=some c) ->
  ∃ c,(bV cells names acc).lookup x=some c
 | [],acc,h=>by
  rcases h with h | h
  ·cases h
  ·exact h
 | (n,k) :: r,acc,h=>by
  unfold bV
  split
  ·rename_i hk
   refine eE r _ ?_
   rcases h with h | ⟨c,h⟩
   ·rcases mem_cons.mp h with h | h
    ·refine .inr ⟨(cells.lookup n).getD 0,?_⟩
     injection h with h1 h2
     rw[lookup_cons,h1]
     simp
    ·exact .inl h
   ·refine .inr ?_
    rw[lookup_cons]
    split
    ·exact⟨_,rfl⟩
    ·exact⟨c,h⟩
  ·rename_i hk
   refine eE r _ ?_
   rcases h with h | h
   ·rcases mem_cons.mp h with h | h
    ·injection h with h1 h2
     subst h2
     exact absurd rfl hk
    ·exact .inl h
   ·exact .inr h
theorem gE {env:Env}{x:Str}:∀ {names:List (Str × NameKind)},names.lookup x=some .free ->
  (names.map fun (n,k)=>if (k == NameKind.free && env.scope.kind == .function && env.kindOf n == some .cell) then (n,NameKind.cell) else (n,k)).lookup x=some .cell ∨
  (names.map fun (n,k)=>if (k == NameKind.free && env.scope.kind == .function && env.kindOf n == some .cell) then (n,NameKind.cell) else (n,k)).lookup x=some .free
 | [],h=>by simp at h
 | (n,k) :: r,h=>by
  have ih:=@gE env x r
  rw[map_cons]
  cases hx:x == n with
  | true =>
   rw[lookup_cons,hx]at h
   cases h
   simp only[]
   split
   ·left;rw[lookup_cons,hx]
   ·right;rw[lookup_cons,hx]
  | false =>
   rw[lookup_cons,hx]at h
   simp only[]
   split
   ·rw[lookup_cons,hx];exact ih h
   ·rw[lookup_cons,hx];exact ih h
theorem eL {env:Env}{x:Str}{k:NameKind}(hk:k = .cell∨k = .free):∀ {names:List (Str × NameKind)},(∀ y ∈ names,y.2 ≠ .cell) ->
  (names.map fun (n,k)=>if (k == NameKind.free && env.scope.kind == .function && env.kindOf n == some .cell) then (n,NameKind.cell) else (n,k)).lookup x=some k->(x,NameKind.free) ∈ names
 | [],_,h=>by simp at h
 | (n,k') :: r,hc,h=>by
  have ih:=@eL env x k hk r fun y hy=>hc y (mem_cons_of_mem _ hy)
  rw[map_cons]at h
  simp only[]at h
  cases hx:x == n with
  | true =>
   have e:x=n:=by simpa using hx
   subst e
   split at h
   ·rename_i q
    have q':k' = .free:=by
     have:=(Bool.and_eq_true _ _ ▸ q:_/\_).1
     have:=(Bool.and_eq_true _ _ ▸ this:_/\_).1
     simpa using this
    rw[q']
    exact mem_cons_self
   ·rw[lookup_cons,hx]at h
    have e2:k' = k:=Option.some.inj h
    rcases hk with z | z
    ·exact absurd (e2.trans z) (hc (x,k') mem_cons_self)
    ·rw[e2,z];exact mem_cons_self
  | false =>
   split at h
   ·rw[lookup_cons,hx]at h;exact mem_cons_of_mem _ (ih h)
   ·rw[lookup_cons,hx]at h;exact mem_cons_of_mem _ (ih h)
section
variable {prog:Program}{w:World}{A:Around}{R:Result->Shared->Prop}{s:Shared}
noncomputable abbrev kI (ifs:List Expr)(env:Env):Sem Bool :=
 forIn ifs true fun c r=>if r=true then do let ok ← isTrue c env (eval c env);pure (ForInStep.yield ok) else pure (ForInStep.yield r)
theorem mZ {elt tg iter:Expr}{ifs:List Expr}{scope:Scope}{pos:Pos}{it acc:Value}{env:Env}(I:Nat->Shared->Prop)
  (turn:∀ n s,I n s->wpAny (model prog w) A (pyNext it) (fun r s1=>match r with
   | none=>R (.ok .next) s1
   | some v=>wpAny (model prog w) A (letOwnedTupleGo tg it v) (fun _ s2=>wpAny (model prog w) A (assign tg env v) (fun _ s3 =>
     wpAny (model prog w) A (kI ifs env) (fun ok s4 =>
      if ok=true then wpAny (model prog w) A (eval elt env) (fun x s5 =>
       wpAny (model prog w) A (call (.builtin "list.append") [acc,x]) (fun _ s6=>∃ m,m < n/\I m s6) (fun _ _=>False) s5) (fun _ _=>False) s4
      else ∃ m,m < n/\I m s4) (fun _ _=>False) s3) (fun _ _=>False) s2) (fun _ _=>False) s1) (fun _ _=>False) s)
  (n:Nat) (h:I n s):codeAny (model prog w) A (.compLoop (.ListComp elt [⟨tg,iter,ifs,0⟩] scope pos) 0 it acc env) R s:=by
 refine codeAny_loop rfl I (fun n s hI=>?_) n h
 have no:∀ {E':Value->Shared->Prop}(e:Value)(s':Shared),False->E' e s':=fun _ _ z=>z.elim
 show wpAny _ A (Sem.onRaise (compTurn (.ListComp elt [⟨tg,iter,ifs,0⟩] scope pos) 0 it acc env) fun x=>do
  noteFrame x env
  theTreesLotGoes x) _ _ s
 refine wpAny_noted ?_
 rw[compTurn_list]
 refine wpAny_bind (wpAny_standAt (wpAny_bind (wpAny_mono (turn n s hI) (fun r s1 h1=>?_) no)))
 cases r with
 | none=>exact wpAny_pure h1
 | some v =>
  refine wpAny_bind (wpAny_mono h1 (fun _ s2 h2=>?_) no)
  refine wpAny_bind (wpAny_mono h2 (fun _ s3 h3=>?_) no)
  refine wpAny_bind (wpAny_mono h3 (fun ok s4 h4=>?_) no)
  cases ok with
  | false=>exact wpAny_pure ⟨rfl,h4⟩
  | true =>
   refine wpAny_bind (wpAny_bind (wpAny_mono h4 (fun x s5 h5=>?_) no))
   exact wpAny_bind (wpAny_mono h5 (fun _ s6 h6=>wpAny_pure (wpAny_pure ⟨rfl,h6⟩)) no)
end
noncomputable def KG (X:Cx)(ifs:List Expr)(t:TT):Prop :=
 ∀ (pins:List (Addr × Obj))(s:Shared)(σ:St)(H:Hp)(Q:Bool->Hp->Prop),Inv X pins σ H s->t σ H Q->wpAny (model X.prog X.w) X.A (kI ifs X.env) (TP X pins σ Q) X.xe s
noncomputable def nI:TT:=fun _ H Q=>Q true H
theorem ca {X:Cx}:KG X [] nI:=fun _ _ _ H _ I h=>wpAny_pure ⟨H,I,h⟩
theorem cr {X:Cx}{c:Expr}{t:TT}(h:PT X c t):KG X [c] t:=fun pins s σ H Q I hw=>by
 simp only[kI,List.forIn_cons,List.forIn_nil,if_true]
 exact wpAny_bind (wpAny_bind (aR (h pins s σ H Q I hw) fun b s' hb=>wpAny_pure (wpAny_pure hb)))
structure Bv (N:List Str)(sc scope:Scope)(capN:List Str)(cap:List Nat):Prop where
 kind:scope.kind = .function
 BH:∀ y ∈ scope.names,y.2 ≠ .cell
 loc:∀ y ∈ scope.names,y.2 = .local->scope.names.lookup y.1=some .local
 free:∀ y ∈ scope.names,y.2 = .free->sc.names.lookup y.1=some .cell∨sc.names.lookup y.1=some .free
 len:cap.length=capN.length
 cap:∀ p ∈ capN.zip cap,scope.names.lookup p.1=some .free/\N[p.2]? = some p.1
noncomputable abbrev bP (X:Cx)(scope:Scope)(N:List Str)(C:Addr)(s:Shared)(H:Hp)(fp:List Addr):Cx :=
 { X with N:=N,s₀:=s,H₀:=H,env:=compEnvC scope (bV X.env.cells scope.names []) C X.env,outer:=X.stack,stack:=X.stack,ex:=fp,fn:=fun _=>false,pn:=[],xe:=fun _ _=>False }
noncomputable def iw (n:Nat)(cap:List Nat)(σ:St):St:=List.replicate n none ++ cap.map fun j=>(σ[j]?).join
theorem ng (n:Nat)(cap:List Nat)(σ:St):(iw n cap σ).length=n + cap.length:=by simp[iw]
section
variable {X:Cx}{pins:List (Addr × Obj)}{σ:St}{H:Hp}{s:Shared}{scope:Scope}{own capN:List Str}{cap:List Nat}{fp:List Addr}
theorem Bv.clos (B:Bv X.N X.env.scope scope capN cap)(ok:X.Ok):∀ y ∈ scope.names,y.2 = .free->∃ c,X.env.cells.lookup y.1=some c:=fun y hy hf=>ok.has y.1 (B.free y hy hf)
theorem Bv.cell (B:Bv X.N X.env.scope scope capN cap)(ok:X.Ok){x:Str}{c:Addr}(h:(bV X.env.cells scope.names []).lookup x=some c):X.env.cells.lookup x=some c :=
 dA scope.names [] (B.clos ok) (fun _ e=>by cases e) h
theorem Bv.locs (I:Inv X pins σ H s)(B:Bv X.N X.env.scope scope capN cap){h':Heap}(k:∀ x c v,X.env.cells.lookup x=some c->s.heap.IsCell c v->h'.IsCell c v)(C:Addr)(m0:Str->Option Value) :
  ∀ (i:Nat)(x:Str)(v:V),(own ++ capN)[i]? = some x->(iw own.length cap σ)[i]? = some (some v)->∃ u,RelV v u/\Look (compEnvC scope (bV X.env.cells scope.names []) C X.env) h' m0 x u:=by
 intro i x v e1 e2
 have hi:own.length <= i:=by
  by_cases q:own.length <= i
  ·exact q
  ·unfold iw at e2
   rw[List.getElem?_append_left (by simp;omega),List.getElem?_replicate,if_pos (by omega)]at e2
   cases e2
 have e1':capN[i - own.length]? = some x:=by
  rwa [List.getElem?_append_right hi]at e1
 unfold iw at e2
 rw[List.getElem?_append_right (by simpa using hi),length_replicate,List.getElem?_map]at e2
 cases ej:cap[i - own.length]? with
 | none=>rw[ej]at e2;cases e2
 | some j =>
  rw[ej]at e2
  have OL:(σ[j]?).join=some v:=Option.some.inj e2
  have e3':σ[j]? = some (some v):=by
   cases q:σ[j]? with
   | none=>rw[q]at OL;cases OL
   | some u=>rw[q]at OL;exact congrArg some OL
  have hz:(x,j) ∈ capN.zip cap:=by
   refine List.mem_iff_getElem?.mpr ⟨i - own.length,?_⟩
   rw[List.getElem?_zip_eq_some]
   exact⟨e1',ej⟩
  obtain⟨c1,c2⟩:=B.cap (x,j) hz
  have VY:(x,NameKind.free) ∈ scope.names:=PySem.mem_of_lookup c1
  have hX:=B.free _ VY rfl
  obtain⟨m,hm,hl⟩:=I.loc
  obtain⟨u,ru,lk⟩:=hl j x v c2 e3' (hX.elim (fun z => .inr (.inl z)) fun z => .inr (.inr z))
  refine⟨u,ru, .inr ⟨gE c1,?_⟩⟩
  rcases lk with ⟨q,_⟩ | ⟨_,c,ec,ic⟩
  ·have q':X.env.scope.names.lookup x=some .local:=q
   rcases hX with z | z
   ·rw[z]at q';cases q'
   ·rw[z]at q';cases q'
  ·obtain⟨c',VZ⟩:=eE (cells:=X.env.cells) (x:=x) scope.names [] (.inl VY)
   have:=B.cell I.ok VZ
   rw[ec]at this
   cases this
   exact⟨c,VZ,k x c _ ec ic⟩
theorem Inv.blk {h4:Heap}{tk:Nat}{m0:Str->Option Value}{C:Addr}(I:Inv X pins σ H s)(B:Bv X.N X.env.scope scope capN cap)(hC:s.heap.objs.size <= C)(k:∀ b o,s.heap.get? b=some o->h4.get? b=some o)
  (hn:h4.Ns C m0) (hf:∀ b ∈ fp,fH X pins H b) (AX:∀ b ∈ fp,b < s.heap.objs.size) :
  Inv (bP X scope (own ++ capN) C s H fp) [] (iw own.length cap σ) H { s with heap:=h4,toks:=tk }:=by
 have QO:∀ b ∈ fp,b ∉ j2 X.stack:=fun b hb z=>by
  obtain⟨_,f1,f2,_⟩:=hf b hb
  rcases mem_cons.mp (I.Br b z) with e | e
  ·exact f1 e
  ·exact f2 e
 have hinv:∀ x,((relabel scope X.env).names.lookup x=some .cell∨(relabel scope X.env).names.lookup x=some .free)->(x,NameKind.free) ∈ scope.names:=fun x hx=>by
  rcases hx with q | q
  ·exact eL (.inl rfl) B.BH q
  ·exact eL (.inr rfl) B.BH q
 refine⟨⟨I.ok.mod,B.kind,I.ok.glob,I.ok.blt,hC,fun x y c h1 h2=>I.ok.inj x y c (B.cell I.ok h1) (B.cell I.ok h2),fun x hx=>eE scope.names [] (.inl (hinv x hx)),fun _ _ z=>absurd z Bool.false_ne_true,I.ok.hd,I.ok.frames, .inl rfl,
  fun b hb=>⟨ne_of_lt (lt_of_lt_of_le (AX b hb) hC),fun x c e=>(hf b hb).2.2.2.2.1 x c (B.cell I.ok e)⟩,I.bs,le_trans I.ok.Ek I.sz,fun b o e hb=>?_,fun b hb=>QO b hb,I.stack,I.Cd⟩,
  rfl,I.bare,Un.kept k,⟨m0,hn,fun i x v e1 e2 _=>B.locs I (fun _ _ _ _ q=>q.keeps k) C m0 i x v e1 e2⟩,fun x c e=>?_,I.Aj.fresh hC,fun x c e=>I.AL x c (B.cell I.ok e),fun p hp=>absurd (show p ∈ ([]:List (Addr × Obj)) from hp) (by simp),I.Aj.kept k,?_⟩
 ·rcases (hf b hb).2.2.2.1 with z | z
  ·exact I.ok.Dx b o e z
  ·exact absurd (lt_of_lt_of_le (lt_size e) (le_trans I.ok.Ek z)) (lt_irrefl _)
 ·obtain⟨v,q⟩:=I.cell x c (B.cell I.ok e)
  exact⟨v,q.keeps k⟩
 ·show(iw own.length cap σ).length=(own ++ capN).length
  rw[ng,length_append,B.len]
theorem Inv.reset {pins':List (Addr × Obj)}{σ':St}{H':Hp}{s':Shared}{C:Addr}(I:Inv X pins σ H s)(B:Bv X.N X.env.scope scope capN cap)(hf:∀ b ∈ fp,fH X pins H b)(J:Inv (bP X scope (own ++ capN) C s H fp) pins' σ' H' s') :
  Inv (bP X scope (own ++ capN) C s H fp) pins' (iw own.length cap σ) H' s':=by
 obtain⟨m,hn,_⟩:=J.loc
 refine⟨J.ok,J.os,J.bare,J.base,⟨m,hn,fun i x v e1 e2 _=>?_⟩,J.cell,J.free,J.AL,J.pin,J.Aj,?_⟩
 ·refine B.locs I (fun y c v' ec ic=>?_) C m i x v e1 e2
  obtain⟨o,ho,hd⟩:=ic
  have hx:c ∉ fp:=fun z=>(hf c z).2.2.2.2.1 y c ec rfl
  obtain⟨sl,e⟩:=J.base.any ho (I.AL y c ec) hx
  exact⟨_,e,hd⟩
 ·show(iw own.length cap σ).length=(own ++ capN).length
  rw[ng,length_append,B.len]
theorem Inv.adopt {D:Addr}{o:HO}(I:Inv X pins σ H s)(hn:H D=none)(h0:X.s₀.heap.objs.size <= D)(hL:D ≠ X.env.locals)(hc:∀ x c,X.env.cells.lookup x=some c->c ≠ D)(hp:∀ p ∈ X.pn ++ pins,p.1 ≠ D)
  (new:Ay X.prog X.w (upd H D o) s.heap D o):Inv X pins σ (upd H D o) s:=by
 have ne:∀ b u,H b=some u->b ≠ D:=fun b u e=>ag e hn
 refine⟨I.ok,I.os,I.bare,⟨I.base.keep,I.base.slot,fun b ob e n hx=>?_,I.base.there,fun b xs e=>?_,fun b ob u e=>?_,fun b ps e=>?_⟩,I.loc,I.cell,?_,fun x c e=>?_,fun p DI=>?_,fun b u e=>?_,I.len⟩
 ·rw[ae (ne_of_lt (lt_of_lt_of_le (lt_size e) h0))]
  exact I.base.free b ob e n hx
 ·have q:=I.base.Ci b xs e
  rw[ae (ne b _ q)];exact q
 ·have q:=I.base.BR b ob u e
  rw[ae (ne b _ q)];exact q
 ·obtain⟨more,q⟩:=I.base.BS b ps e
  exact⟨more,by rw[ae (ne b _ q)];exact q⟩
 ·rw[ae (Ne.symm hL)];exact I.free
 ·rw[ae (hc x c e)];exact I.AL x c e
 ·obtain⟨e,n,r⟩:=I.pin p DI
  exact⟨e,by rw[ae (hp p DI)];exact n,r⟩
 ·by_cases hb:b=D
  ·subst hb;rw[ac]at e;cases e;exact new
  ·rw[ae hb]at e
   exact(I.Aj b u e).BF (fun _ _ _ q=>q) (fun c q=>by rw[ae (ne c _ q)];exact q) fun c xs q=>by rw[ae (ne c _ q)];exact q
end
noncomputable def dQ (J:It)(g:TG)(tt:TT)(te:TE)(σ0:St)(Q:VK)(H1:Hp):Prop:=∃ W:Nat->Nat->List V->Hp->Prop,(∃ m,W 0 m [] H1)/\∀ i m acc H,W i m acc H ->
 acc.length < sizeLine/\((J.stop i H/\∀ D,H D=none->Q (.ref D) (upd H D (.lst acc)))∨(J.go i H/\∃ N:List V->Hp->Prop,(∀ Bf H',N Bf H'->∃ m',m' < m/\W (i + 1) m' Bf H') /\
  ∀ x H',J.EY i H x H'->g x σ0 H' fun σ2 H2=>tt σ2 H2 fun b H3=>if b=true then te σ2 H3 fun y H4=>N (acc ++ [y]) H4 else N acc H3))
noncomputable def xv (wi:TI)(g:TG)(tt:TT)(te:TE)(n:Nat)(cap:List Nat):TE:=fun σ H Q=>wi σ H fun J H1=>dQ J g tt te (iw n cap σ) Q H1
section
variable {X:Cx}{tg iter elt:Expr}{ifs:List Expr}{scope:Scope}{pos:Pos}{wi:TI}{g:TG}{tt:TT}{te:TE}{own capN:List Str}{cap:List Nat}
noncomputable abbrev ll (Ag:List Value)(k:Nat):Obj:={ cls := .type "list",data := .seq Ag.toArray k }
theorem mW {pins:List (Addr × Obj)}{s:Shared}{σ:St}{H:Hp}{Q:VK}{it:Addr}{fp:List Addr}{tn:Nat->Heap->Prop}{J:It}(B:Bv X.N X.env.scope scope capN cap)(hc:X.calm=true)
  (hb:∀ (C:Addr)(s:Shared)(H:Hp)(fp:List Addr),PG (bP X scope (own ++ capN) C s H fp) tg g/\KG (bP X scope (own ++ capN) C s H fp) ifs tt/\PE (bP X scope (own ++ capN) C s H fp) elt te)
  (I:Inv X pins σ H s) (T:nu X.prog X.w X.K tg J fp it tn) (st:tn 0 s.heap) (hf:∀ b ∈ fp,fH X pins H b) {W:Nat->Nat->List V->Hp->Prop} {m0:Nat} (w0:W 0 m0 [] H)
  (turn:∀ i m acc H,W i m acc H->acc.length < sizeLine/\((J.stop i H/\∀ D,H D=none->Q (.ref D) (upd H D (.lst acc)))∨(J.go i H/\∃ N:List V->Hp->Prop,(∀ Bf H',N Bf H'->∃ m',m' < m/\W (i + 1) m' Bf H') /\
   ∀ x H',J.EY i H x H'->g x (iw own.length cap σ) H' fun σ2 H2=>tt σ2 H2 fun b H3=>if b=true then te σ2 H3 fun y H4=>N (acc ++ [y]) H4 else N acc H3)))
  {RR:Value->Addr->Result->Shared->Prop}
  (fin:∀ (D C:Addr)(H':Hp)(s':Shared),Q (.ref D) H'->Inv X pins σ H' s'->(∃ m,s'.heap.Ns C m)->H' C=none->C ≠ X.env.locals->X.s₀.heap.objs.size <= C->(∀ x c,X.env.cells.lookup x=some c->c ≠ C)->(∀ p ∈ X.pn ++ pins,p.1 ≠ C) ->
   RR (.ref D) C (.ok .next) s') :
  wpAny (model X.prog X.w) X.A (newList []) (fun acc s3=>wpAny (model X.prog X.w) X.A (newFunctionEnv scope X.env.globals (bV X.env.cells scope.names []) [] X.env.qual none .none (some X.env)) (fun KH s4 =>
   codeAny (model X.prog X.w) X.A (.compStart (.ListComp elt [⟨tg,iter,ifs,0⟩] scope pos) 0 (.ref it) acc { KH with scope:=relabel scope X.env }) (RR acc KH.locals) s4) X.xe s3) X.xe s:=by
 refine wpAny_newObj_type (wpAny_newFunctionEnv B.BH (by intro y hy;simp at hy) (fun h1 Jx G8=>?_) B.kind)
 dsimp only at Jx G8 ⊢
 generalize E7:s.heap.push { cls := .type "list",dict:=none,data := .seq ([]:List Value).toArray } = H2 at Jx G8 ⊢
 have hCs:H2.objs.size=s.heap.objs.size + 1:=by rw[← E7,size_push]
 have D5:s.heap.objs.size <= H2.objs.size:=by omega
 have Fy:∀ b ∈ fp,b < s.heap.objs.size:=fun b hb=>by
  obtain⟨o,e,_⟩:=T.obj 0 s.heap st b hb
  exact lt_size e
 have old:∀ b o,s.heap.get? b=some o->h1.get? b=some o:=fun b o e =>
  G8.extBut b o (ne_of_lt (lt_of_lt_of_le (lt_size e) D5)) (Heap.get?_push_of_some _ (E7 ▸ Heap.get?_push_of_some _ e))
 have OM:s.heap.objs.size ≠ H2.objs.size:=by omega
 have QP:h1.get? s.heap.objs.size=some (ll [] 0):=G8.extBut _ _ OM (Heap.get?_push_of_some _ (E7 ▸ Heap.get?_push_size _ rfl))
 have I4:Inv (bP X scope (own ++ capN) H2.objs.size s H fp) [] (iw own.length cap σ) H { s with heap:=h1,toks:=s.toks + ([]:List (Str × Value)).length }:=I.blk (own:=own) B D5 old Jx hf Fy
 have QO:∀ b ∈ fp,b ∉ j2 X.stack:=fun b hb z=>by
  obtain⟨_,f1,f2,_⟩:=hf b hb
  rcases mem_cons.mp (I.Br b z) with e | e
  ·exact f1 e
  ·exact f2 e
 have Fz:∀ b ∈ j2 X.stack,b < s.heap.objs.size:=fun b hb=>by
  obtain⟨_,o,ho,_⟩:=I.stack.mem hb
  exact lt_size ho
 have D6:∀ x c,X.env.cells.lookup x=some c->c < s.heap.objs.size:=fun x c e=>by
  obtain⟨v,q⟩:=I.cell x c e
  exact q.lt
 have G9:∀ (H':Hp)(h':Heap)(Ag:List Value)(k:Nat),H' s.heap.objs.size=none->h'.get? s.heap.objs.size=some (ll Ag k) ->
   ∀ p ∈ [(s.heap.objs.size,ll Ag k)],h'.get? p.1=some p.2/\H' p.1=none/\p.1 ≠ (bP X scope (own ++ capN) H2.objs.size s H fp).env.locals/\p.1 ∉ (bP X scope (own ++ capN) H2.objs.size s H fp).fs/\∀ v,p.2.data ≠ .cell v:=fun H' h' Ag k hn he p hp=>by
  have e:p=(s.heap.objs.size,ll Ag k):=by simpa using hp
  subst e
  exact⟨he,hn,OM,fun z=>absurd (Fz _ z) (lt_irrefl _),fun v z=>by cases z⟩
 have stat:∀ (H':Hp)(Ag:List Value)(k:Nat),(∀ b ∈ fp,H' b=none)->∀ b ∈ fp,fH (bP X scope (own ++ capN) H2.objs.size s H fp) [(s.heap.objs.size,ll Ag k)] H' b:=fun H' Ag k hn b hb =>
  ⟨hn b hb,ne_of_lt (lt_of_lt_of_le (Fy b hb) D5),QO b hb, .inl hb,fun x c e=>(hf b hb).2.2.2.2.1 x c (B.cell I.ok e),fun p hp=>by
   have e:p=(s.heap.objs.size,ll Ag k):=by simpa using hp
   subst e
   exact ne_of_gt (Fy b hb)⟩
 have loop:∀ s3:Shared,s3 = { s with heap:=h1,toks:=s.toks + ([]:List (Str × Value)).length } ->
   codeAny (model X.prog X.w) X.A (.compLoop (.ListComp elt [⟨tg,iter,ifs,0⟩] scope pos) 0 (.ref it) (.ref s.heap.objs.size) (compEnvC scope (bV X.env.cells scope.names []) H2.objs.size X.env))
    (RR (.ref s.heap.objs.size) H2.objs.size) s3:=by
  rintro s3 rfl
  refine mZ (fun n s'=>∃ i acc Ag k H',Inv (bP X scope (own ++ capN) H2.objs.size s H fp) [(s.heap.objs.size,ll Ag k)] (iw own.length cap σ) H' s'/\tn i s'.heap/\(∀ b ∈ fp,H' b=none)/\Vals acc Ag/\W i n acc H') ?_ m0
   ⟨0,[],[],0,H,I4.Bi (G9 _ _ _ _ (I.Aj.fresh (le_refl _)) QP),T.keep 0 s.heap h1 st fun b _ o e=>old b o e,fun b hb=>(hf b hb).1, .nil,w0⟩
  rintro n s5 ⟨i,acc,Ag,k,H5,I5,Jr,OE,rv,w5⟩
  obtain⟨hsz,KI⟩:=turn i n acc H5 w5
  obtain⟨hgt,Fc,hte⟩:=hb H2.objs.size s H fp
  rcases KI with ⟨stop,q⟩ | ⟨go,N,hN,step⟩
  ·refine aR (T.done (bP X scope (own ++ capN) H2.objs.size s H fp) rfl rfl rfl hc i _ s5 _ H5 _ I5 (stat H5 Ag k OE) Jr stop) fun r s6 Af=>?_
   obtain⟨hr,I6⟩:=Af
   subst hr
   obtain⟨hD,KJ,_⟩:=I6.pin (s.heap.objs.size,ll Ag k) (by simp)
   have J1:Inv X pins σ H5 s6:=I.G5 (s':=s6) (ch:=fp) I6.os I6.base I6.Aj I6.bare fun b hb=>by
    obtain⟨_,f1,_,f3,f4,f5⟩:=hf b hb
    exact⟨f3,f1,f4,f5⟩
   have J2:Inv X pins σ (upd H5 s.heap.objs.size (.lst acc)) s6:=J1.adopt KJ I.sz (ne_of_gt I.lt) (fun x c e=>ne_of_lt (D6 x c e)) (fun p hp=>ne_of_lt (lt_size (I.pin p hp).1)) ⟨le_of_lt hsz,Ag,k,rv,hD⟩
   obtain⟨mC,KL,_⟩:=I6.loc
   refine fin _ _ _ s6 (q _ KJ) J2 ⟨mC,KL⟩ (by rw[ae (Ne.symm OM)];exact I6.free) (ne_of_gt (lt_of_lt_of_le I.lt D5)) (le_trans I.sz D5) (fun x c e=>ne_of_lt (lt_of_lt_of_le (D6 x c e) D5)) fun p hp =>
    ne_of_lt (lt_of_lt_of_le (lt_size (I.pin p hp).1) D5)
  ·refine aR (T.item (bP X scope (own ++ capN) H2.objs.size s H fp) rfl rfl rfl hc i _ s5 _ H5 _ I5 (stat H5 Ag k OE) Jr go) fun r s6 Af=>?_
   obtain⟨u,hr,h6⟩:=Af
   subst hr
   refine aR h6 fun _ s7 Af=>?_
   obtain⟨x,H7,I7,r7,y7,QQ,KN⟩:=Af
   have I7':=I7.pinned (stat H7 Ag k KN) (T.obj _ _ QQ)
   refine aR (hgt _ s7 _ H7 x u _ I7' r7 (step x H7 y7)) fun _ s8 Af=>?_
   obtain⟨σ8,H8,I8,q8⟩:=Af
   refine aR (Fc _ s8 σ8 H8 _ I8 q8) fun b s9 Af=>?_
   obtain⟨H9,I9,q9⟩:=Af
   have Wc:∀ {H':Hp}{s':Shared}{σ':St},Inv (bP X scope (own ++ capN) H2.objs.size s H fp) (eA fp s7.heap) σ' H' s'->tn (i + 1) s'.heap/\∀ b ∈ fp,H' b=none:=fun {H' s' σ'} K=>by
    refine⟨T.keep _ _ _ QQ fun b hb o e=>(K.pin (b,o) (eD hb e)).1,fun b hb=>?_⟩
    obtain⟨o,e,_⟩:=T.obj _ _ QQ b hb
    exact(K.pin (b,o) (eD hb e)).2.1
   cases b with
   | false =>
    rw[if_neg Bool.false_ne_true]
    obtain⟨m',hm,w9⟩:=hN acc H9 (by simpa using q9)
    have K9:Inv (bP X scope (own ++ capN) H2.objs.size s H fp) (eA fp s7.heap) σ8 H9 s9:=I9.Bi fun p hp=>I9.pin p (mem_append_right _ (mem_append_right _ hp))
    obtain⟨t9,f9⟩:=Wc K9
    exact⟨m',hm,i + 1,acc,Ag,k,H9,I.reset B hf I9.B5,t9,f9,rv,w9⟩
   | true =>
    rw[if_pos rfl]
    have q9':te σ8 H9 fun y H4=>N (acc ++ [y]) H4:=by simpa using q9
    refine aR (hte _ s9 σ8 H9 _ I9 q9') fun yv QR Af=>?_
    obtain⟨y,F0,QS,r10,q10⟩:=Af
    obtain⟨hD,KJ,_⟩:=QS.pin (s.heap.objs.size,ll Ag k) (by simp)
    have hlen:=rv.length
    refine wpAny_list_append_plain ⟨k,hD⟩ (fun h' B4 Ib=>?_) (by rw[size_toArray];omega)
    obtain⟨k',hD'⟩:=B4
    obtain⟨m',hm,w10⟩:=hN (acc ++ [y]) F0 q10
    have K10:Inv (bP X scope (own ++ capN) H2.objs.size s H fp) (eA fp s7.heap) σ8 F0 QR:=QS.Bi fun p hp=>QS.pin p (mem_append_right _ (mem_append_right _ hp))
    have Wd:Inv (bP X scope (own ++ capN) H2.objs.size s H fp) (eA fp s7.heap) σ8 F0 { QR with heap:=h' }:=K10.turned (t':=QR.toks) (it:=s.heap.objs.size) (fun b o hb e=>(Ib.2 b hb).trans e) KJ OM (.inr (le_refl _))
     (fun x c e=>ne_of_lt (D6 x c (B.cell I.ok e))) fun p hp=>by
      obtain⟨hb,_⟩:=jV (show p ∈ eA fp s7.heap from hp)
      exact ne_of_lt (Fy p.1 hb)
    obtain⟨t11,ON⟩:=Wc Wd
    refine⟨m',hm,i + 1,acc ++ [y],Ag ++ [yv],k',F0,?_,t11,ON,rv.append (.cons r10 .nil),w10⟩
    refine I.reset B hf (Wd.Bi (G9 _ _ _ _ KJ ?_))
    show h'.get? s.heap.objs.size=some { cls := .type "list",data := .seq (Ag ++ [yv]).toArray k' }
    rw[show(Ag ++ [yv]).toArray=Ag.toArray.push yv by simp]
    exact hD'
 exact codeAny_compStart_list (loop _ rfl) (T.self X.A 0 _ _ _ (T.keep 0 s.heap h1 st fun b _ o e=>old b o e) (loop _ rfl))
theorem bA (B:Bv X.N X.env.scope scope capN cap)(hc:X.calm=true)(hi:PI X tg iter wi)
  (hb:∀ (C:Addr)(s:Shared)(H:Hp)(fp:List Addr),PG (bP X scope (own ++ capN) C s H fp) tg g/\KG (bP X scope (own ++ capN) C s H fp) ifs tt/\PE (bP X scope (own ++ capN) C s H fp) elt te)
  (hs:∀ x,foldedSetIterable iter X.env x=pure x:=by intro _;rfl):PE X (.ListComp elt [⟨tg,iter,ifs,0⟩] scope pos) (xv wi g tt te own.length cap):=by
 intro pins s σ H Q I h
 rw[eval_ListComp]
 refine wpAny_comprehension_free (use:=none) rfl hs (fO (B.clos I.ok)) B.kind B.loc (aR (hi pins s σ H _ I h) fun v s1 h1=>aR h1 fun OC s2 h2=>?_)
 obtain⟨it,fp,tn,J,H2,e,I2,T,Kp,f2,W,⟨m0,w0⟩,turn⟩:=h2
 subst e
 refine mW (own:=own) B hc hb I2 T Kp f2 w0 turn (RR:=fun acc C=>compPost (model X.prog X.w) X.A X.xe none (EP X pins σ Q) acc C) fun D C H' s' q J2 ⟨mC,KL⟩ fC n1 n2 n3 n4=>?_
 refine⟨mC,KL,fun h' G8=>⟨.ref D,H',?_,rfl,q⟩⟩
 exact J2.turned (t':=s'.toks) (it:=C) (fun b o hb e=>(G8.2 b hb).trans e) fC n1 (.inr n2) n3 n4
theorem c8 {i:Nat}{x:Str}{px:Pos}{KO:Pos}(B:Bv X.N X.env.scope scope capN cap)(hc:X.calm=true)(hN:X.N.Nodup)(hx:X.N[i]? = some x)(hl:X.env.scope.names.lookup x=some .local)(hi:PI X tg iter wi)
  (hb:∀ (C:Addr)(s:Shared)(H:Hp)(fp:List Addr),PG (bP X scope (own ++ capN) C s H fp) tg g/\KG (bP X scope (own ++ capN) C s H fp) ifs tt/\PE (bP X scope (own ++ capN) C s H fp) elt te)
  (hsw:swapsWith (.ListComp elt [⟨tg,iter,ifs,0⟩] scope pos) (some (.Name x px)) KO.line X.env=pure true:=by rfl)
  (hs:∀ x,foldedSetIterable iter X.env x=pure x:=by intro _;rfl):PS X (.Assign [.Name x px] (.ListComp elt [⟨tg,iter,ifs,0⟩] scope pos) KO) (yh (xv wi g tt te own.length cap) (dO i)):=by
 intro pins s σ H D0 I h
 rw[exec_Assign_Name_used _ _ _ _ hsw]
 refine wpAny_bind (wpAny_standAt (wpAny_bind ?_))
 show wpAny _ X.A (do
  let _ ← comprehension (.ListComp elt [⟨tg,iter,ifs,0⟩] scope pos) scope X.env _ (newList []) false (eval iter X.env) (some (assign (.Name x px) X.env))) _ _ s
 refine wpAny_bind (wpAny_mono (wpAny_comprehension_free (use:=some (assign (.Name x px) X.env)) (Q:=fun _ s'=>SP X pins D0 .next s') rfl hs (fO (B.clos I.ok)) B.kind B.loc
  (aR (hi pins s σ H _ I h) fun v s1 h1=>aR h1 fun OC s2 h2=>?_)) (fun _ s' hq=>wpAny_pure (wpAny_pure hq)) fun _ _ e=>e)
 obtain⟨it,fp,tn,J,H2,e,I2,T,Kp,f2,W,⟨m0,w0⟩,turn⟩:=h2
 subst e
 refine mW (own:=own) (Q:=fun x H1=>dO i x σ H1 D0.nx) B hc hb I2 T Kp f2 w0 turn (RR:=fun acc C=>compPost (model X.prog X.w) X.A X.xe (some (assign (.Name x px) X.env)) (fun _ s'=>SP X pins D0 .next s') acc C) fun D C H' s' q J2 ⟨mC,KL⟩ fC n1 n2 n3 n4=>?_
 show wpAny _ X.A (assign (.Name x px) X.env (.ref D)) _ _ s'
 refine wpAny_assign_Name (jO J2 hN hx (.inl hl) (show RelV (.ref D) (.ref D) from rfl) (fun E4 J3 Af=>?_) (.inr hl))
 obtain⟨a,G8,ha⟩:=Af
 have hCa:C ≠ a:=by
  rcases ha with z | z
  ·rw[z];exact n1
  ·exact(n3 x a z).symm
 refine⟨mC,KL.sameBut G8 hCa,fun h' Ib=>⟨_,H',?_,q⟩⟩
 exact J3.turned (t':=E4.toks) (it:=C) (fun b o hb e=>(Ib.2 b hb).trans e) fC n1 (.inr n2) n3 n4
end
end L2
namespace L2
open PySem PySem.Spec PyProof.Rows
mutual
inductive iS (K:Frag)(H:Hp):V->PyData->Prop
 | Av:iS K H .Av .none
 | bl (b:Bool):iS K H (.bl b) (.bool b)
 | int (i:Int):iS K H (.int i) (.int i)
 | str (x:Str):iS K H (.str x) (.str x)
 | lst {a:Addr} {xs:List V} {ds:List PyData}:Ah K H a xs->hZ K H xs ds->iS K H (.ref a) (.list ds)
 | tup {a:Addr} {xs:List V} {ds:List PyData}:An K H a xs->hZ K H xs ds->iS K H (.ref a) (.tuple ds)
inductive hZ (K:Frag)(H:Hp):List V->List PyData->Prop
 | nil:hZ K H [] []
 | cons {x:V} {d:PyData} {xs:List V} {ds:List PyData}:iS K H x d->hZ K H xs ds->hZ K H (x :: xs) (d :: ds)
end
section
variable {X:Cx}{pins:List (Addr × Obj)}{σ:St}{H:Hp}{s:Shared}
mutual
theorem Inv.den (I:Inv X pins σ H s):∀ {x:V}{d:PyData}{u:Value},iS X.K H x d->RelV x u->∃ as,Reads s.heap u d as
 | _,_,_, .Av,r=>by cases r;exact⟨_, .none⟩
 | _,_,_, .bl b,r=>by cases r;exact⟨_, .bool b⟩
 | _,_,_, .int i,r=>by obtain⟨t,rfl⟩:=r;exact⟨_, .int i t⟩
 | _,_,_, .str x,r=>by obtain⟨t,rfl⟩:=r;exact⟨_, .str x t⟩
 | _,_,_, .lst hq hd,r=>by
  cases r
  obtain⟨Ag,rv,⟨o,n,e,hc,_,QT⟩,_⟩:=I.list hq
  obtain⟨as,q⟩:=I.Ic hd rv
  exact⟨_, .list e hc QT (by simpa using q)⟩
 | _,_,_, .tup hq hd,r=>by
  cases r
  obtain⟨Ag,rv,⟨o,e,hc,n,QT⟩,_⟩:=I.tuple hq
  obtain⟨as,q⟩:=I.Ic hd rv
  exact⟨_, .tuple e hc QT (by simpa using q)⟩
theorem Inv.Ic (I:Inv X pins σ H s):∀ {xs:List V}{ds:List PyData}{us:List Value},hZ X.K H xs ds->Vals xs us->∃ as,ReadsAll s.heap us ds as
 | _,_,_, .nil, .nil=>⟨_, .nil⟩
 | _,_,_, .cons hd hr, .cons r rr=>by
  obtain⟨as,q⟩:=I.den hd r
  obtain⟨bs,q'⟩:=I.Ic hr rr
  exact⟨_, .cons q q'⟩
end
noncomputable def KP (K:Frag):R2:=fun x y H Q=>∃ da db,iS K H x da/\iS K H y db/\SeqAt.shaped da=true/\SeqAt.shaped db=true/\Q (.bl (PyData.eqv da db)) H
noncomputable def yE (K:Frag):R2:=fun x y H Q=>∃ da db,iS K H x da/\iS K H y db/\SeqAt.shaped da=true/\SeqAt.shaped db=true/\Q (.bl (!PyData.eqv da db)) H
end
section
variable {X:Cx}
theorem yO (hu:X.A.units + 64 < cLine):eI X (compareOp .Eq) (KP X.K):=by
 intro pins s σ H x y v u Q I rx ry h
 obtain⟨da,db,h1,h2,h3,h4,q⟩:=h
 obtain⟨as,r1⟩:=I.den h1 rx
 obtain⟨bs,r2⟩:=I.den h2 ry
 exact SeqAt.compareEq_shaped r1 r2 h3 h4 hu ⟨.bl _,H,I,rfl,q⟩
theorem jm (hu:X.A.units + 64 < cLine):eI X (compareOp .NotEq) (yE X.K):=by
 intro pins s σ H x y v u Q I rx ry h
 obtain⟨da,db,h1,h2,h3,h4,q⟩:=h
 obtain⟨as,r1⟩:=I.den h1 rx
 obtain⟨bs,r2⟩:=I.den h2 ry
 exact SeqAt.compareNe_shaped r1 r2 h3 h4 hu ⟨.bl _,H,I,rfl,q⟩
theorem k4 {K:Frag}{H:Hp}:∀ ns:List Int,hZ K H (ns.map V.int) (ns.map PyData.int)
 | [] => .nil
 | n :: r => .cons (.int n) (k4 r)
theorem mT {K:Frag}{H:Hp}{a:Addr}{ns:List Int}(h:Ah K H a (ns.map V.int)):iS K H (.ref a) (.list (ns.map PyData.int)) := .lst h (k4 ns)
noncomputable def QU (K:Frag):R2:=fun x y H Q=>∃ (p q:Addr)(ns ms:List Int),x = .ref p/\y = .ref q/\Ah K H p (ns.map V.int)/\Ah K H q (ms.map V.int)/\Q (.bl (!decide (ns=ms))) H
theorem yN (hu:X.A.units + 64 < cLine):eI X (compareOp .NotEq) (QU X.K):=by
 intro pins s σ H x y v u Q I rx ry h
 obtain⟨p,q,ns,ms,rfl,rfl,h1,h2,q⟩:=h
 refine jm hu pins s σ H _ _ v u Q I rx ry ⟨_,_,mT h1,mT h2,PySem.W.shaped_ints ns,PySem.W.shaped_ints ms,?_⟩
 simp only[PyData.eqv,PySem.W.ked_eqvAll]
 exact q
noncomputable def QV (K:Frag):List V->Hp->VK->Prop:=fun xs H Q =>
 (∃ i,xs=[.int i, .ty "int"]/\Q (.bl true) H)∨(∃ i,xs=[.int i, .ty "bool"]/\Q (.bl false) H)∨(∃ p ys,xs=[.ref p, .ty "list"]/\Ah K H p ys/\Q (.bl true) H)∨(∃ p ys,xs=[.ref p, .ty "tuple"]/\An K H p ys/\Q (.bl true) H)
theorem nc:fu X (.builtin "isinstance") (QV X.K):=by
 intro pins s σ H xs us Q I r h
 rcases h with ⟨i,rfl,q⟩ | ⟨i,rfl,q⟩ | ⟨p,ys,rfl,hq,q⟩ | ⟨p,ys,rfl,hq,q⟩
 ·cases r with
  | cons r1 r2 =>
   cases r2 with
   | cons r2 r3 =>
    cases r3
    obtain⟨t,rfl⟩:=r1
    cases r2
    exact IsiPair.int_int ⟨.bl true,H,I,rfl,q⟩
 ·cases r with
  | cons r1 r2 =>
   cases r2 with
   | cons r2 r3 =>
    cases r3
    obtain⟨t,rfl⟩:=r1
    cases r2
    exact IsiPair.int_bool ⟨.bl false,H,I.tok _,rfl,q⟩
 ·cases r with
  | cons r1 r2 =>
   cases r2 with
   | cons r2 r3 =>
    cases r3
    cases r1
    cases r2
    obtain⟨Ag,rv,⟨o,n,e,hc,_⟩,_⟩:=I.list hq
    exact IsiPair.list_list e hc ⟨.bl true,H,I,rfl,q⟩
 ·cases r with
  | cons r1 r2 =>
   cases r2 with
   | cons r2 r3 =>
    cases r3
    cases r1
    cases r2
    obtain⟨Ag,rv,⟨o,e,hc,_⟩,_⟩:=I.tuple hq
    exact IsiPair.tuple_tuple e hc ⟨.bl true,H,I,rfl,q⟩
theorem wJ:OI X "int.bit_length" (fun x xs H Q=>∃ i,x = .int i/\xs=[]/\Q (.int (Builtin.Int.intBits i:Nat)) H):=by
 intro pins s σ H x xs v us Q I rx rv h
 obtain⟨i,rfl,rfl,q⟩:=h
 obtain⟨t,rfl⟩:=rx
 cases rv
 exact call_int_bit_length ⟨.int _,H,I.tok _,⟨_,rfl⟩,q⟩
theorem Inv.same {pins:List (Addr × Obj)}{σ:St}{H:Hp}{s s':Shared}(I:Inv X pins σ H s)(k:∀ b o,s.heap.get? b=some o->s'.heap.get? b=some o)(g:s'.gens=s.gens)(ho:s'.os=s.os):Inv X pins σ H s':=by
 obtain⟨hh,gg,dd,tt,oo⟩:=s'
 simp only at k g ho
 subst g
 subst ho
 have J:Inv X pins σ H { s with heap:=hh,toks:=tt }:=I.kept k
 exact⟨J.ok,J.os,J.bare,J.base,J.loc,J.cell,J.free,J.AL,J.pin,J.Aj,J.len⟩
theorem jA (hc:X.calm=true):fu X (.builtin "all") (fun xs H Q=>∃ (p:Addr)(bs:List Bool),xs=[.ref p]/\Ah X.K H p (bs.map V.bl)/\Q (.bl (bs.all id)) H):=by
 intro pins s σ H xs us Q I r h
 obtain⟨p,bs,rfl,hq,q⟩:=h
 obtain⟨u,rfl,rx⟩:=lG r
 cases rx
 obtain⟨Ag,rv,pl,hz⟩:=I.list hq
 have hlen:=rv.length
 rw[length_map]at hlen
 have AX:p < s.heap.objs.size:=by obtain⟨o,n,e,_⟩:=pl;exact lt_size e
 have We:∀ (i:Nat)(v:Value),Ag.toArray[i]? = some v->v=Value.bool (bs.getD i false):=fun i v hv=>by
  have Jt:Ag[i]? = some v:=by simpa using hv
  have hi:i < bs.length:=by rw[hlen];exact(List.getElem?_eq_some_iff.mp Jt).1
  obtain⟨u,hu,ru⟩:=rv.get (i:=i) (x := .bl bs[i]) (by simp[hi])
  rw[Jt]at hu
  cases hu
  rw[getD_eq_getElem?_getD,List.getElem?_eq_getElem hi]
  exact ru
 have hh1:X.A.in1.handled=none:=I.ok.hd hc
 refine call_all_walkS (wpAny_pyIter_list pl.isList ⟨s.heap.objs.size,[s.heap.objs.size,p],[s.heap.objs.size],fun a b=>b=a,Ag.toArray.size,fun i v=>Ag.toArray[i]? = some v,_,fun i=>bs.getD i false,rfl,
  (Walks.list hh1 _ p (ne_of_lt AX) Ag.toArray).toS,⟨⟨_,Heap.get?_push_size _ rfl,rfl,rfl⟩,pl.isList.push _⟩,fun i v s1 Q1 E1 hv hq1=>?_,fun s' hm=>?_⟩)
 ·rw[We i v hv]
  exact wpAny_truthy_bool hq1
 ·have I1:Inv X pins σ H { s with heap:=s.heap.push { cls := .type "list_iterator",data := .fields #[.ref p, .int 0 0] } }:=I.kept (t':=s.toks) fun b o e=>Heap.get?_push_of_some _ e
  refine⟨.bl _,H,I.same (fun b o e=>hm.heap b o (fun hb=>?_) (Heap.get?_push_of_some _ e)) hm.gens hm.os,rfl,?_⟩
  ·have BW:b=s.heap.objs.size:=by simpa using hb
   exact absurd (lt_size e) (by rw[BW];exact lt_irrefl _)
  ·have e:((List.range Ag.toArray.size).all fun i=>bs.getD i false)=bs.all id:=by
    rw[size_toArray,← hlen]
    clear We hlen hq rv q
    have:(List.range bs.length).map (fun i=>bs.getD i false)=bs:=by
     apply List.ext_getElem
     ·simp
     ·intro i h1 h2
      simp[h2]
    conv=>rhs;rw[← this]
    rw[all_map]
    rfl
   rw[e]
   exact q
end
end L2
namespace L2
open PySem PySem.Spec PyProof.Rows
theorem j6 {o:Obj}{vs:Array Value}(hd:o.data = .fields vs)(f:Array Value->Array Value):(Obj.mapFields f o).dict=o.dict:=by
 obtain⟨c,d,dt,sl⟩:=o
 cases dt<;>rfl
noncomputable def F1 (h:Heap)(e:Addr)(cls:Value)(dd:Option Addr)(ch:List Addr):Prop :=
 ∃ oe vs,h.get? e=some oe/\oe.cls=cls/\oe.dict=dd/\oe.data = .fields vs /\
  ((vs[1]? = some .none/\ch=[e])∨∃ T oT ts,vs[1]? = some (.ref T)/\T ≠ e/\h.get? T=some oT/\oT.data = .fields ts/\ts[3]? = some .none/\ch=[e,T])
theorem F1.rec {h:Heap}{e:Addr}{cls:Value}{dd:Option Addr}{ch:List Addr}(x:F1 h e cls dd ch):∀ b ∈ ch,∃ o vs,h.get? b=some o/\o.data = .fields vs:=by
 obtain⟨oe,vs,he,_,_,hd,h1 | ⟨T,oT,ts,_,_,hT,Jy,_,rfl⟩⟩:=x
 ·obtain⟨_,rfl⟩:=h1
  intro b hb
  simp only[mem_singleton]at hb
  subst hb
  exact⟨oe,vs,he,hd⟩
 ·intro b hb
  simp only[mem_cons,not_mem_nil,or_false]at hb
  rcases hb with rfl | rfl
  ·exact⟨oe,vs,he,hd⟩
  ·exact⟨oT,ts,hT,Jy⟩
structure qy (fs ch:List Addr)(h h':Heap):Prop where
 keep:∀ b o,h.get? b=some o->b ∉ ch->b ∉ fs->h'.get? b=some o
 slot:∀ b o,h.get? b=some o->b ∉ ch->∃ sl,h'.get? b=some { o with slots:=sl }
 there:∀ b o,h.get? b=some o->∃ o',h'.get? b=some o'
section
variable {M:Model}{A:Around}{E:Value->Shared->Prop}{s:Shared}
theorem jX {base:Heap}{env:Env}{outer:List Env}{L e:Addr}{oe:Obj}{vs:Array Value}{head:Value}{hadNext:Bool}{Q:Unit->Shared->Prop}
  (DY:A.frames=some (env :: outer)) (hl:s.heap.FunFrames base (env :: outer)) (hf:env.frame=some L)
  (he:s.heap.get? e=some oe) (hd:oe.data = .fields vs) (hsz:1 < vs.size)
  (h:∀ h',F1 h' e oe.cls oe.dict [e,s.heap.objs.size]->qy (j2 (env :: outer)) [e] s.heap h'->Q () { s with heap:=h' }) :
  wpAny M A (do let a ← frameOf env;let pl ← entryPlaceOf L hadNext;let b ← EntryCells.newEntry head a .none (rawInt L) .none pl;setField (.ref e) 1 b) (fun _ s'=>wpAny M A (setFlight (.ref e) none) Q E s') E s:=by
 have QW:e ∉ (env :: outer).filterMap (·.frame):=fun hm=>by
  obtain⟨_,o,ho,Ie⟩:=hl.mem hm
  rw[he]at ho;injection ho with ho;subst ho;exact Ie vs hd
 refine wpAny_bind (wpAny_frameOf_fun DY hl hf fun h₁ Dh=>?_)
 refine wpAny_bind (wpAny_entryPlaceOf fun pl B4=>?_)
 unfold EntryCells.newEntry newFields
 refine wpAny_bind (wpAny_newObj_type ?_ (B4.sizeOk5 _ _ _ _ _))
 have GA:h₁.get? e=some oe:=(Dh.2.1 e QW).trans he
 have GC:=Heap.get?_push_of_some (h:=h₁) { cls := .type "traceback",dict:=none,data := .fields ([head, .ref L, .none,rawInt L, .none] ++ (if pl.isEmpty then List.replicate 6 Value.none else pl)).toArray } GA
 refine wpAny_setField GC hd hsz ?_
 have Jz:h₁.objs.size ≠ e:=ne_of_gt (lt_size GA)
 have E8:=Obj.data_mapFields hd (·.setIfInBounds 1 (Value.ref h₁.objs.size))
 have E9:=Heap.get?_update_self (Obj.mapFields (·.setIfInBounds 1 (Value.ref h₁.objs.size))) GC (Obj.isFreed_of_fields E8)
 have GF:=(Heap.get?_update_other (h₁.push { cls := .type "traceback",dict:=none,data := .fields ([head, .ref L, .none,rawInt L, .none] ++ (if pl.isEmpty then List.replicate 6 Value.none else pl)).toArray })
  (Obj.mapFields (·.setIfInBounds 1 (Value.ref h₁.objs.size))) (Ne.symm Jz)).trans (Heap.get?_push_size h₁ rfl)
 unfold setFlight
 refine wpAny_bind (wpAny_field E9 E8 (x := .ref h₁.objs.size) (by simp[hsz]) ?_)
 rw[if_pos (show(Value.ref h₁.objs.size != Value.none)=true from by simp)]
 refine wpAny_setField GF rfl (by simp only[size_toArray,length_append,length_cons,length_nil]<;>omega) (h _ ?_ ?_)
 ·refine⟨_,_,?_,Obj.cls_mapFields _ _,j6 hd _,E8, .inr ⟨h₁.objs.size,_,_,by simp[hsz],Jz,Heap.get?_update_self _ GF (Obj.isFreed_of_fields (Obj.data_mapFields rfl _)),Obj.data_mapFields rfl _,by first | (simp;done) | (rcases B4 with rfl | ⟨_,_,_,_,_,_,_,rfl⟩<;>simp),by rw[Dh.1]⟩⟩
  rw[Heap.get?_update_other _ _ Jz];exact E9
 ·have keep:∀ b o,b ≠ e->h₁.get? b=some o ->
    (((h₁.push { cls := .type "traceback",dict:=none,data := .fields ([head, .ref L, .none,rawInt L, .none] ++ (if pl.isEmpty then List.replicate 6 Value.none else pl)).toArray }).update e (Obj.mapFields (·.setIfInBounds 1 (Value.ref h₁.objs.size)))).update h₁.objs.size
     (Obj.mapFields (·.setIfInBounds 3 ((none:Option Addr).elim Value.none fun f=>rawInt f)))).get? b=some o:=fun b o Cv hb=>by
   have OO:h₁.objs.size ≠ b:=ne_of_gt (lt_size hb)
   rw[Heap.get?_update_other _ _ OO,Heap.get?_update_other _ _ (Ne.symm Cv)]
   exact Heap.get?_push_of_some _ hb
  refine⟨fun b o hb hc QX=>keep b o (by simpa using hc) ((Dh.2.1 b QX).trans hb),fun b o hb hc=>?_,fun b o hb=>?_⟩
  ·obtain⟨sl,hs⟩:=Dh.2.2 b o hb
   exact⟨sl,keep b _ (by simpa using hc) hs⟩
  ·by_cases Cv:b=e
   ·subst Cv
    exact⟨_,by rw[Heap.get?_update_other _ _ Jz];exact E9⟩
   ·obtain⟨sl,hs⟩:=Dh.2.2 b o hb
    exact⟨_,keep b _ Cv hs⟩
theorem qX {base:Heap}{env:Env}{outer:List Env}{L e:Addr}{cls:Value}{dd:Option Addr}{ch:List Addr}{Q:Unit->Shared->Prop}
  (DY:A.frames=some (env :: outer)) (hl:s.heap.FunFrames base (env :: outer)) (hf:env.frame=some L) (x:F1 s.heap e cls dd ch)
  (h:∀ h' Ig,F1 h' e cls dd Ig->qy (j2 (env :: outer)) ch s.heap h'->(∀ b ∈ Ig,b ∈ ch∨s.heap.objs.size <= b)->Q () { s with heap:=h' }) :
  wpAny M A (noteFrame (.ref e) env) (fun _ s'=>wpAny M A (setFlight (.ref e) none) Q E s') E s:=by
 obtain⟨oe,vs,he,rfl,rfl,hd,⟨h1,rfl⟩ | ⟨T,oT,ts,h1,Jz,hT,Jy,h3,rfl⟩⟩:=x
 ·unfold noteFrame
  simp only[hf]
  refine wpAny_bind (wpAny_field he hd h1 ?_)
  rw[if_neg (by decide)]
  refine jX DY hl hf he hd (Array.getElem?_eq_some_iff.mp h1).1 fun h' f m=>h h' _ f m fun b hb=>?_
  simp only[mem_cons,not_mem_nil,or_false]at hb
  rcases hb with rfl | rfl
  ·exact .inl (by simp)
  ·exact .inr (le_refl _)
 ·unfold noteFrame
  simp only[hf]
  refine wpAny_bind (wpAny_field he hd h1 ?_)
  rw[if_pos (show(Value.ref T != Value.none)=true from by simp)]
  refine wpAny_bind (wpAny_field hT Jy h3 ?_)
  rw[if_neg (show ¬ ((Value.none == rawInt L)=true) from by simp[rawInt])]
  refine wpAny_bind (wpAny_setField hT Jy (Array.getElem?_eq_some_iff.mp h3).1 ?_)
  have other:∀ b,b ≠ T->(s.heap.update T (Obj.mapFields (·.setIfInBounds 3 Value.none))).get? b=s.heap.get? b:=fun b hb=>Heap.get?_update_other _ _ (Ne.symm hb)
  have KQ:=Heap.get?_update_self (Obj.mapFields (·.setIfInBounds 3 Value.none)) hT (Obj.isFreed_of_fields (Obj.data_mapFields Jy _))
  have noRecord:∀ b o,s.heap.get? b=some o->(∀ vs,o.data ≠ .fields vs)->b ≠ T:=fun b o hb Ie q=>by
   rw[q,hT]at hb;injection hb with hb;subst hb;exact Ie ts Jy
  have KR:(s.heap.update T (Obj.mapFields (·.setIfInBounds 3 Value.none))).objs.size=s.heap.objs.size:=Heap.size_after_update _ _ _
  refine jX (s:={ s with heap:=s.heap.update T (Obj.mapFields (·.setIfInBounds 3 Value.none)) }) DY (hl.of_keeps fun b o hb Ie=>⟨o,(other b (noRecord b o hb Ie)).trans hb,rfl⟩) hf ((other e (Ne.symm Jz)).trans he) hd (Array.getElem?_eq_some_iff.mp h1).1
   fun h' f m=>h h' _ f ⟨fun b o hb hc QX=>?_,fun b o hb hc=>?_,fun b o hb=>?_⟩ fun b hb=>?_
  ·simp only[mem_cons,not_mem_nil,or_false,not_or]at hc
   exact m.keep b o ((other b hc.2).trans hb) (by simpa using hc.1) QX
  ·simp only[mem_cons,not_mem_nil,or_false,not_or]at hc
   exact m.slot b o ((other b hc.2).trans hb) (by simpa using hc.1)
  ·by_cases OO:b=T
   ·subst OO
    exact m.there b _ KQ
   ·exact m.there b o ((other b OO).trans hb)
  ·simp only[mem_cons,not_mem_nil,or_false]at hb
   rcases hb with rfl | rfl
   ·exact .inl (by simp)
   ·exact .inr (le_of_eq KR.symm)
theorem oJ {base:Heap}{env:Env}{outer:List Env}{L e:Addr}{cls:Value}{dd:Option Addr}{ch:List Addr}{Q:Unit->Shared->Prop}
  (DY:A.frames=some (env :: outer)) (hl:s.heap.FunFrames base (env :: outer)) (hf:env.frame=some L) (x:F1 s.heap e cls dd ch)
  (h:∀ h' Ig,F1 h' e cls dd Ig->qy (j2 (env :: outer)) ch s.heap h'->(∀ b ∈ Ig,b ∈ ch∨s.heap.objs.size <= b)->Q () { s with heap:=h' }) :
  wpAny M A (leaving env (.ref e)) Q E s:=by
 unfold leaving
 exact wpAny_bind (qX DY hl hf x h)
end
section
variable {X:Cx}{pins:List (Addr × Obj)}{σ:St}{H:Hp}{s:Shared}
theorem Inv.F2 {h':Heap}{ch:List Addr}(I:Inv X pins σ H s)(m:qy (j2 X.stack) ch s.heap h')
  (Cr:∀ b ∈ ch,X.s₀.heap.get? b=none/\H b=none/\(∀ p ∈ X.pn ++ pins,p.1 ≠ b)/\∃ o vs,s.heap.get? b=some o/\o.data = .fields vs) :
  Inv X pins σ H { s with heap:=h' }:=by
 have KS:∀ b o,s.heap.get? b=some o->(∀ vs,o.data ≠ .fields vs)->b ∉ ch:=fun b o hb hn hc=>by
  obtain⟨_,_,_,o',vs,BW,hd⟩:=Cr b hc
  rw[hb]at BW;cases BW
  exact hn vs hd
 have cellK:∀ c v,s.heap.IsCell c v->h'.IsCell c v:=fun c v ⟨o,ho,hd⟩=>by
  obtain⟨sl,e⟩:=m.slot c o ho (KS c o ho fun vs q=>by rw[hd]at q;cases q)
  exact⟨_,e,hd⟩
 refine⟨I.ok,I.os,I.bare,⟨fun b o e n hf hx=>?_,fun b o e n hf hx=>?_,I.base.free,fun b o e hx=>?_,I.base.Ci,I.base.BR,I.base.BS⟩,?_,fun x c hc=>?_,I.free,I.AL,fun p hp=>?_,fun b u e=>?_,I.len⟩
 ·have e1:=I.base.keep b o e n hf hx
  refine m.keep b o e1 (fun hc=>?_) fun hs=>?_
  ·rw[(Cr b hc).1]at e;cases e
  ·rcases mem_cons.mp (I.Br b hs) with z | z
   ·rw[z]at e
    exact absurd (lt_size e) (Nat.not_lt.mpr I.ok.above)
   ·exact hf z
 ·obtain⟨sl,e1⟩:=I.base.slot b o e n hf hx
  obtain⟨Ju,e2⟩:=m.slot b _ e1 fun hc=>by rw[(Cr b hc).1]at e;cases e
  exact⟨Ju,e2⟩
 ·obtain⟨o',e1⟩:=I.base.there b o e hx
  exact m.there b o' e1
 ·obtain⟨mm,⟨o,es,ep,ho,hd,r⟩,hl⟩:=I.loc
  obtain⟨sl,e⟩:=m.slot _ o ho (KS _ o ho fun vs q=>by rw[hd]at q;cases q)
  refine⟨mm,⟨_,es,ep,e,hd,r⟩,fun i x v h1 h2 h3=>?_⟩
  obtain⟨u,ru,lk⟩:=hl i x v h1 h2 h3
  refine⟨u,ru,?_⟩
  rcases lk with ⟨a,b⟩ | ⟨a,c,hc,BL⟩
  ·exact .inl ⟨a,b⟩
  ·exact .inr ⟨a,c,hc,cellK c _ BL⟩
 ·obtain⟨v,hv⟩:=I.cell x c hc
  exact⟨v,cellK c v hv⟩
 ·obtain⟨a,b,c,d,e⟩:=I.pin p hp
  refine⟨m.keep _ _ a (fun hc=>(Cr _ hc).2.2.1 p hp rfl) fun hs=>?_,b,c,d,e⟩
  rcases mem_cons.mp (I.Br _ hs) with z | z
  ·exact c z
  ·exact d z
 ·refine(I.Aj b u e).BF (fun c v hc q=>m.keep c v q (fun z=>?_) fun z=>?_) (fun _ q=>q) fun _ _ q=>q
  ·have n:=(Cr c z).2.1
   rcases hc with rfl | hc
   ·rw[e]at n;cases n
   ·rw[hc]at n;cases n
  ·have n:=I.Cd c z
   rcases hc with rfl | hc
   ·rw[e]at n;cases n
   ·rw[hc]at n;cases n
noncomputable def dR (P:Program)(w:World):lD:=fun outer H s E ev s'=>∃ e cls dd ch H',ev = .ref e/\s'.os=s.os/\AllBare s'.gens/\Un (j2 outer) [] H H' s.heap s'.heap/\Bk P w H' s'.heap /\
 F1 s'.heap e cls dd ch/\(∀ b ∈ ch,s.heap.get? b=none/\H' b=none)/\E cls dd H'
noncomputable def XP (X:Cx)(pins:List (Addr × Obj))(σ:St)(E:XK)(ev:Value)(s':Shared):Prop:=∃ e cls dd ch H',ev = .ref e/\Inv X pins σ H' s'/\F1 s'.heap e cls dd ch /\
 (∀ b ∈ ch,X.s₀.heap.get? b=none/\H' b=none/\∀ p ∈ X.pn ++ pins,p.1 ≠ b)/\E cls dd H'
theorem Inv.EA (I:Inv X pins σ H s)(hex:X.ex=[]){b:Addr}(hb:s.heap.get? b=none):X.s₀.heap.get? b=none:=by
 cases q:X.s₀.heap.get? b with
 | none=>rfl
 | some o =>
  obtain⟨o',e⟩:=I.base.there b o q (by rw[hex];simp)
  rw[e]at hb;cases hb
theorem XP.KU {E:XK}{ev:Value}{s':Shared}(I:Inv X pins σ H s)(hex:X.ex=[])(x:dR X.prog X.w X.stack H s E ev s'):XP X pins σ E ev s':=by
 obtain⟨e,cls,dd,ch,H',rfl,os,bare,un,Aj,OP,new,q⟩:=x
 refine⟨e,cls,dd,ch,H',rfl,I.G5 (ch:=[]) os un Aj bare (fun b z=>absurd z (by simp)),OP,fun b hb=>⟨I.EA hex (new b hb).1,(new b hb).2,fun p hp z=>?_⟩,q⟩
 have:=(I.pin p hp).1
 rw[z,(new b hb).1]at this
 cases this
noncomputable def BM (X:Cx)(E:XK):Prop:=∀ (pins:List (Addr × Obj))(σ:St)(ev:Value)(s':Shared),XP X pins σ E ev s'->X.xe ev s'
theorem BM.passes {E:XK}(h:BM X E)(hex:X.ex=[]):cy (dR X.prog X.w) X E:=fun pins σ H s ev s' I x=>h pins σ ev s' (XP.KU I hex x)
theorem aO {P:Program}{w:World}{K:Frag}{mg:Str->Option Value}{base:Heap}{N:List Str}{qual:Str}{scope:Scope}{f:Addr}{cd:Value}{A:Around}{outer:List Env}{s:Shared}{H:Hp}{E:XK} :
  BM (iu (dR P w) P w K mg base N qual scope f cd A outer s H E) E:=by
 intro pins σ ev s' x
 obtain⟨e,cls,dd,ch,H',rfl,I,OP,Cr,q⟩:=x
 refine oJ (base:=base) (outer:=outer) I.ok.frames I.stack rfl OP fun h' Ig QY m new=>?_
 have I':=I.F2 m fun b hb=>⟨(Cr b hb).1,(Cr b hb).2.1,(Cr b hb).2.2,OP.rec b hb⟩
 refine⟨e,cls,dd,Ig,H',rfl,I'.os,I'.bare,I'.base,I'.Aj,QY,fun b hb=>?_,q⟩
 rcases new b hb with z | z
 ·exact⟨(Cr b z).1,(Cr b z).2.1⟩
 ·exact⟨Heap.get?_none_of_le (le_trans I.sz z),I.Aj.fresh z⟩
theorem pQ {P:Program}{w:World}{K:Frag}{mg:Str->Option Value}{base:Heap}{N:List Str}{qual:Str}{scope:Scope}{f:Addr}{cd:Value}{A:Around}{outer:List Env}{s:Shared}{H:Hp}{E:XK} :
  PassesOwn (model P w) (iu (dR P w) P w K mg base N qual scope f cd A outer s H E).A (iu (dR P w) P w K mg base N qual scope f cd A outer s H E).env (iu (dR P w) P w K mg base N qual scope f cd A outer s H E).xe :=
 PassesOwn.leaving (Q₁:=fun e E4=>dR P w outer H s E e E4)
end
end L2
namespace L2
open PySem PySem.Spec PyProof.Rows
noncomputable def dF:List Value:=[.type "ValueError", .type "Exception", .type "BaseException", .type "object"]
noncomputable def lw:List Value->Bool
 | []=>false
 | .ref _ :: r=>lw r
 | l=>l == dF
theorem jj (self:Value):∀ {l:List Value},lw l=true->refuseLoop self "__setattr__" l=pure ()
 | .ref c :: r,e=>by rw[refuseLoop_ref];exact jj self e
 | .type a :: r,e=>by
  have e':(Value.type a :: r)=dF:=beq_iff_eq.mp e
  rw[e'];exact PySem.F.store_ValueError.passes self
 | .none :: r,e=>by have:=beq_iff_eq.mp (show(_ == dF)=true from e);cases this
 | .bool _ :: r,e=>by have:=beq_iff_eq.mp (show(_ == dF)=true from e);cases this
 | .int _ _ :: r,e=>by have:=beq_iff_eq.mp (show(_ == dF)=true from e);cases this
 | .float _ _ :: r,e=>by have:=beq_iff_eq.mp (show(_ == dF)=true from e);cases this
 | .str _ _ :: r,e=>by have:=beq_iff_eq.mp (show(_ == dF)=true from e);cases this
 | .bytes _ _ :: r,e=>by have:=beq_iff_eq.mp (show(_ == dF)=true from e);cases this
 | .builtin _ :: r,e=>by have:=beq_iff_eq.mp (show(_ == dF)=true from e);cases this
theorem j4:∀ {l:List Value},lw l=true->l.contains (.type "object")=true/\l.contains (.type "BaseException")=true/\l.isEmpty=false
 | .ref c :: r,e=>by
  obtain⟨a,b,_⟩:=j4 (l:=r) e
  exact⟨by rw[contains_cons,a,Bool.or_true],by rw[contains_cons,b,Bool.or_true],rfl⟩
 | .type a :: r,e=>by
  have e':(Value.type a :: r)=dF:=beq_iff_eq.mp e
  rw[e'];exact⟨by decide,by decide,rfl⟩
 | .none :: r,e=>by have:=beq_iff_eq.mp (show(_ == dF)=true from e);cases this
 | .bool _ :: r,e=>by have:=beq_iff_eq.mp (show(_ == dF)=true from e);cases this
 | .int _ _ :: r,e=>by have:=beq_iff_eq.mp (show(_ == dF)=true from e);cases this
 | .float _ _ :: r,e=>by have:=beq_iff_eq.mp (show(_ == dF)=true from e);cases this
 | .str _ _ :: r,e=>by have:=beq_iff_eq.mp (show(_ == dF)=true from e);cases this
 | .bytes _ _ :: r,e=>by have:=beq_iff_eq.mp (show(_ == dF)=true from e);cases this
 | .builtin _ :: r,e=>by have:=beq_iff_eq.mp (show(_ == dF)=true from e);cases this
noncomputable def ir (K:Frag)(C:Addr):Bool:=(PySem.W.clsIn K C).any fun cd=>lw cd.mro
structure fV (K:Frag)(C:Addr):Prop where
 mro:ir K C=true
 hd:hasDictIn K C=true
 sa:findIn K (.ref C) "__setattr__" = some (some (.builtin "object.__setattr__"))
 ga:findIn K (.ref C) "__getattribute__" = some (some (.builtin "BaseException.__getattribute__"))
 gn:findIn K (.ref C) "__getattr__" = some none
section
variable {prog:Program}{w:World}{A:Around}{E:Value->Shared->Prop}{s:Shared}{K:Frag}{x C:Addr}{ox:Obj}{name:Str}{v:Value}
open PySem.W in
theorem pR {R:Result->Shared->Prop}{od:Option Obj}{tk:Tok}(X:K.In s.heap)(I:PySem.W.InstAt s.heap x ox C od)(hp:ir K C=true)(ht:findIn K (.ref C) name=some none)
  (h:∀ b,wpAny (model prog w) A.in1 (Builtin.ObjectAttr.storeInOwnDict (.ref x) (.ref C) (.str name tk) name v b)
   (fun fin s'=>match fin with | .done f=>R (.ok f) s' | .again c'=>c'.quiet=true/\codeAny (model prog w) A c' R s') (fun e s'=>R (.error e) s') s) :
  codeAny (model prog w) A (.call (.builtin "object.__setattr__") ⟨[.ref x, .str name tk,v],[]⟩) R s:=by
 have SF:=PySem.F.store_object
 obtain⟨cd,hc,ho⟩:=any_some hp
 obtain⟨h1,h2,ne⟩:=j4 ho
 have sub:Looks (model prog w) s.heap (isInstance (.ref x) (.type "object")) true:=I.type.andThen (looks_mroIn X (by unfold mroIn;rw[hc,Option.bind_some,if_neg (by rw[ne];decide),h1]))
 refine codeAny_call_builtin SF.slot.plain SF.entry (@check_slot (model prog w) _ _ s "object.__setattr__" "object" "__setattr__" (.ref x) [.str name tk,v] [] _ SF.kind SF.split sub (SF.args (.ref x) (.str name tk) v) ?_)
 have hm:Looks (model prog w) s.heap (mroOf (.ref C)) cd.mro:=(looks_clsIn X hc).andThen .now
 have L3:Looks (model prog w) s.heap (Builtin.ObjectAttr.storeTaker? none) none := .now
 rw[osa_eq,refuse_eq]
 refine wpAny_bind (wpAny_bind (I.type.here (wpAny_bind (hm.here ?_))))
 rw[jj _ ho]
 refine wpAny_pure (wpAny_bind (I.type.here (wpAny_bind ((looks_findIn X ht).here (wpAny_bind (L3.here ?_))))))
 exact h _
theorem lM {vs:Array Value}{Q:Unit->Shared->Prop}(X:K.In s.heap)(hx:s.heap.get? x=some ⟨.ref C,none, .fields vs,#[]⟩)(c:fV K C)(ht:findIn K (.ref C) name=some none)
  (h:∀ h' t',h'.get? x=some ⟨.ref C,some s.heap.objs.size, .fields vs,#[]⟩->h'.Ns1 s.heap.objs.size (fun y=>if y=name then some v else none) ->
   (∀ b o,b ≠ x->s.heap.get? b=some o->h'.get? b=some o)->Q () { s with heap:=h',toks:=t' }) :
  wpAny (model prog w) A (setAttr (.ref x) name v) Q E s:=by
 have I:PySem.W.InstAt s.heap x ⟨.ref C,none, .fields vs,#[]⟩ C none:=⟨hx,rfl,rfl,True.intro⟩
 refine PySem.W.set_plain X I c.sa (pR (s:={ s with toks:=s.toks + 1 }) X I c.mro ht fun b=>?_)
 obtain⟨cd,hc,HS⟩:=PySem.W.any_some c.hd
 obtain⟨hp,g,d,t,os⟩:=s
 dsimp only at X hx h I ⊢
 refine wpAny_bind (wpAny_pure (wpAny_bind (wpAny_bind (wpAny_loadPart hx (wpAny_bind (PySem.W.Looks.here (s:=⟨hp,g,d,t + 1,os⟩) (PySem.W.looks_clsIn X hc) ?_))))))
 rw[HS]
 have GG:(hp.push { cls := .type "dict",data := .dict #[] }).get? x=some ⟨.ref C,none, .fields vs,#[]⟩:=Heap.get?_push_of_some _ hx
 have Wg:x ≠ hp.objs.size:=ne_of_lt (lt_size hx)
 rw[if_neg (by decide)]
 dsimp only
 rw[if_neg (by simp[typeHasDict])]
 refine wpAny_bind (wpAny_alloc' ?_)
 refine wpAny_bind (wpAny_update' GG ?_)
 refine wpAny_pure ?_
 have hgd:((hp.push { cls := .type "dict",data := .dict #[] }).update x fun o=>{ cls:=o.cls,dict:=some hp.objs.size,data:=o.data,slots:=o.slots }).get? hp.objs.size
   = some { cls := .type "dict",data := .dict #[] } :=
  (Heap.get?_update_ne _ _ _ _ Wg.symm).trans (Heap.get?_push_at rfl rfl)
 have hnd:((hp.push { cls := .type "dict",data := .dict #[] }).update x fun o=>{ cls:=o.cls,dict:=some hp.objs.size,data:=o.data,slots:=o.slots }).Ns hp.objs.size (fun _=>none) :=
  ⟨_,#[],_,hgd,rfl,fun e he=>absurd he (by simp),fun _=>rfl⟩
 show wpAny _ _ (Builtin.ObjectAttr.storeInDict hp.objs.size (.str name t) name v) _ _ _
 unfold Builtin.ObjectAttr.storeInDict Builtin.ObjectAttr.newKeyGuard
 refine wpAny_bind (wpAny_pure (wpAny_bind (wpAny_nsSet1 (Heap.Ns1.of_empty hnd) fun h' CN hs=>?_)))
 obtain⟨oD,VQ,VR,Kv,Kw,Kx⟩:=CN.count (Within.cons name v Within.nil)
 refine wpAny_bind (wpAny_lookBehind Kv (by rw[Kw];exact pastItsLine_dict (le_trans Kx (by rw[length_cons,length_nil,sizeLine_eq];omega))) ?_)
 refine wpAny_pure (h h' _ ?_ CN fun b o hbx hb=>?_)
 ·exact(hs.2 x Wg).trans (Heap.get?_update_self _ GG rfl)
 ·exact(hs.2 b (ne_of_lt (lt_size hb))).trans ((Heap.get?_update_ne _ _ _ _ hbx).trans (Heap.get?_push_of_some _ hb))
open PySem.W in
end
end L2
namespace PySem
section
variable {prog:Program}{w:World}{A:Around}{E:Value->Shared->Prop}{h:Heap}{g:Array GenState}{d:Drawn}{t:Nat}{os:OsState}
variable {nm q:Str}{C N:Addr}{bs bm OQ:List Value}{B6:Bool}{sn:List Str}{sub:List Value}{ab:Bool}{col:Option Bool}{dd:Option Addr}{k0 k1 k2 k3 k5:Option Value}{B newId EB:String}
theorem fX (F:ExcBaseFacts B newId EB OQ)(T:OwnTail h OQ bm){mN:Str->Option Value}{rest:List Value}{fI:Addr}{oI:Obj}{Q:Fin->Shared->Prop}
  (hC:h.get? C=some (excClassObj nm q C N bs bm B6 sn sub ab col dd k0 k1 k2 k3 k5 newId)) (hn:h.Ns N mN) (hi:mN "__init__" = some (.ref fI))
  (QZ:h.get? fI=some oI) (Ra:oI.cls = .type "function")
  (hq:wpAny (model prog w) A (call (.ref fI) (.ref (h.objs.size + 1) :: rest)) (fun r s'=>r = .none/\Q (.done (.ret (.ref (h.objs.size + 1)))) s') E
   ⟨(h.push { cls := .type "tuple",data := .seq rest.toArray }).push { cls := .ref C,data := .fields #[.ref h.objs.size, .none, .none, .none, .bool false, .none] },g,d,t,os⟩) (hrest:rest.length <= sizeLine:=by size_fits) :
  wpAny (model prog w) A (Builtin.«type.__call__» ⟨.ref C :: rest,[]⟩) Q E ⟨h,g,d,t,os⟩:=by
 repeat (first | with_reducible refine wpAny_loadPart_at hC ?_ | with_reducible refine wpAny_madeBy_exc hC ?_ | wp_step)
 refine codeAny_call_builtin_code (Code.quiet_builtin _ F.quiet) (wpAny_check_new_subT F T hC ?_)
 refine codeAny_exc_new_subT F T hC ?_ hrest
 show wpAny _ _ _ _ _ _
 have GH:=Heap.get?_push_of_some { cls := .ref C,data := .fields #[.ref h.objs.size, .none, .none, .none, .bool false, .none] }
  (Heap.get?_push_of_some { cls := .type "tuple",data := .seq rest.toArray } hC)
 have Ih:=Heap.get?_push_of_some { cls := .ref C,data := .fields #[.ref h.objs.size, .none, .none, .none, .bool false, .none] }
  (Heap.get?_push_of_some { cls := .type "tuple",data := .seq rest.toArray } QZ)
 have KW:((h.push { cls := .type "tuple",data := .seq rest.toArray }).push { cls := .ref C,data := .fields #[.ref h.objs.size, .none, .none, .none, .bool false, .none] }).Ns N mN :=
  let ⟨o,es,ep,e,r⟩:=hn; ⟨o,es,ep,Heap.get?_push_of_some _ (Heap.get?_push_of_some _ e),r⟩
 have Ii:((h.push { cls := .type "tuple",data := .seq rest.toArray }).push
   { cls := .ref C,data := .fields #[.ref h.objs.size, .none, .none, .none, .bool false, .none] }).get? (h.objs.size + 1)=some
   { cls := .ref C,data := .fields #[.ref h.objs.size, .none, .none, .none, .bool false, .none] }:=by heap_get
 have hcC:(Value.ref C :: bm).contains (.ref C)=true:=by simp
 have T₁:=T.keeps (h':=(h.push { cls := .type "tuple",data := .seq rest.toArray }).push { cls := .ref C,data := .fields #[.ref h.objs.size, .none, .none, .none, .bool false, .none] })
  fun b o e=>Heap.get?_push_of_some _ (Heap.get?_push_of_some _ e)
 unfold isInstance
 repeat (first | with_reducible refine wpAny_loadPart_at Ii ?_ | (with_reducible refine wpAny_isSubtype_exc GH ?_;rw[hcC]) | wp_step)
 show wpAny _ _ (typeLookup (.ref C) _) _ _ _
 refine wpAny_typeLookup_tail GH KW T₁ F.mroIs F.init.lookup ?_
 rw[hi]
 refine wpAny_holding (wpAny_bind ?_)
 unfold bindSpecial
 refine wpAny_bind (wpAny_typeOf (T := "function") ⟨_,Ih,Ra⟩ ?_)
 rw[if_pos (by decide)]
 refine wpAny_pure (wpAny_bind (wpAny_mono hq (fun r s' hr=>?_) fun _ _ x=>x))
 obtain⟨rfl,hQ⟩:=hr
 wp_walk
 exact hQ
theorem kG (F:ExcBaseFacts B newId EB OQ)(T:OwnTail h OQ bm){mN:Str->Option Value}{rest:List Value}{fI:Addr}{oI:Obj}{Q:Value->Shared->Prop}
  (hC:h.get? C=some (excClassObj nm q C N bs bm B6 sn sub ab col dd k0 k1 k2 k3 k5 newId)) (hn:h.Ns N mN) (hi:mN "__init__" = some (.ref fI))
  (QZ:h.get? fI=some oI) (Ra:oI.cls = .type "function")
  (hq:wpAny (model prog w) (A.under (.builtin "type.__call__" ⟨.ref C :: rest,[]⟩)) (call (.ref fI) (.ref (h.objs.size + 1) :: rest)) (fun r s'=>r = .none/\Q (.ref (h.objs.size + 1)) s') E
   ⟨(h.push { cls := .type "tuple",data := .seq rest.toArray }).push { cls := .ref C,data := .fields #[.ref h.objs.size, .none, .none, .none, .bool false, .none] },g,d,t,os⟩) (hrest:rest.length <= sizeLine:=by size_fits) :
  wpAny (model prog w) A (call (.ref C) rest) Q E ⟨h,g,d,t,os⟩:=by
 have f1:=tc_lookup
 have f2:=tc_bind (.ref C)
 have hT:(⟨h,g,d,t,os⟩:Shared).TypeIs (.ref C) "type":=⟨_,hC,rfl⟩
 refine wpAny_call (codeAny_of_tree ?_)
 show wpAny _ _ (callAny (.ref C) _) _ _ _
 repeat (any_goals (first | assumption | with_reducible refine wpAny_loadPart_at hC ?_ | wp_step))
 refine⟨rfl,?_⟩
 refine codeAny_call_builtin_at (Code.quiet_builtin _ (by decide +kernel)) entry_typeCall (wpAny_check_type_call_sub hC (fX (hrest:=hrest) F T hC hn hi QZ Ra ?_))
 exact hq
end
section
variable {M:Model}{A:Around}{E:Value->Shared->Prop}{env:Env}
variable {nm q:Str}{C N:Addr}{bs bm:List Value}{B6:Bool}{sn:List Str}{sub:List Value}{ab:Bool}{col:Option Bool}{dd:Option Addr}{k0 k1 k2 k3 k5:Option Value}{newId:String}
theorem fY {s:Shared}{x:Sem Value}{Q:Flow->Shared->Prop}(hh:A.handled=none)
  (h:wpAny M A x (fun v s₁=>∃ e t de nm q N bs bm B6 sn sub ab col dd k0 k1 k2 k3 k5 newId,v = .ref e/\bm.contains (.type "BaseException")=true/\s₁.heap.get? C=some (excClassObj nm q C N bs bm B6 sn sub ab col dd k0 k1 k2 k3 k5 newId) /\
   s₁.heap.get? e=some { cls := .ref C,dict:=de,data := .fields #[.ref t, .none, .none, .none, .bool false, .none] }/\E (.ref e) s₁) E s) :
  wpAny M A (raiseStmt env (some x) none) Q E s:=by
 unfold raiseStmt
 refine wpAny_bind (wpAny_mono h (fun v s₁ h₁=>?_) fun _ _ x=>x)
 obtain⟨e,t,de,nm,q,N,bs,bm,B6,sn,sub,ab,col,dd,k0,k1,k2,k3,k5,newId,rfl,Dc,hC,he,hE⟩:=h₁
 have hcB:(Value.ref C :: bm).contains (.type "BaseException")=true:=by rw[contains_cons,Dc,Bool.or_true]
 obtain⟨hp,g,d,tk,os⟩:=s₁
 repeat (first | with_reducible refine wpAny_loadPart_at he ?_ | with_reducible refine wpAny_loadPart_at hC ?_ | (with_reducible refine wpAny_isSubtype_exc hC ?_;rw[hcB]) | wp_step)
 exact wpAny_raiseNew_none hh hE
end
end PySem
namespace L2
open PySem PySem.Spec PyProof.Rows
noncomputable def b7 (K:Frag)(C:Addr)(init:Option Value):Bool:=match K.lookup C with
 | some ⟨.type "type",_, .cls cd,sl⟩=>(match cd.mro,sl.toList with
  | .ref C' :: bm,[_,_,_,_,some (.builtin n),_]=>C' == C && n == "ValueError.__new__" && !cd.hasDel && PySem.W.tailIn K dF bm && PySem.W.nsOkIn K cd.ns && nsIn K cd.ns "__init__" == some init
  | _,_=>false)
 | _=>false
theorem ij {K:Frag}{h:Heap}{N:Addr}{x:Str}{v:Value}(X:K.In h)(e:PySem.W.nsOkIn K N=true)(q:nsIn K N x=some (some v)):h.nsMap N x=some v:=by
 have G:h.Ns N (h.nsMap N) := .of_isNs (PySem.W.isNs_of_in X e)
 generalize h.nsMap N=m at G ⊢
 obtain⟨o,es,ep,ho,hd,_,hf⟩:=G
 unfold nsIn at q
 split at q
 ·rename_i c d O7 n' sl z
  have:=X _ _ z
  rw[ho]at this
  cases this
  cases hd
  split at q
  ·rename_i en he
   cases q
   rw[← hf]
   unfold nsFind findBy
   rw[← Array.find?_toList,he]
   rfl
  ·split at q<;>cases q
 ·cases q
theorem ly {K:Frag}{h:Heap}{C:Addr}{init:Option Value}(X:K.In h)(q:b7 K C init=true):∃ bm N nm qn bs B6 sn sub ab col dd k0 k1 k2 k3 k5 mN,
  h.get? C=some (excClassObj nm qn C N bs bm B6 sn sub ab col dd k0 k1 k2 k3 k5 "ValueError.__new__")/\h.Ns N mN/\mN "__init__" = init/\OwnTail h dF bm:=by
 unfold b7 at q
 split at q
 ·rename_i dd cd sl ho
  split at q
  ·rename_i C' bm k0 k1 k2 k3 n k5 hm hs
   simp only[Bool.and_eq_true,beq_iff_eq,Bool.not_eq_true']at q
   obtain⟨⟨⟨⟨⟨rfl,rfl⟩,KY⟩,ht⟩,Aj⟩,GI⟩:=q
   obtain⟨nm,bs,mro,ns,qn,hd,sn,sub,ab,col,uW⟩:=cd
   dsimp only at hm KY Aj GI
   subst hm KY
   have OR:sl = #[k0,k1,k2,k3,some (.builtin "ValueError.__new__"),k5]:=by
    obtain⟨l⟩:=sl
    simp only at hs
    rw[hs]
   subst OR
   refine⟨bm,ns,nm,qn,bs,hd,sn,sub,ab,col,dd,k0,k1,k2,k3,k5,_,X _ _ ho, .of_isNs (PySem.W.isNs_of_in X Aj),?_,PySem.W.tail_of_in X ht⟩
   cases init with
   | none=>exact PySem.W.nsMap_none_of_in X Aj GI
   | some v=>exact ij X Aj GI
  ·cases q
 ·cases q
theorem qz {h:Heap}{bm:List Value}(T:OwnTail h dF bm):bm.contains (.type "BaseException")=true:=T.hasType (by decide)
noncomputable def cS (C t:Addr)(dd:Option Addr):Obj:={ cls := .ref C,dict:=dd,data := .fields #[.ref t, .none, .none, .none, .bool false, .none] }
noncomputable abbrev TX:=St->Hp->(Option Addr->Hp->Prop)->Prop
noncomputable def PX (X:Cx)(e:Expr)(C:Addr)(t:TX):Prop :=
 ∀ (pins:List (Addr × Obj))(s:Shared)(σ:St)(H:Hp)(R:Option Addr->Hp->Prop),Inv X pins σ H s->t σ H R->wpAny (model X.prog X.w) X.A (eval e X.env)
  (fun u s'=>∃ ea dd tt H',u = .ref ea/\Inv X pins σ H' s'/\s'.heap.get? ea=some (cS C tt dd)/\X.s₀.heap.get? ea=none/\H' ea=none/\(∀ p ∈ X.pn ++ pins,p.1 ≠ ea)/\R dd H') X.xe s
theorem Bk.at {P:Program}{w:World}{H:Hp}{h:Heap}{a:Addr}{o:HO}(x:Bk P w H h)(e:H a=some o):∃ ob,h.get? a=some ob:=by
 have q:=x a o e
 have all:∀ o,Ay P w H h a o->∃ ob,h.get? a=some ob:=by
  intro o
  induction o with
  | lst xs=>intro ⟨_,Ag,n,_,e⟩;exact⟨_,e⟩
  | tup xs=>intro ⟨_,Ag,_,ob,e,_⟩;exact⟨_,e⟩
  | dK kvs=>intro ⟨_,_,vs,_,q⟩;obtain⟨o,es,ep,e,_⟩:=q;exact⟨_,e⟩
  | dT kvs=>intro ⟨_,_,xs,_,o,es,ep,e,_⟩;exact⟨_,e⟩
  | set S n=>intro q;obtain⟨o,_,_,_,e,_⟩:=q;exact⟨_,e⟩
  | ins C dx fs=>intro ⟨_,_,_,e,_⟩;exact⟨_,e⟩
  | own x=>intro ⟨o,e⟩;exact⟨_,e⟩
  | xd fs=>intro ⟨mA,⟨o,es,ep,e,_⟩,_⟩;exact⟨_,e⟩
  | O3 lo hi=>intro ⟨_,_,_,e⟩;exact⟨_,e⟩
  | BJ o u ih=>intro ⟨e,_⟩;exact⟨_,e⟩
  | BE ps=>intro e;exact⟨_,e⟩
  | met f x=>intro e;exact⟨_,e⟩
  | ext φ=>intro ⟨_,e,_⟩;exact e
 exact all o q
theorem Bk.none_of {P:Program}{w:World}{H:Hp}{h:Heap}{a:Addr}(x:Bk P w H h)(e:h.get? a=none):H a=none:=by
 cases q:H a with
 | none=>rfl
 | some o =>
  obtain⟨ob,z⟩:=x.at q
  rw[e]at z;cases z
noncomputable def uW (H:Hp)(a:Addr):Hp:=fun b=>if b=a then none else H b
theorem mU {H:Hp}{a:Addr}:uW H a a=none:=if_pos rfl
theorem dz {H:Hp}{a b:Addr}(h:b ≠ a):uW H a b=H b:=if_neg h
theorem Inv.drop {X:Cx}{pins:List (Addr × Obj)}{σ:St}{H:Hp}{s:Shared}{a:Addr} {φ:Heap->Prop} (I:Inv X pins σ H s) (e:H a=some (.ext φ)):Inv X pins σ (uW H a) s:=by
 have nx:∀ b u,H b=some u->(∀ φ,u ≠ .ext φ)->b ≠ a:=fun b u q n z=>by rw[z,e]at q;cases q;exact n φ rfl
 have nn:∀ b,H b=none->uW H a b=none:=fun b q=>by unfold uW;split<;>first | rfl | exact q
 refine⟨I.ok,I.os,I.bare,⟨I.base.keep,I.base.slot,fun b o h1 h2 h3=>nn b (I.base.free b o h1 h2 h3),I.base.there,fun b xs q=>?_,fun b o u q=>?_,fun b ps q=>?_⟩,I.loc,I.cell,nn _ I.free,fun x c h=>nn _ (I.AL x c h),fun p hp=>?_,fun b u q=>?_,I.len⟩
 ·have z:=I.base.Ci b xs q
  rw[dz (nx b _ z fun φ h=>by cases h)];exact z
 ·have z:=I.base.BR b o u q
  rw[dz (nx b _ z fun φ h=>by cases h)];exact z
 ·obtain⟨more,z⟩:=I.base.BS b ps q
  exact⟨more,by rw[dz (nx b _ z fun φ h=>by cases h)];exact z⟩
 ·obtain⟨h1,h2,h3⟩:=I.pin p hp
  exact⟨h1,nn _ h2,h3⟩
 ·have hb:b ≠ a:=fun z=>by rw[z,mU]at q;cases q
  rw[dz hb]at q
  refine(I.Aj b u q).BF (fun c v _ z=>z) (fun c z=>?_) fun c xs z=>?_
  ·rw[dz (nx c _ z fun φ h=>by cases h)];exact z
  ·rw[dz (nx c _ z fun φ h=>by cases h)];exact z
section
variable {X:Cx}{C f:Addr}{x:Str}{p pos apos:Pos}{e:Expr}{es:List Expr}{t:TA}
noncomputable def xS (t:TA):TX:=fun σ H R=>t σ H fun vs H1=>vs.length <= sizeLine/\R none H1
theorem bY (hq:b7 X.K C none=true)(kp:keepIn X.K (.ref C)=true)(hex:X.ex=[])(hg:Gl X x)(hm:X.mg x=some (.ref C))(ha:PA X (e :: es) t)
  (Dz:(x == ("__debug__":Str))=false:=by decide) (he:starEach (e :: es) X.env=(false,eval e X.env) :: starEach es X.env:=by rfl) (B4:(backTo pos (starEach es X.env)).any (·.1)=false:=by rfl) :
  PX X (.Call (.Name x p) (e :: es) [] pos) C (xS t):=by
 intro pins s σ H R I h
 refine wpAny_Call_Name_kw (fD I hg hm ?_ Dz)
 refine PySem.W.callWith_K (h₀:=X.base) I.ok.mod.CM kp (aR (ha pos pins s σ H _ I h) fun us s1 ⟨vs,H1,I1,r,hl,q⟩=>⟨I1.Bh,?_⟩) he B4
 obtain⟨bm,N,nm,qn,bs,B6,sn,sub,ab,col,dd,k0,k1,k2,k3,k5,mN,hC,hn,GI,T⟩:=ly I1.Bh hq
 obtain⟨hp,g,d,tk,os⟩:=s1
 refine wpAny_call_exc_subT (hrest:=by show us.length <= _;rw[← r.length];exact hl) PySem.F.excBase_ValueError T hC hn GI fun h' ea Di=>?_
 obtain⟨tt,ht,_,_⟩:=Di.there
 refine⟨ea,none,tt,H1,rfl,I1.kept (t':=tk) Di.keeps,ht,I1.EA hex Di.new,I1.Aj.none_of Di.new,fun p hp z=>?_,q⟩
 have:=(I1.pin p hp).1
 rw[z]at this
 have h2:=Di.new
 rw[this]at h2
 cases h2
noncomputable def bH (e C t:Addr)(dd:Option Addr):HO := .ext fun h=>h.get? e=some (cS C t dd)
theorem j5 {P:Program}{w:World}{H:Hp}{h:Heap}{e C t:Addr}{dd:Option Addr}(q:h.get? e=some (cS C t dd)):Ay P w H h e (bH e C t dd) :=
 ⟨q,⟨_,q⟩,fun h1 h2 a b=>b _ a⟩
noncomputable def xU (C:Addr)(sp:Sp)(t:TA):TX:=fun σ H R=>t σ H fun vs H1=>vs.length <= sizeLine/\∀ e tt,H1 e=none->sp (.ref e :: vs) (upd H1 e (bH e C tt none)) (fun v H2=>v = .Av/\∃ dd,H2 e=some (bH e C tt dd)/\R dd (uW H2 e)) E0
theorem iI {k:Nat}{fd:FuncData}{ps:List Str}{sp:Sp}(hq:b7 X.K C (some (.ref f))=true)(hf:isFn X.K (.ref f)=true)(kp:keepIn X.K (.ref C)=true)(F:Ac X.prog X.w X.K X.mg X.base aC k f fd ps sp)(hr:Al (k + 1) X.A)(hb:Binds X.K fd ps [])
  (hg:Gl X x) (hm:X.mg x=some (.ref C)) (ha:PA X (e :: es) t)
  (Dz:(x == ("__debug__":Str))=false:=by decide) (he:starEach (e :: es) X.env=(false,eval e X.env) :: starEach es X.env:=by rfl) (B4:(backTo pos (starEach es X.env)).any (·.1)=false:=by rfl) :
  PX X (.Call (.Name x p) (e :: es) [] pos) C (xU C sp t):=by
 intro pins s σ H R I h
 refine wpAny_Call_Name_kw (fD I hg hm ?_ Dz)
 refine PySem.W.callWith_K (h₀:=X.base) I.ok.mod.CM kp (aR (ha pos pins s σ H _ I h) fun us s1 ⟨vs,H1,I1,r,hl,q⟩=>⟨I1.Bh,?_⟩) he B4
 obtain⟨bm,N,nm,qn,bs,B6,sn,sub,ab,col,dd,k0,k1,k2,k3,k5,mN,hC,hn,GI,T⟩:=ly I1.Bh hq
 obtain⟨oI,Wh,hcI⟩:∃ oI,s1.heap.get? f=some oI/\oI.cls = .type "function":=by
  have z:=beq_iff_eq.mp hf
  obtain⟨o,ho,z⟩:=Option.map_eq_some_iff.mp (show(X.K.lookup f).map (·.cls)=some (.type "function") from z)
  exact⟨o,I1.Bh _ _ ho,z⟩
 obtain⟨hp,g,d,tk,os⟩:=s1
 dsimp only at hC hn T Wh
 refine kG (hrest:=by show us.length <= _;rw[← r.length];exact hl) PySem.F.excBase_ValueError T hC hn GI Wh hcI ?_
 have nE:hp.objs.size <= hp.objs.size + 1:=le_succ _
 have Wi:=q (hp.objs.size + 1) hp.objs.size (I1.Aj.fresh nE)
 have Ii:((hp.push { cls := .type "tuple",data := .seq us.toArray }).push (cS C hp.objs.size none)).get? (hp.objs.size + 1)=some (cS C hp.objs.size none):=by
  have:=Heap.get?_push_size (hp.push { cls := .type "tuple",data := .seq us.toArray }) (o:=cS C hp.objs.size none) rfl
  rwa [size_push]at this
 have I2:Inv X pins σ (upd H1 (hp.objs.size + 1) (bH (hp.objs.size + 1) C hp.objs.size none)) ⟨(hp.push { cls := .type "tuple",data := .seq us.toArray }).push (cS C hp.objs.size none),g,d,tk,os⟩ :=
  I1.laid (t':=tk) (fun b u z=>Heap.get?_push_of_some _ (Heap.get?_push_of_some _ z)) nE (j5 Ii)
 have r2:Vals (V.ref (hp.objs.size + 1) :: vs) (Value.ref (hp.objs.size + 1) :: us) := .cons rfl r
 have Fb:(Value.ref (hp.objs.size + 1) :: us ++ []).length=ps.length:=by
  have e:=r2.length
  rw[F.len _ _ _ _ Wi]at e
  rw[append_nil];exact e.symm
 have GJ:=hb ⟨(hp.push { cls := .type "tuple",data := .seq us.toArray }).push (cS C hp.objs.size none),g,d,tk,os⟩ (Value.ref (hp.objs.size + 1) :: us) I2.Bh Fb
 rw[append_nil]at GJ
 refine wpAny_call (codeAny_mono (F.run _ X.stack _ _ ⟨Value.ref (hp.objs.size + 1) :: us,[]⟩ (Value.ref (hp.objs.size + 1) :: us) _ _ E0 (hr.make C us []) (I2.HV.make C us []) GJ r2 Wi) fun rr s' BU=>?_)
 cases rr with
 | error e=>exact BU.elim
 | ok fl =>
  cases fl with
  | ret u =>
   obtain⟨v,H',I3,rv,ev,de,Dv,q3⟩:=I2.after BU
   subst ev
   refine⟨rv,hp.objs.size + 1,de,hp.objs.size,uW H' (hp.objs.size + 1),rfl,I3.drop Dv,(I3.Aj _ _ Dv).1,Heap.get?_none_of_le (le_trans I1.sz nE),mU,fun p DI z=>?_,q3⟩
   have:=lt_size (I1.pin p DI).1
   rw[z]at this
   exact absurd this (Nat.not_lt.mpr nE)
  | next=>exact False.elim BU
  | brk=>exact False.elim BU
  | cont=>exact False.elim BU
noncomputable def xX (C:Addr)(E:XK)(t:TX):TS:=fun _ σ H=>t σ H fun dd H1=>E (.ref C) dd H1
theorem b9 {E:XK}{tx:TX}{init:Option Value}(hc:X.calm=true)(hq:b7 X.K C init=true)(hx:BM X E)(h:PX X e C tx):PS X (.Raise (some e) none pos) (xX C E tx):=by
 intro pins s σ H D I hw
 rw[arm_exec_Raise]
 have key:wpAny (model X.prog X.w) X.A (eval e X.env) (fun v s₁=>∃ ea t de nm q N bs bm B6 sn sub ab col dd k0 k1 k2 k3 k5 newId,v = .ref ea/\bm.contains (.type "BaseException")=true/\s₁.heap.get? C=some (excClassObj nm q C N bs bm B6 sn sub ab col dd k0 k1 k2 k3 k5 newId) /\
   s₁.heap.get? ea=some { cls := .ref C,dict:=de,data := .fields #[.ref t, .none, .none, .none, .bool false, .none] }/\X.xe (.ref ea) s₁) X.xe s:=by
  refine aR (h pins s σ H _ I hw) fun u s1 Af=>?_
  obtain⟨ea,dd,tt,H',eu,I1,ho,hn,hh,hp,q⟩:=Af
  obtain⟨bm,N,nm,qn,bs,B6,sn,sub,ab,col,ddc,k0,k1,k2,k3,k5,mN,hC,Jx,GI,T⟩:=ly I1.Bh hq
  refine⟨ea,tt,dd,nm,qn,N,bs,bm,B6,sn,sub,ab,col,ddc,k0,k1,k2,k3,k5,_,eu,qz T,hC,ho,hx pins σ _ _ ⟨ea, .ref C,dd,[ea],H',rfl,I1,⟨_,_,ho,rfl,rfl,rfl, .inl ⟨rfl,rfl⟩⟩,fun b hb=>?_,q⟩⟩
  simp only[mem_singleton]at hb
  subst hb
  exact⟨hn,hh,hp⟩
 first
  | refine wpAny_bind (wpAny_standAt (fY (C:=C) (I.ok.hd hc) (wpAny_bind (wpAny_mono key (fun v s₃ h₃=>wpAny_bind (wpAny_standAt (wpAny_pure h₃))) fun _ _ x=>x))))
  | (simp only[evalOpt,Option.map];refine wpAny_bind (wpAny_standAt (fY (C:=C) (I.ok.hd hc) (wpAny_bind (wpAny_mono key (fun v s₃ h₃=>wpAny_bind (wpAny_standAt (wpAny_pure h₃))) fun _ _ x=>x)))))
end
end L2
namespace L2
open PySem PySem.Spec PyProof.Rows
section
variable {prog:Program}{w:World}{A:Around}{E:Value->Shared->Prop}{s:Shared}{K:Frag}{x C:Addr}{ox:Obj}{od:Option Obj}{name:Str}{v:Value}
open PySem.W in
open PySem.W in
end
section
variable {X:Cx}{pins:List (Addr × Obj)}{σ:St}{H:Hp}{s:Shared}{ea:Addr}{oe:Obj}
end
end L2
namespace L2
open PySem PySem.Spec PyProof.Rows
noncomputable def KZ (K:Frag)(ta tv:TE)(f:Str):TS:=fun D σ H=>tv σ H fun y H1=>ta σ H1 fun x H2=>∃ a C tt,x = .ref a/\H2 a=some (bH a C tt none)/\fV K C/\findIn K (.ref C) f=some none /\
 ∀ d,H2 d=none->D.nx σ (upd (upd H2 d (.xd [(f,y)])) a (bH a C tt (some d)))
section
variable {X:Cx}{o e value:Expr}{f:Str}{pos pos':Pos}{ta tv:TE}
theorem kW (ha:PE X o ta)(hv:PE X value tv)(hs:swapsWith value (some (.Attribute o f pos')) pos.line X.env=pure false):PS X (.Assign [.Attribute o f pos'] value pos) (KZ X.K ta tv f):=by
 intro pins s σ H D I h
 refine plainObj_wpAny_Assign_Attribute (aR (hv pins s σ H _ I h) fun u s1 ⟨y,H1,I1,ry,q⟩=>aR (ha pins s1 σ H1 _ I1 q) fun ov s2 Af=>?_) hs
 obtain⟨x,H2,I2,rx,a,C,tt,ex,ea,c,n,q2⟩:=Af
 subst ex
 obtain rfl:ov=Value.ref a:=rx
 have ho:s2.heap.get? a=some (cS C tt none):=(I2.Aj a _ ea).1
 have AX:a < s2.heap.objs.size:=lt_size ho
 refine lM I2.Bh ho c n fun h' t' C4 CN hk=>⟨σ,_,?_,q2 s2.heap.objs.size (I2.Aj.fresh (le_refl _))⟩
 obtain⟨od,es,ep,Ep,r⟩:=id CN
 have DY:od.isFreed=false:=(Heap.get?_some_iff.mp Ep).2
 have Dj:(s2.heap.push od).get? s2.heap.objs.size=some od:=Heap.get?_push_size s2.heap DY
 have I3:=I2.laid (a:=s2.heap.objs.size) (o := .xd [(f,y)]) (h':=s2.heap.push od) (t':=s2.toks) (fun b u z=>Heap.get?_push_of_some _ z) (le_refl _)
  ⟨_,CN.at (fun o z=>by rw[Ep]at z;cases z;exact Dj),fun g=>by
   by_cases hg:g=f
   ·have hb:(g == f)=true:=beq_iff_eq.mpr hg
    simp only[List.lookup,hb,if_pos hg]
    exact ry
   ·have hb:(g == f)=false:=beq_eq_false_iff_ne.mpr hg
    simp only[List.lookup,hb,if_neg hg]
    trivial⟩
 have Ct:a ≠ s2.heap.objs.size:=ne_of_lt AX
 refine I3.write (x:=a) (e:=a) (h':=h') (t':=t') (by rw[ae Ct,ea];exact True.intro) (.inl rfl) (fun b u hb z=>?_) ⟨_,C4⟩ (j5 C4)
 by_cases La:b=s2.heap.objs.size
 ·subst La
  have z':(s2.heap.push od).get? s2.heap.objs.size=some u:=z
  rw[Dj]at z'
  cases z'
  exact Ep
 ·have z':s2.heap.get? b=some u:=by
   have z0:(s2.heap.push od).get? b=some u:=z
   exact(Heap.get?_push_cases z0).elim (fun w=>absurd w.1 La) fun w=>w
  exact hk b u hb z'
end
section
variable {P:Program}{w:World}{K:Frag}{mg:Str->Option Value}{base:Heap}
theorem AA.Fe {x qual:Str}{st:Stmt}{f:Addr}{fd:FuncData}{N ps:List Str}{k:Nat}{sp:Sp}(F:AA K x qual st f fd)(S:ao N ps (ah st))(len:∀ vs H Q E,sp vs H Q E->vs.length=ps.length)
  (Be:∀ (cdv:Value)(A:Around)(outer:List Env)(s:Shared)(H:Hp)(vs:List V)(Q:VK)(E:XK),Al k (A.deeper (envOfC qual (ah st) s.heap.objs.size f cdv))->sp vs H Q E ->
   ∃ t,BK (iu (dR P w) P w K mg base N qual (ah st) f cdv A outer s H E) (aE st) t/\t { nx:=fun _ H'=>Q .Av H',rt:=Q } (start N vs) H):Ac P w K mg base (dR P w) (k + 1) f fd ps sp:=by
 obtain⟨oc,od,kV,doc,pm,an,cdv,ct,CO,rfl,lk,BG⟩:=F.ex
 exact qm lk BG S len fun A outer s H vs Q E hr CC=>Be cdv A outer s H vs Q E hr CC
end
theorem eO {P:Program}{w:World}{X:Cx}:cy (dR P w) X E0:=fun _ _ _ _ _ _ _ Af=>by obtain⟨_,_,_,_,_,_,_,_,_,_,_,_,h⟩:=Af;exact h.elim
section
variable {X:Cx}{k:Nat}{f C:Addr}{fd:FuncData}{ps:List Str}{sp:Sp}{AE:List V}{ds:List Value}{x m:Str}{p pos apos:Pos}{e o:Expr}{es:List Expr}{ta:TE}{t:TA}
end
section
variable {X:Cx}{e:Expr}{t:St->Hp->VK->XK->Prop}{pos DV:Pos}{n:Str}{i:Nat}
end
section
variable {M:Model}{A:Around}{E:Value->Shared->Prop}{s:Shared}
end
end L2
namespace PySem
open Sem (wp)
open AutoSeq1 (wpAny_loadPart')
theorem dS (l:Addr)(items:Array Value)(n:Nat)(Rb:Option Addr)(sl:Array (Option Value)) :
  Meets (Builtin.«enumerate.__new__» ⟨[.type "enumerate", .ref l],[]⟩) (fun _ R s=>s.heap.get? l=some { cls := .type "tuple",dict:=Rb,data := .seq items n,slots:=sl } /\
   R (.ok (.ret (.ref (s.heap.push { cls := .type "tuple_iterator",data := .fields #[.ref l, .int 0 0] }).objs.size)))
    { s with heap:=(s.heap.push { cls := .type "tuple_iterator",data := .fields #[.ref l, .int 0 0] }).push { cls := .type "enumerate",data := .fields #[.none, .bool false, .ref s.heap.objs.size,rawInt 0, .none, .none] } }) :=
 .of_wp fun prog w A R s h=>by
  obtain⟨hp,g,d,tk,os⟩:=s;obtain⟨hl,h⟩:=h
  have Lb:=sub_enumerate
  have hL:Heap.IsTuple (Shared.heap ⟨hp,g,d,tk,os⟩) l items:=⟨_,hl,rfl,n,rfl⟩
  wp_walk using wpAny_loadPart' hl
  refine wpAny_stack_any fun st=>wpAny_pure ?_
  split
  ·rename_i c _ _ _ _ _
   cases (c == Value.type "enumerate")
   ·wp_walk using wpAny_loadPart' hl,wpAny_pyIter_tuple hL
    exact⟨_,rfl,h⟩
   ·wp_walk using wpAny_loadPart' hl,wpAny_pyIter_tuple hL
    exact⟨_,rfl,h⟩
  ·wp_walk using wpAny_loadPart' hl,wpAny_pyIter_tuple hL
   exact⟨_,rfl,h⟩
section
variable {prog:Program}{w:World}{A:Around}{E:Value->Shared->Prop}{s:Shared}
theorem dU {l:Addr}{items:Array Value}{Q:Value->Shared->Prop}(hL:s.heap.IsTuple l items)
  (h:∀ h',IsEnum h' (s.heap.objs.size + 1) s.heap.objs.size 0 .none->h'.IsTupleIter s.heap.objs.size l 0->h'.objs.size=s.heap.objs.size + 2 ->
   (∀ b o,s.heap.get? b=some o->h'.get? b=some o)->Q (.ref (s.heap.objs.size + 1)) { s with heap:=h' }) :
  wpAny (model prog w) A (call (.type "enumerate") [.ref l]) Q E s:=by
 obtain⟨⟨c,Rb,dt,sl⟩,hl,hc,n,hd⟩:=hL
 replace hc:c = .type "tuple":=hc
 replace hd:dt = .seq items n:=hd
 subst hc hd
 refine callType_new F.called_enumerate (by decide) (F.typeCall_enumerate_1 _) (F.newCall_enumerate_1 _) (fun obj=>F.args_object_init_2 obj _) F.entry_enumerate_new
  (dS l items n Rb sl) ⟨hl,?_⟩
 have hz:(s.heap.push { cls := .type "tuple_iterator",data := .fields #[.ref l, .int 0 0] }).objs.size=s.heap.objs.size + 1:=size_push ..
 show _/\_
 rw[hz]
 have he:IsEnum ((s.heap.push { cls := .type "tuple_iterator",data := .fields #[.ref l, .int 0 0] }).push
   { cls := .type "enumerate",data := .fields #[.none, .bool false, .ref s.heap.objs.size,rawInt 0, .none, .none] }) (s.heap.objs.size + 1) s.heap.objs.size 0 .none:=by
  have:=Heap.get?_push_size (s.heap.push { cls := .type "tuple_iterator",data := .fields #[.ref l, .int 0 0] })
   (o:={ cls := .type "enumerate",data := .fields #[.none, .bool false, .ref s.heap.objs.size,rawInt 0, .none, .none] }) rfl
  rw[hz]at this;exact this
 refine⟨⟨_,he,rfl⟩,h _ he ⟨_,Heap.get?_push_of_some _ (Heap.get?_push_size _ rfl),rfl,rfl⟩ (by rw[size_push,hz]) fun b o x=>Heap.get?_push_of_some _ (Heap.get?_push_of_some _ x)⟩
theorem fG {it l:Addr}{i:Nat} {items} {x:Value} {Q:Value->Shared->Prop} (hit:s.heap.IsTupleIter it l i)
  (hl:s.heap.IsTuple l items) (hx:items[i]? = some x)
  (hQ:∀ h',h'.IsTupleIter it l (i + 1)->Heap.SameBut it s.heap h'->Q x { s with heap:=h' }) :
  wpAny (model prog w) A (Builtin.SmallTypes.nextOf (.ref it)) Q E s:=by
 obtain⟨o,ho,hc,hd⟩:=id hit
 obtain⟨ol,Ij,_,nl,DJ⟩:=hl
 unfold Builtin.SmallTypes.nextOf
 refine wpAny_bind (wpAny_callSpecial?_slot (name:=Str.ofString "__next__") hit.typeIs F.slot_tuple_iterator_next
  (wpAny_call_entry F.slot_tuple_iterator_next hit.typeIs F.entry_tuple_iterator_next ?_ (F.args_tuple_iterator_next_1 _)))
 show wpAny _ _ (field (.ref it) 0 >>= _) _ _ s
 refine wpAny_bind (wpAny_field ho hd (x := .ref l) rfl ?_)
 show wpAny _ _ (if (Value.ref l == Value.none)=true then _ else _) _ _ s
 rw[if_neg (show ¬ ((Value.ref l == Value.none)=true) from Bool.false_ne_true)]
 show wpAny _ _ (field (.ref it) 1 >>= _) _ _ s
 refine wpAny_bind (wpAny_field ho hd (x := .int i 0) rfl ?_)
 show wpAny _ _ (seqItems? (.ref l) >>= _) _ _ s
 refine wpAny_bind (wpAny_seqItems Ij DJ ?_)
 simp only[toNat_natCast,hx]
 refine wpAny_bind (wpAny_setField ho hd (by simp) (wpAny_pure ⟨x,rfl,wpAny_pure (hQ _ ?_ (Heap.SameBut.update ..))⟩))
 exact⟨_,Heap.get?_update_self _ ho (Obj.isFreed_of_fields (Obj.data_mapFields hd _)),(Obj.cls_mapFields ..).trans hc,by
  rw[Obj.data_mapFields hd];simp[rawInt]⟩
theorem fQ {it l:Addr}{i:Nat} {items} {Q:Value->Shared->Prop} (hh:A.handled=none)
  (hit:s.heap.IsTupleIter it l i) (hl:s.heap.IsTuple l items) (hx:items[i]? = none)
  (hE:∀ h' e,Heap.ExtBut it s.heap h'->(∃ o,h'.get? e=some o/\o.cls = .type "StopIteration")->E (.ref e) { s with heap:=h' }) :
  wpAny (model prog w) A (Builtin.SmallTypes.nextOf (.ref it)) Q E s:=by
 obtain⟨o,ho,hc,hd⟩:=id hit
 obtain⟨ol,Ij,_,nl,DJ⟩:=hl
 unfold Builtin.SmallTypes.nextOf
 refine wpAny_bind (wpAny_callSpecial?_slot (name:=Str.ofString "__next__") hit.typeIs F.slot_tuple_iterator_next
  (wpAny_call_entry F.slot_tuple_iterator_next hit.typeIs F.entry_tuple_iterator_next ?_ (F.args_tuple_iterator_next_1 _)))
 show wpAny _ _ (field (.ref it) 0 >>= _) _ _ s
 refine wpAny_bind (wpAny_field ho hd (x := .ref l) rfl ?_)
 show wpAny _ _ (if (Value.ref l == Value.none)=true then _ else _) _ _ s
 rw[if_neg (show ¬ ((Value.ref l == Value.none)=true) from Bool.false_ne_true)]
 show wpAny _ _ (field (.ref it) 1 >>= _) _ _ s
 refine wpAny_bind (wpAny_field ho hd (x := .int i 0) rfl ?_)
 show wpAny _ _ (seqItems? (.ref l) >>= _) _ _ s
 refine wpAny_bind (wpAny_seqItems Ij DJ ?_)
 simp only[toNat_natCast,hx]
 refine wpAny_bind (wpAny_rule (wpAny_bind (wpAny_setField ho hd (by simp) ?_)))
 show wpAny _ _ (newExc (.type "StopIteration") [] >>= _) _ _ _
 refine wpAny_bind ?_
 simp only[newExc,newTuple]
 refine wpAny_bind (wpAny_newObj_type ?_ (by size_fits))
 refine wpAny_bind (m:=firstArgMember _ _) (wpAny_of_eq (a:=Value.none) (by first | rfl | (simp only[firstArgMember];rfl)) ?_)
 refine wpAny_newObj_type ?_ (by size_fits)
 simp only[raiseNew]
 refine wpAny_bind (wpAny_handled ?_)
 first | rw[show A.in1.handled=none from hh] | rw[hh]
 refine wpAny_bind (wpAny_pure (wpAny_throw ?_))
 exact hE _ _ (((Heap.SameBut.update ..).extBut.push _).push _) ⟨_,Heap.get?_push_size _ rfl,rfl⟩
end
theorem fJ {prog:Program}{w:World}{A:Around}(hh:A.handled=none)(it l:Addr)(Ct:l ≠ it)(items:Array Value) :
  Draws prog w A it [it,l] items.size (fun i v=>items[i]? = some v) (fun i h=>h.IsTupleIter it l i/\h.IsTuple l items) where
 live:=fun _ _ st=>let ⟨o,ho,_⟩:=st.1; ⟨o,ho⟩
 frame:=fun _ _ _ st hk=>⟨st.1.at fun o e=>hk it (by simp) o e,let ⟨o,ho,r⟩:=st.2; ⟨o,hk l (by simp) o ho,r⟩⟩
 item:=fun i s Q E hi st hQ=>by
  refine fG st.1 st.2 (x:=items[i]) (by simp[hi]) fun h' Rc J0=>?_
  exact hQ _ h' s.toks (by simp[hi]) ⟨Rc,let ⟨o,ho,r⟩:=st.2; ⟨o,J0.extBut l o Ct ho,r⟩⟩ J0
 done:=fun s Q E st hE=>fQ hh st.1 st.2 (by simp) hE
end PySem
namespace L2
open PySem PySem.Spec PyProof.Rows
section
variable {X:Cx}{pins:List (Addr × Obj)}{σ:St}{H:Hp}{s:Shared}
theorem Inv.Ik {h':Heap}{t':Nat}{a b p:Addr}{xs:List V}{us:List Value}(I:Inv X pins σ H s)(fa:fH X pins H a)(fb:fH X pins H b)(hp:s.heap.objs.size <= p)
  (k:∀ c o,c ≠ a->c ≠ b->s.heap.get? c=some o->h'.get? c=some o) (ka:∃ o,h'.get? a=some o) (kb:∃ o,h'.get? b=some o) (hl:xs.length <= sizeLine) (r:Vals xs us) (ht:Bq h' p us.toArray) :
  Inv X pins σ (upd H p (.tup xs)) { s with heap:=h',toks:=t' }:=by
 have hf:H p=none:=I.Aj.fresh hp
 have nt:∀ c u,H c=some u->c ≠ p:=fun c u q z=>by rw[z,hf]at q;cases q
 have lt:∀ c o,s.heap.get? c=some o->c ≠ p:=fun c o q=>ne_of_lt (lt_of_lt_of_le (lt_size q) hp)
 have ne:∀ c,c ∉ [a,b]->c ≠ a/\c ≠ b:=fun c hc=>by simpa using hc
 refine I.call (g':=s.gens) (d':=s.drawn) (ch:=[a,b]) ⟨fun c o e n h1 h2=>k c o (ne c h2).1 (ne c h2).2 e,fun c o e n h1 h2=>⟨o.slots,k c o (ne c h2).1 (ne c h2).2 e⟩,fun c o e n h2=>by rw[ae (lt c o e)];exact n,
  fun c o e h2=>⟨o,k c o (ne c h2).1 (ne c h2).2 e⟩,fun c ys q=>by rw[ae (nt c _ q)];exact q,fun c o u q=>by rw[ae (nt c _ q)];exact q,fun c ps q=>⟨#[],by rw[ae (nt c _ q),q];simp⟩⟩ (fun c u q=>?_) I.bare fun c hc=>?_
 ·by_cases hc:c=p
  ·subst hc
   rw[ac]at q
   cases q
   exact⟨hl,us,r,ht⟩
  ·rw[ae hc]at q
   refine(I.Aj c u q).BF (fun d v hd z=>?_) (fun d z=>by rw[ae (nt d _ z)];exact z) fun d ys z=>by rw[ae (nt d _ z)];exact z
   have nd:∀ e,H e=none->d ≠ e:=fun e he w=>by
    rcases hd with rfl | hd
    ·rw[w,he]at q;cases q
    ·rw[w,he]at hd;cases hd
   exact k d v (nd a fa.1) (nd b fb.1) z
 ·have El:c=a∨c=b:=by simpa using hc
  rcases El with rfl | rfl
  ·obtain⟨_,f1,_,f3,f4,f5⟩:=fa;exact⟨f3,f1,f4,f5⟩
  ·obtain⟨_,f1,_,f3,f4,f5⟩:=fb;exact⟨f3,f1,f4,f5⟩
theorem Inv.DK {h':Heap}{t':Nat}{a b:Addr}(I:Inv X pins σ H s)(fa:fH X pins H a)(fb:fH X pins H b)
  (k:∀ c o,c ≠ a->c ≠ b->s.heap.get? c=some o->h'.get? c=some o):Inv X pins σ H { s with heap:=h',toks:=t' }:=by
 have ne:∀ c,c ∉ [a,b]->c ≠ a/\c ≠ b:=fun c hc=>by simpa using hc
 refine I.call (g':=s.gens) (d':=s.drawn) (ch:=[a,b]) ⟨fun c o e n h1 h2=>k c o (ne c h2).1 (ne c h2).2 e,fun c o e n h1 h2=>⟨o.slots,k c o (ne c h2).1 (ne c h2).2 e⟩,fun c o e n h2=>n,
  fun c o e h2=>⟨o,k c o (ne c h2).1 (ne c h2).2 e⟩,fun c ys q=>q,fun c o u q=>q,fun c ps q=>⟨#[],by rw[q];simp⟩⟩ (fun c u q=>?_) I.bare fun c hc=>?_
 ·refine(I.Aj c u q).BF (fun d v hd z=>?_) (fun d z=>z) fun d ys z=>z
  have nd:∀ e,H e=none->d ≠ e:=fun e he w=>by
   rcases hd with rfl | hd
   ·rw[w,he]at q;cases q
   ·rw[w,he]at hd;cases hd
  exact k d v (nd a fa.1) (nd b fb.1) z
 ·have El:c=a∨c=b:=by simpa using hc
  rcases El with rfl | rfl
  ·obtain⟨_,f1,_,f3,f4,f5⟩:=fa;exact⟨f3,f1,f4,f5⟩
  ·obtain⟨_,f1,_,f3,f4,f5⟩:=fb;exact⟨f3,f1,f4,f5⟩
theorem kq {e it:Addr}{fp:List Addr}{n i:Nat}{P:Nat->Value->Prop}{Sx:Nat->Heap->Prop}{old:Value}{xs:List V}{E:Value->Shared->Prop}{elts:List Expr}{kk:Nat}{pos:Pos}
  (D:Draws X.prog X.w X.A.in1 it fp n P Sx) (I:Inv X pins σ H s) (he:IsEnum s.heap e it i old) (CV:Sx i s.heap) (AX:i < n) (Ct:e ≠ it) (Wj:e ∉ fp) (fe:fH X pins H e) (fi:fH X pins H it)
  (hP:∀ v,P i v->∃ x,xs[i]? = some x/\RelV x v) :
  wpAny (model X.prog X.w) X.A (pyNext (.ref e)) (fun r s1=>∃ u,r=some u/\wpAny (model X.prog X.w) X.A (letOwnedTupleGo (.Tuple elts kk pos) (.ref e) u) (fun _ s2=>∃ p x,xs[i]? = some x/\H p=none/\u = .ref p /\
   Inv X pins σ (upd H p (.tup [.int i,x])) s2/\(∃ old,IsEnum s2.heap e it ((i + 1:Nat):Int) old)/\Sx (i + 1) s2.heap/\p ≠ e/\p ≠ it) E s1) E s:=by
 refine wpAny_pyNext_enum_itemD D he CV AX Ct Wj fun x h' tk hx ho J0 hT hsz hk=>⟨_,rfl,?_⟩
 refine wpAny_letOwnedTupleGo_enum ho fun h2 Ff EZ=>?_
 obtain⟨y,hy,ry⟩:=hP x hx
 have Wk:e < s.heap.objs.size:=lt_size he
 have hie:it < s.heap.objs.size:=by obtain⟨_,z⟩:=D.live _ _ CV;exact lt_size z
 have Lc:Sx (i + 1) h2:=D.frame _ _ _ J0 fun b hb o z=>(EZ.2 b fun q=>Wj (q ▸ hb)).trans z
 refine⟨s.heap.objs.size,y,hy,I.Aj.fresh (le_refl _),rfl,?_,⟨x,by simpa using Ff⟩,Lc,ne_of_gt Wk,ne_of_gt hie⟩
 refine Inv.Ik (s:=s) (h':=h2) (t':=tk + 1) I fe fi (le_refl _) (fun c o h1 h2' z=>(EZ.2 c h1).trans (hk c o h1 h2' z)) ⟨_,Ff⟩ (let ⟨o,z⟩:=D.live _ _ Lc; ⟨o,z⟩) (by show 2 <= sizeLine;decide) (us:=[.int i tk,x]) (.cons ⟨tk,rfl⟩ (.cons ry .nil)) ?_
 exact⟨_,(EZ.2 _ (ne_of_gt Wk)).trans hT,⟨rfl,_,rfl⟩,rfl⟩
end
noncomputable def zY (sq:Hp->List V->Prop):It :=
 ⟨fun i H=>∃ xs x,sq H xs/\xs[i]? = some x,fun i H v H'=>∃ p,H p=none/\v = .ref p/\∀ xs,sq H xs->∃ x,xs[i]? = some x/\H' = upd H p (.tup [.int i,x]),fun i H=>∃ xs,sq H xs/\xs.length=i⟩
theorem nG {P:Program}{w:World}{K:Frag}{elts:List Expr}{kk:Nat}{pos:Pos}(a e it:Addr)(Ct:e ≠ it):nu P w K (.Tuple elts kk pos) (zY fun H=>Ah K H a) [e,it] e (fun i h=>(∃ old,IsEnum h e it (i:Int) old)/\h.IsListIter it a i) where
 mem:=by simp
 obj:=fun i h st b hb=>by
  obtain⟨⟨old,he⟩,o,ho,c,d⟩:=st
  have BW:b=e∨b=it:=by simpa using hb
  rcases BW with rfl | rfl
  ·exact⟨_,he,fun v z=>by have z':Data.fields _=Data.cell v:=z;cases z'⟩
  ·exact⟨o,ho,fun v z=>by rw[d]at z;cases z⟩
 keep:=fun i h h' st k=>by
  obtain⟨⟨old,he⟩,hi⟩:=st
  exact⟨⟨old,k e (by simp) _ he⟩,hi.at fun o z=>k it (by simp) o z⟩
 item:=by
  intro X hP hw hK hc i pins s σ H E I hf st hg
  subst hP hw hK
  obtain⟨xs,x,hq,hx⟩:=hg
  obtain⟨Ag,rv,p,hz⟩:=I.list hq
  obtain⟨⟨old,he⟩,hi⟩:=st
  have hl:i < Ag.toArray.size:=by
   have:=(List.getElem?_eq_some_iff.mp hx).1
   have l2:=rv.length
   simp;omega
  have Rf:e ≠ a:=by
   rintro rfl
   obtain⟨o,ho,D7,_⟩:=p.isList
   rw[he]at ho;cases ho
   injection D7 with z;exact absurd z (by decide)
  have Il:a ≠ it:=by
   rintro rfl
   obtain⟨o,ho,D7,_⟩:=p.isList
   obtain⟨o2,BV,CY,_⟩:=hi
   rw[ho]at BV;cases BV;rw[D7]at CY
   injection CY with z;exact absurd z (by decide)
  refine aR (kq (xs:=xs) (Draws.list (A:=X.A.in1) (I.ok.hd hc) it a Il Ag.toArray) I he ⟨hi,p.isList⟩ hl Ct (by simp only[mem_cons,not_mem_nil,or_false,not_or];exact⟨Ct,Rf⟩) (hf e (by simp)) (hf it (by simp)) fun v hv=>?_) fun r s1 ⟨u,hr,h1⟩=>⟨u,hr,aR h1 fun _ s2 ⟨q,y,hy,Rg,hu,I2,Ff,EZ,n1,n2⟩=>?_⟩
  ·obtain⟨u,hu,ru⟩:=rv.get hx
   have e1:Ag[i]? = some v:=by simpa using hv
   rw[hu]at e1;cases e1
   exact⟨x,hx,ru⟩
  ·refine⟨.ref q,_,I2,hu,⟨q,Rg,rfl,fun zs F3=>⟨y,by rw[I.CU F3 hq];exact hy,rfl⟩⟩,⟨Ff,EZ.1⟩,fun b hb=>?_⟩
   have BW:b=e∨b=it:=by simpa using hb
   rcases BW with rfl | rfl
   ·rw[ae (Ne.symm n1)];exact(hf b (by simp)).1
   ·rw[ae (Ne.symm n2)];exact(hf b (by simp)).1
 done:=by
  intro X hP hw hK hc i pins s σ H E I hf st hg
  subst hP hw hK
  obtain⟨xs,hq,hx⟩:=hg
  obtain⟨Ag,rv,p,hz⟩:=I.list hq
  obtain⟨⟨old,he⟩,hi⟩:=st
  have hl:i=Ag.toArray.size:=by have l2:=rv.length;simp;omega
  have Il:a ≠ it:=by
   rintro rfl
   obtain⟨o,ho,D7,_⟩:=p.isList
   obtain⟨o2,BV,CY,_⟩:=hi
   rw[ho]at BV;cases BV;rw[D7]at CY
   injection CY with z;exact absurd z (by decide)
  refine wpAny_pyNext_enum_endD (Draws.list (A:=X.A.in1) (I.ok.hd hc) it a Il Ag.toArray) he (by rw[← hl];exact⟨hi,p.isList⟩) fun h' C4=>⟨rfl,?_⟩
  exact I.DK (t':=s.toks) (hf e (by simp)) (hf it (by simp)) fun c o h1 h2 z=>C4 c o h2 z
 self:=fun _ _ _ _ _ st h=>by
  obtain⟨⟨old,he⟩,_⟩:=st
  exact wpAny_pyIter_enum he h
theorem nB {P:Program}{w:World}{K:Frag}{elts:List Expr}{kk:Nat}{pos:Pos}(a e it:Addr)(Ct:e ≠ it):nu P w K (.Tuple elts kk pos) (zY fun H=>An K H a) [e,it] e (fun i h=>(∃ old,IsEnum h e it (i:Int) old)/\h.IsTupleIter it a i) where
 mem:=by simp
 obj:=fun i h st b hb=>by
  obtain⟨⟨old,he⟩,o,ho,c,d⟩:=st
  have BW:b=e∨b=it:=by simpa using hb
  rcases BW with rfl | rfl
  ·exact⟨_,he,fun v z=>by have z':Data.fields _=Data.cell v:=z;cases z'⟩
  ·exact⟨o,ho,fun v z=>by rw[d]at z;cases z⟩
 keep:=fun i h h' st k=>by
  obtain⟨⟨old,he⟩,hi⟩:=st
  exact⟨⟨old,k e (by simp) _ he⟩,hi.at fun o z=>k it (by simp) o z⟩
 item:=by
  intro X hP hw hK hc i pins s σ H E I hf st hg
  subst hP hw hK
  obtain⟨xs,x,hq,hx⟩:=hg
  obtain⟨Ag,rv,p,hz⟩:=I.tuple hq
  have pt:s.heap.IsTuple a Ag.toArray:=p
  obtain⟨⟨old,he⟩,hi⟩:=st
  have hl:i < Ag.toArray.size:=by
   have:=(List.getElem?_eq_some_iff.mp hx).1
   have l2:=rv.length
   simp;omega
  have Rf:e ≠ a:=by
   rintro rfl
   obtain⟨o,ho,D7,_⟩:=pt
   rw[he]at ho;cases ho
   injection D7 with z;exact absurd z (by decide)
  have Il:a ≠ it:=by
   rintro rfl
   obtain⟨o,ho,D7,_⟩:=pt
   obtain⟨o2,BV,CY,_⟩:=hi
   rw[ho]at BV;cases BV;rw[D7]at CY
   injection CY with z;exact absurd z (by decide)
  refine aR (kq (xs:=xs) (fJ (A:=X.A.in1) (I.ok.hd hc) it a Il Ag.toArray) I he ⟨hi,pt⟩ hl Ct (by simp only[mem_cons,not_mem_nil,or_false,not_or];exact⟨Ct,Rf⟩) (hf e (by simp)) (hf it (by simp)) fun v hv=>?_) fun r s1 ⟨u,hr,h1⟩=>⟨u,hr,aR h1 fun _ s2 ⟨q,y,hy,Rg,hu,I2,Ff,EZ,n1,n2⟩=>?_⟩
  ·obtain⟨u,hu,ru⟩:=rv.get hx
   have e1:Ag[i]? = some v:=by simpa using hv
   rw[hu]at e1;cases e1
   exact⟨x,hx,ru⟩
  ·refine⟨.ref q,_,I2,hu,⟨q,Rg,rfl,fun zs F3=>⟨y,by rw[I.C1 F3 hq];exact hy,rfl⟩⟩,⟨Ff,EZ.1⟩,fun b hb=>?_⟩
   have BW:b=e∨b=it:=by simpa using hb
   rcases BW with rfl | rfl
   ·rw[ae (Ne.symm n1)];exact(hf b (by simp)).1
   ·rw[ae (Ne.symm n2)];exact(hf b (by simp)).1
 done:=by
  intro X hP hw hK hc i pins s σ H E I hf st hg
  subst hP hw hK
  obtain⟨xs,hq,hx⟩:=hg
  obtain⟨Ag,rv,p,hz⟩:=I.tuple hq
  have pt:s.heap.IsTuple a Ag.toArray:=p
  obtain⟨⟨old,he⟩,hi⟩:=st
  have hl:i=Ag.toArray.size:=by have l2:=rv.length;simp;omega
  have Il:a ≠ it:=by
   rintro rfl
   obtain⟨o,ho,D7,_⟩:=pt
   obtain⟨o2,BV,CY,_⟩:=hi
   rw[ho]at BV;cases BV;rw[D7]at CY
   injection CY with z;exact absurd z (by decide)
  refine wpAny_pyNext_enum_endD (fJ (A:=X.A.in1) (I.ok.hd hc) it a Il Ag.toArray) he (by rw[← hl];exact⟨hi,pt⟩) fun h' C4=>⟨rfl,?_⟩
  exact I.DK (t':=s.toks) (hf e (by simp)) (hf it (by simp)) fun c o h1 h2 z=>C4 c o h2 z
 self:=fun _ _ _ _ _ st h=>by
  obtain⟨⟨old,he⟩,_⟩:=st
  exact wpAny_pyIter_enum he h
section
variable {X:Cx}{elts:List Expr}{kk:Nat}{DV p pos:Pos}{a:Expr}{ta:TE}
noncomputable def Rh (K:Frag)(t:TA):TI:=fun σ H R=>t σ H fun vs H1=>∃ a,vs=[.ref a]/\(∃ xs,Ah K H1 a xs)/\R (zY fun H=>Ah K H a) H1
noncomputable def Ri (K:Frag)(t:TA):TI:=fun σ H R=>t σ H fun vs H1=>∃ a,vs=[.ref a]/\(∃ xs,An K H1 a xs)/\R (zY fun H=>An K H a) H1
theorem lW {t:TA}(hg:Gl X "enumerate")(hm:X.mg "enumerate" = none)(ha:PA X [a] t)(hs:starEach [a] X.env=[(false,eval a X.env)]:=by rfl):PI X (.Tuple elts kk DV) (.Call (.Name "enumerate" p) [a] [] pos) (Rh X.K t):=by
 intro pins s σ H R I h
 refine Call_ (io I hg hm boot_enumerate (PyProof.Rows.callWith_type1 (aR (ha pos pins s σ H _ I h) fun us s1 Af=>?_) hs rfl))
 obtain⟨vs,H1,I1,r1,q1⟩:=Af
 obtain⟨l,e,⟨xs,hq⟩,q⟩:=q1
 subst e
 cases r1 with
 | cons r rr =>
  cases rr
  cases r
  obtain⟨Ag,rv,pp,hz⟩:=I1.list hq
  refine call_enumerate_list pp.isList fun h' he hit hsz hk=>?_
  have I2:Inv X pins σ H1 { s1 with heap:=h' }:=I1.kept (t':=s1.toks) hk
  refine wpAny_pyIter_enum (s:={ s1 with heap:=h' }) he ?_
  refine⟨_,_,_,_,H1,rfl,I2,nG l _ s1.heap.objs.size (Nat.succ_ne_self _),⟨⟨_,he⟩,hit⟩,fun b hb=>?_,q⟩
  have BW:b=s1.heap.objs.size + 1∨b=s1.heap.objs.size:=by simpa using hb
  have hle:s1.heap.objs.size <= b:=by
   rcases BW with e | e
   ·rw[e];exact le_succ _
   ·rw[e];exact le_refl _
  exact I1.DT hle (I1.Aj.fresh hle)
theorem lV {t:TA}(hg:Gl X "enumerate")(hm:X.mg "enumerate" = none)(ha:PA X [a] t)(hs:starEach [a] X.env=[(false,eval a X.env)]:=by rfl):PI X (.Tuple elts kk DV) (.Call (.Name "enumerate" p) [a] [] pos) (Ri X.K t):=by
 intro pins s σ H R I h
 refine Call_ (io I hg hm boot_enumerate (PyProof.Rows.callWith_type1 (aR (ha pos pins s σ H _ I h) fun us s1 Af=>?_) hs rfl))
 obtain⟨vs,H1,I1,r1,q1⟩:=Af
 obtain⟨l,e,⟨xs,hq⟩,q⟩:=q1
 subst e
 cases r1 with
 | cons r rr =>
  cases rr
  cases r
  obtain⟨Ag,rv,pp,hz⟩:=I1.tuple hq
  refine dU (show s1.heap.IsTuple l Ag.toArray from pp) fun h' he hit hsz hk=>?_
  have I2:Inv X pins σ H1 { s1 with heap:=h' }:=I1.kept (t':=s1.toks) hk
  refine wpAny_pyIter_enum (s:={ s1 with heap:=h' }) he ?_
  refine⟨_,_,_,_,H1,rfl,I2,nB l _ s1.heap.objs.size (Nat.succ_ne_self _),⟨⟨_,he⟩,hit⟩,fun b hb=>?_,q⟩
  have BW:b=s1.heap.objs.size + 1∨b=s1.heap.objs.size:=by simpa using hb
  have hle:s1.heap.objs.size <= b:=by
   rcases BW with e | e
   ·rw[e];exact le_succ _
   ·rw[e];exact le_refl _
  exact I1.DT hle (I1.Aj.fresh hle)
end
theorem mP {sq:Hp->List V->Prop}{xs:List V}{g:TG}{tb:TS}{D:jL}{σ:St}{H:Hp}(Pv:Nat->St->Hp->Prop)(h0:Pv 0 σ H)(hl:∀ i σ H,i <= xs.length->Pv i σ H->sq H xs)
  (hs:∀ i x p σ H,xs[i]? = some x->Pv i σ H->H p=none->g (.ref p) σ (upd H p (.tup [.int i,x])) fun σ2 H2=>tb { D with nx:=Pv (i + 1),ct:=Pv (i + 1),bk:=D.nx } σ2 H2) (hd:∀ σ H,Pv xs.length σ H->D.nx σ H) :
  ∃ W:Nat->Nat->St->Hp->Prop,(∃ m,W 0 m σ H)/\∀ i m σ H,W i m σ H ->
   ((zY sq).stop i H/\D.nx σ H)∨((zY sq).go i H/\∃ N:St->Hp->Prop,(∀ σ' H',N σ' H'->∃ m',m' < m/\W (i + 1) m' σ' H')/\∀ x H',(zY sq).EY i H x H'->g x σ H' fun σ2 H2=>tb { D with nx:=N,ct:=N,bk:=D.nx } σ2 H2):=by
 refine⟨fun i m σ H=>m=xs.length - i/\i <= xs.length/\Pv i σ H,⟨xs.length,by simp,zero_le _,h0⟩,?_⟩
 rintro i m σ H ⟨rfl,hi,p⟩
 have q:=hl i σ H hi p
 by_cases AX:i < xs.length
 ·refine .inr ⟨⟨xs,xs[i],q,by simp[AX]⟩,Pv (i + 1),fun σ' H' p'=>⟨xs.length - (i + 1),by omega,rfl,AX,p'⟩,fun x H' y=>?_⟩
  obtain⟨pp,hn,rfl,hx⟩:=y
  obtain⟨x',C4,e⟩:=hx xs q
  subst e
  exact hs i x' pp σ H C4 p hn
 ·have e:i=xs.length:=by omega
  subst e
  exact .inl ⟨⟨xs,q,rfl⟩,hd σ H p⟩
end L2
namespace L2
open PySem PySem.Spec PyProof.Rows
noncomputable def BX (d:PyData)(m:Nat):Prop:=d.canLay0=true/\d.depth <= m
theorem BX.shaped {d:PyData}{m:Nat}(h:BX d m)(hm:m <= 64):SeqAt.shaped d=true:=by
 unfold SeqAt.shaped
 rw[h.1,decide_eq_true (le_trans h.2 hm)];rfl
theorem bR (i:Int):BX (.int i) 0:=⟨by simp[PyData.canLay0],by simp[PyData.depth]⟩
theorem EC:BX .none 0:=⟨by simp[PyData.canLay0],by simp[PyData.depth]⟩
theorem kN {m:Nat}:∀ {ds:List PyData},(∀ d ∈ ds,BX d m)->PyData.canLayAll0 ds=true/\PyData.depthAll ds <= m
 | [],_=>⟨by simp[PyData.canLayAll0],by simp[PyData.depthAll]⟩
 | d :: r,h=>by
  obtain⟨a,b⟩:=kN (ds:=r) fun z hz=>h z (mem_cons_of_mem _ hz)
  obtain⟨c,e⟩:=h d mem_cons_self
  exact⟨by simp[PyData.canLayAll0,c,a],by simp only[PyData.depthAll];omega⟩
theorem bN {m:Nat}{ds:List PyData}(h:∀ d ∈ ds,BX d m):BX (.list ds) (m + 1):=by
 obtain⟨a,b⟩:=kN h
 exact⟨by simp[PyData.canLay0,a],by simp only[PyData.depth];omega⟩
theorem dG {m:Nat}{ds:List PyData}(h:∀ d ∈ ds,BX d m):BX (.tuple ds) (m + 1):=by
 obtain⟨a,b⟩:=kN h
 exact⟨by simp[PyData.canLay0,a],by simp only[PyData.depth];omega⟩
theorem Wl {K:Frag}{x y:V}{H:Hp}{Q:VK}{d:PyData}(h1:iS K H x d)(h2:iS K H y d)(s:BX d 64)(q:Q (.bl false) H):yE K x y H Q :=
 ⟨d,d,h1,h2,s.shaped (le_refl _),s.shaped (le_refl _),by rw[SeqAt.eqv_refl d s.1];exact q⟩
theorem eqS {K:Frag}{x y:V}{H:Hp}{Q:VK}{d:PyData}(h1:iS K H x d)(h2:iS K H y d)(s:BX d 64)(q:Q (.bl true) H):KP K x y H Q :=
 ⟨d,d,h1,h2,s.shaped (le_refl _),s.shaped (le_refl _),by rw[SeqAt.eqv_refl d s.1];exact q⟩
theorem BX.le {d:PyData}{m n:Nat}(h:BX d m)(l:m <= n):BX d n:=⟨h.1,le_trans h.2 l⟩
end L2
namespace L2
open PySem
theorem mX {n:Nat}{lo:Int}{g:TG}{tt:TT}{te:TE}{σ0:St}{H:Hp}{Q:VK}(p:Nat->Bool)(f:Nat->V)(hn:n < sizeLine)
  (hs:∀ (i:Nat)(acc:List V)(N:List V->Hp->Prop),i < n->N (if p i then acc ++ [f i] else acc) H->g (.int (lo + i)) σ0 H fun σ2 H2=>tt σ2 H2 fun b H3=>if b=true then te σ2 H3 fun y H4=>N (acc ++ [y]) H4 else N acc H3)
  (hq:∀ D,H D=none->Q (.ref D) (upd H D (.lst (((List.range n).filter p).map f)))) :
  dQ (vn lo n) g tt te σ0 Q H:=by
 refine⟨fun i m acc H'=>m=n - i/\i <= n/\H' = H/\acc=((List.range i).filter p).map f,⟨n,by simp,zero_le _,rfl,rfl⟩,?_⟩
 rintro i m acc H' ⟨rfl,hi,rfl,rfl⟩
 have hl:(((List.range i).filter p).map f).length < sizeLine:=by
  rw[length_map]
  have:=length_filter_le p (List.range i)
  rw[length_range]at this
  omega
 refine⟨hl,?_⟩
 by_cases AX:i < n
 ·refine .inr ⟨AX,fun Bf H2=>H2=H'/\Bf = ((List.range (i + 1)).filter p).map f,fun Bf H2 Af=>by obtain⟨h1,h2⟩:=Af;exact⟨n - (i + 1),by omega,rfl,AX,h1,h2⟩,fun x H2 y=>?_⟩
  obtain⟨e,y⟩:=y
  subst e y
  refine hs i _ (fun Bf H3=>H3=H2/\Bf = ((List.range (i + 1)).filter p).map f) AX ⟨rfl,?_⟩
  rw[range_succ,filter_append]
  cases hp:p i with
  | true=>simp[hp]
  | false=>simp[hp]
 ·have e:i=n:=by omega
  subst e
  exact .inl ⟨le_refl _,hq⟩
theorem fj {K:Frag}{a:Addr}{xs:List V}{g:TG}{tt:TT}{te:TE}{σ0:St}{H:Hp}{Q:VK}(p:V->Bool)(f:V->V)(hn:xs.length < sizeLine)(ha:Ah K H a xs)
  (hs:∀ (x:V)(acc:List V)(N:List V->Hp->Prop),x ∈ xs->N (if p x then acc ++ [f x] else acc) H->g x σ0 H fun σ2 H2=>tt σ2 H2 fun b H3=>if b=true then te σ2 H3 fun y H4=>N (acc ++ [y]) H4 else N acc H3)
  (hq:∀ D,H D=none->Q (.ref D) (upd H D (.lst ((xs.filter p).map f)))) :
  dQ (xq K a) g tt te σ0 Q H:=by
 refine⟨fun i m acc H'=>m=xs.length - i/\i <= xs.length/\H' = H/\acc=((xs.take i).filter p).map f,⟨xs.length,by simp,zero_le _,rfl,rfl⟩,?_⟩
 rintro i m acc H' ⟨rfl,hi,rfl,rfl⟩
 have hl:(((xs.take i).filter p).map f).length < sizeLine:=by
  rw[length_map]
  have h1:=length_filter_le p (xs.take i)
  have h2:=length_take_le i xs
  omega
 refine⟨hl,?_⟩
 by_cases AX:i < xs.length
 ·refine .inr ⟨⟨xs,xs[i],ha,by simp[AX]⟩,fun Bf H2=>H2=H'/\Bf = ((xs.take (i + 1)).filter p).map f,fun Bf H2 Af=>by obtain⟨h1,h2⟩:=Af;exact⟨xs.length - (i + 1),by omega,rfl,AX,h1,h2⟩,fun x H2 y=>?_⟩
  obtain⟨e,y⟩:=y
  subst e
  have hx:=y xs ha
  refine hs x _ (fun Bf H3=>H3=H2/\Bf = ((xs.take (i + 1)).filter p).map f) (mem_of_getElem? hx) ⟨rfl,?_⟩
  rw[take_succ,hx,filter_append]
  cases hp:p x with
  | true=>simp[hp]
  | false=>simp[hp]
 ·have e:i=xs.length:=by omega
  subst e
  rw[take_length]
  exact .inl ⟨⟨xs,ha,le_refl _⟩,hq⟩
theorem ls (k:Int):∀ ns:List Int,Jw (.int k) (ns.map V.int)=decide (k ∈ ns)
 | []=>by simp[Jw]
 | n :: r=>by
  have ih:=ls k r
  unfold Jw at ih ⊢
  rw[map_cons,any_cons,ih]
  show((n == k) || decide (k ∈ r))=decide (k ∈ n :: r)
  by_cases h:k=n
  ·subst h;simp
  ·have h':¬ n=k:=fun z=>h z.symm
   simp[h,h']
theorem iq:∀ ns:List Int,(ns.map V.int).all gS=true
 | []=>rfl
 | n :: r=>by rw[map_cons,all_cons,iq r];rfl
end L2
namespace L2
open PySem PySem.Spec PyProof.Rows
section
open PySem.W
variable {prog:Program}{w:World}{A:Around}{E:Value->Shared->Prop}{s:Shared}{K:Frag}{x C:Addr}{name:Str}{v:Value}
theorem sL {d:Addr}{vs:Array Value}{mA:Str->Option Value}{ns:List Str}{Q:Unit->Shared->Prop}(X:K.In s.heap)(hx:s.heap.get? x=some ⟨.ref C,some d, .fields vs,#[]⟩)(hn:s.heap.Ns1 d mA)(hw:PySem.Within mA ns)(hl:ns.length < sizeLine)(c:fV K C)(ht:findIn K (.ref C) name=some none)
  (h:∀ h' t',h'.Ns1 d (fun y=>if y=name then some v else mA y)->(∀ b,b ≠ d->h'.get? b=s.heap.get? b)->Q () { s with heap:=h',toks:=t' }) :
  wpAny (model prog w) A (setAttr (.ref x) name v) Q E s:=by
 obtain⟨od,es,ep,Ep,hr⟩:=id hn
 have I:PySem.W.InstAt s.heap x ⟨.ref C,some d, .fields vs,#[]⟩ C (some od):=⟨hx,rfl,rfl,Ep⟩
 refine PySem.W.set_plain X I c.sa (pR (s:={ s with toks:=s.toks + 1 }) X I c.mro ht fun b=>?_)
 obtain⟨cd,hc,HS⟩:=PySem.W.any_some c.hd
 obtain⟨hp,g,dr,t,os⟩:=s
 dsimp only at X hx h I hn Ep ⊢
 refine wpAny_bind (wpAny_pure (wpAny_bind (wpAny_bind (wpAny_loadPart hx (wpAny_bind (PySem.W.Looks.here (s:=⟨hp,g,dr,t + 1,os⟩) (PySem.W.looks_clsIn X hc) ?_))))))
 rw[HS]
 rw[if_neg (by decide)]
 dsimp only
 refine wpAny_pure ?_
 show wpAny _ _ (Builtin.ObjectAttr.storeInDict d (.str name t) name v) _ _ _
 unfold Builtin.ObjectAttr.storeInDict Builtin.ObjectAttr.newKeyGuard
 refine wpAny_bind (wpAny_pure (wpAny_bind (wpAny_nsSet1 hn fun h' CN hs=>?_)))
 obtain⟨oD,VQ,VR,Kv,Kw,Kx⟩:=CN.count (Within.cons name v hw)
 refine wpAny_bind (wpAny_lookBehind Kv (by rw[Kw];exact pastItsLine_dict (le_trans Kx (by rw[length_cons];omega))) ?_)
 exact wpAny_pure (h h' _ CN fun b hb=>hs.2 b hb)
end
noncomputable def Ld (d:Addr)(fs:List (Str × V)):Heap->Prop:=fun h=>∃ mA,h.Ns1 d mA/\∀ f,AY (fs.lookup f) (mA f)
theorem xL {P:Program}{w:World}{H:Hp}{h:Heap}{d:Addr}{fs:List (Str × V)}(x:Ld d fs h):Ay P w H h d (.ext (Ld d fs)):=by
 refine⟨x,?_,fun h1 h2 ⟨mA,⟨od,es,ep,e,c⟩,r⟩ k=>⟨mA,⟨od,es,ep,k _ e,c⟩,r⟩⟩
 obtain⟨mA,⟨od,es,ep,e,c⟩,r⟩:=x
 exact⟨od,e⟩
noncomputable def yA (K:Frag)(ta tv:TE)(f:Str):TS:=fun D σ H=>tv σ H fun y H1=>ta σ H1 fun x H2=>∃ a C tt,x = .ref a/\H2 a=some (bH a C tt none)/\fV K C/\findIn K (.ref C) f=some none /\
 ∀ d,H2 d=none->D.nx σ (upd (upd H2 d (.ext (Ld d [(f,y)]))) a (bH a C tt (some d)))
noncomputable def y9 (K:Frag)(ta tv:TE)(f:Str):TS:=fun D σ H=>tv σ H fun y H1=>ta σ H1 fun x H2=>∃ a C tt d fs,x = .ref a/\H2 a=some (bH a C tt (some d))/\H2 d=some (.ext (Ld d fs))/\fs.length < 1000/\fV K C/\findIn K (.ref C) f=some none /\
 D.nx σ (upd H2 d (.xd (aJ f y fs)))
section
variable {X:Cx}{o e value:Expr}{f:Str}{pos pos':Pos}{ta tv:TE}
theorem tO (ha:PE X o ta)(hv:PE X value tv)(hs:swapsWith value (some (.Attribute o f pos')) pos.line X.env=pure false):PS X (.Assign [.Attribute o f pos'] value pos) (yA X.K ta tv f):=by
 intro pins s σ H D I h
 refine plainObj_wpAny_Assign_Attribute (aR (hv pins s σ H _ I h) fun u s1 ⟨y,H1,I1,ry,q⟩=>aR (ha pins s1 σ H1 _ I1 q) fun ov s2 Af=>?_) hs
 obtain⟨x,H2,I2,rx,a,C,tt,ex,ea,c,n,q2⟩:=Af
 subst ex
 obtain rfl:ov=Value.ref a:=rx
 have ho:s2.heap.get? a=some (cS C tt none):=(I2.Aj a _ ea).1
 have AX:a < s2.heap.objs.size:=lt_size ho
 refine lM I2.Bh ho c n fun h' t' C4 CN hk=>⟨σ,_,?_,q2 s2.heap.objs.size (I2.Aj.fresh (le_refl _))⟩
 obtain⟨od,es,ep,Ep,r⟩:=id CN
 have DY:od.isFreed=false:=(Heap.get?_some_iff.mp Ep).2
 have Dj:(s2.heap.push od).get? s2.heap.objs.size=some od:=Heap.get?_push_size s2.heap DY
 have I3:=I2.laid (a:=s2.heap.objs.size) (o := .ext (Ld s2.heap.objs.size [(f,y)])) (h':=s2.heap.push od) (t':=s2.toks) (fun b u z=>Heap.get?_push_of_some _ z) (le_refl _)
  (xL ⟨_,CN.at (fun o z=>by rw[Ep]at z;cases z;exact Dj),fun g=>by
   by_cases hg:g=f
   ·have hb:(g == f)=true:=beq_iff_eq.mpr hg
    simp only[List.lookup,hb,if_pos hg]
    exact ry
   ·have hb:(g == f)=false:=beq_eq_false_iff_ne.mpr hg
    simp only[List.lookup,hb,if_neg hg]
    trivial⟩)
 have Ct:a ≠ s2.heap.objs.size:=ne_of_lt AX
 refine I3.write (x:=a) (e:=a) (h':=h') (t':=t') (by rw[ae Ct,ea];exact True.intro) (.inl rfl) (fun b u hb z=>?_) ⟨_,C4⟩ (j5 C4)
 by_cases La:b=s2.heap.objs.size
 ·subst La
  have z':(s2.heap.push od).get? s2.heap.objs.size=some u:=z
  rw[Dj]at z'
  cases z'
  exact Ep
 ·have z':s2.heap.get? b=some u:=by
   have z0:(s2.heap.push od).get? b=some u:=z
   exact(Heap.get?_push_cases z0).elim (fun w=>absurd w.1 La) fun w=>w
  exact hk b u hb z'
theorem tN (ha:PE X o ta)(hv:PE X value tv)(hs:swapsWith value (some (.Attribute o f pos')) pos.line X.env=pure false):PS X (.Assign [.Attribute o f pos'] value pos) (y9 X.K ta tv f):=by
 intro pins s σ H D I h
 refine plainObj_wpAny_Assign_Attribute (aR (hv pins s σ H _ I h) fun u s1 ⟨y,H1,I1,ry,q⟩=>aR (ha pins s1 σ H1 _ I1 q) fun ov s2 Af=>?_) hs
 obtain⟨x,H2,I2,rx,a,C,tt,d,fs,ex,ea,ed,Wm,c,n,q2⟩:=Af
 subst ex
 obtain rfl:ov=Value.ref a:=rx
 have ho:s2.heap.get? a=some (cS C tt (some d)):=(I2.Aj a _ ea).1
 obtain⟨⟨mA,hn,hr⟩,_⟩:=I2.Aj d _ ed
 have hw:PySem.Within mA (fs.map (·.1)):=fun g hg=>by
  have r:=hr g
  cases hl:fs.lookup g with
  | none=>rw[hl]at r;cases hm:mA g with
   | none=>exact absurd hm hg
   | some z=>rw[hm]at r;exact r.elim
  | some z =>
   have:∀ {l:List (Str × V)},l.lookup g=some z->g ∈ l.map (·.1):=by
    intro l
    induction l with
    | nil=>intro h;cases h
    | cons p l ih =>
     intro h
     rw[map_cons,mem_cons]
     by_cases e:g=p.1
     ·exact .inl e
     ·have hb:(g == p.1)=false:=beq_eq_false_iff_ne.mpr e
      obtain⟨p1,p2⟩:=p
      simp only[List.lookup,hb]at h
      exact .inr (ih h)
   exact this hl
 refine sL I2.Bh ho hn hw (by rw[length_map,sizeLine_eq];omega) c n fun h' t' CN hk=>⟨σ,_,?_,q2⟩
 refine I2.write (x:=d) (e:=d) (h':=h') (t':=t') (by rw[ed];exact True.intro) (.inl rfl) (fun b u hb z=>?_) ?_ ⟨_,CN,fun g=>?_⟩
 ·exact(hk b hb).trans z
 ·obtain⟨od,_,_,Ep,_⟩:=CN
  exact⟨od,Ep⟩
 ·rw[eV]
  by_cases e:g=f
  ·rw[if_pos e];simp only[if_pos e];exact ry
  ·rw[if_neg e];simp only[if_neg e];exact hr g
end
end L2
namespace L2
open PySem
noncomputable def qh:Option Int->Value->Bool
 | none,v=>v == .none
 | some k,v=>Value.isInt k v
noncomputable def vY:Option Int->Int
 | none=>4238894112
 | some k=>hashInt k
theorem bO {k:Option Int}{v:Value}(h:qh k v=true):(k=none/\v = .none)∨∃ i t,k=some i/\v = .int i t:=by
 cases k with
 | none=>exact .inl ⟨rfl,eq_of_beq h⟩
 | some i=>obtain⟨t,e⟩:=Value.isInt_shape h;exact .inr ⟨i,t,rfl,e⟩
section
variable {prog:Program}{w:World}{A:Around}{E:Value->Shared->Prop}{s:Shared}
theorem rp {Q:Int->Shared->Prop}(h:Q 4238894112 { s with toks:=s.toks + 1 }):wpAny (model prog w) A (pyHash .none) Q E s:=by
 have hT:s.TypeIs .none "NoneType":=rfl
 unfold pyHash
 have hv:[Value.none].any Value.onHeap=false:=rfl
 refine wpAny_bind ?_
 rw[cRoomFor,if_neg (by rw[hv];exact Bool.false_ne_true)];refine wpAny_pure ?_
 refine wpAny_bind (wpAny_specialOf hT F.slot_NoneType_hash.lookup ?_)
 show wpAny _ _ (if (some (Value.builtin "NoneType.__hash__") == some Value.none)=true then _ else _) Q E s
 rw[if_neg (by rw[beq_builtin_none];exact Bool.false_ne_true)]
 refine wpAny_bind (wpAny_specialOf hT F.slot_NoneType_hash.lookup ?_)
 show wpAny _ _ (callSpecialIfBoundUnlessNone? .none "__hash__" _ >>= _) Q E s
 refine wpAny_bind (wpAny_callSpecialIfBoundUnlessNone?_slot hT F.slot_NoneType_hash (wpAny_call_entry F.slot_NoneType_hash hT F.entry_NoneType_hash
  (show wpAny _ _ (do ret (← mkInt 4238894112)) _ _ s from wpAny_ret_mkInt ?_) (F.args_NoneType_hash_1 _)))
 exact wpAny_pure h
theorem zI {a b:Option Int}{u v:Value}{Q:Bool->Shared->Prop}(hu:qh a u=true)(hv:qh b v=true)(h:Q (decide (a=b)) s):wpAny (model prog w) A (PySem.eqBool u v) Q E s:=by
 rcases bO hu with ⟨rfl,rfl⟩ | ⟨i,t,rfl,rfl⟩<;>rcases bO hv with ⟨rfl,rfl⟩ | ⟨j,t',rfl,rfl⟩
 ·unfold eqBool
  refine wpAny_holding ?_
  refine wpAny_ite_split (fun _=>wpAny_bind (wpAny_rule (wpAny_pure (by simpa using h)))) (fun n=>absurd rfl n)
 ·exact PySem.SeqAt.EqAt.none_int j t' prog w E Q (by simpa using h)
 ·exact PySem.SeqAt.EqAt.int_none i t prog w E Q (by simpa using h)
 ·refine wpAny_eqBool_int ?_
  have e:(i == j)=decide (some i=some j):=by
   by_cases q:i=j
   ·simp[q]
   ·simp[q]
  rw[e];exact h
end
noncomputable def fz (prog:Program)(w:World):KeyKind prog w (Option Int) where
 is:=qh
 hash:=vY
 inj:=fun v a b ha hb=>by
  rcases bO ha with ⟨rfl,rfl⟩ | ⟨i,t,rfl,rfl⟩<;>rcases bO hb with ⟨rfl,e⟩ | ⟨j,t',rfl,e⟩
  ·rfl
  ·cases e
  ·cases e
  ·cases e;rfl
 byValue:=fun k v h=>by
  rcases bO h with ⟨_,rfl⟩ | ⟨i,t,_,rfl⟩<;>rfl
 pyHash:=fun {A E s k v Q} hv h=>by
  rcases bO hv with ⟨rfl,rfl⟩ | ⟨i,t,rfl,rfl⟩
  ·exact rp h
  ·exact wpAny_pyHash_int h
 eqBool:=fun hu hv h=>zI hu hv h
 «strs»:=fun k x t v h=>by
  rcases bO h with ⟨_,e⟩ | ⟨i,t,_,e⟩<;>cases e
end L2
namespace L2
open PySem PySem.Spec PyProof.Rows
noncomputable abbrev fP:=List (Option Int)
noncomputable def rK:Option Int->V
 | none => .Av
 | some i => .int i
noncomputable abbrev dC:=fP × Addr × V
noncomputable abbrev jD (p:dC)(q:fP × Addr × Value):Prop:=p.1=q.1/\p.2.1=q.2.1/\RelV p.2.2 q.2.2
noncomputable def Aa (P:Program)(w:World)(a:Addr)(kvs:List dC):Heap->Prop:=fun h=>kvs.length <= sizeLine/\(a == sysModules)=false/\∃ xs,Paired jD kvs xs /\
 ∃ o es ep,h.get? a=some o/\o.ExactDict/\o.data = .dict es ep/\es.toList=xs.map (entryOfKey (tupleKind (fz P w)))/\(xs.map (·.1)).Nodup
noncomputable def jE (P:Program)(w:World)(a:Addr)(kvs:List dC):HO := .ext (Aa P w a kvs)
noncomputable def AW (P:Program)(w:World)(H:Hp)(a:Addr)(kvs:List dC):Prop:=H a=some (jE P w a kvs)/\∀ x ∈ kvs,H x.2.1=some (.tup (x.1.map rK))
theorem AW.same {P:Program}{w:World}{H H':Hp}{a:Addr}{kvs:List dC}(h:AW P w H a kvs)(s:Ab H H'):AW P w H' a kvs:=⟨s _ _ h.1,fun x hx=>s _ _ (h.2 x hx)⟩
noncomputable def bX (kvs:List dC)(k:fP):Option V:=(kvs.find? fun x=>decide (x.1=k)).map (·.2.2)
noncomputable def qK (k:fP)(v:V)(x:dC):dC:=if x.1=k then (x.1,x.2.1,v) else x
noncomputable def eN (kvs:List dC)(k:fP)(b:Addr)(v:V):List dC:=if (bX kvs k).isSome then kvs.map (qK k v) else kvs ++ [(k,b,v)]
theorem iX {k:fP}:bX [] k=none:=rfl
theorem ce {x:dC}{kvs:List dC}{k:fP}:bX (x :: kvs) k=if x.1=k then some x.2.2 else bX kvs k:=by
 unfold bX
 rw[List.find?_cons]
 by_cases h:x.1=k
 ·rw[decide_eq_true h,if_pos h];rfl
 ·rw[decide_eq_false h,if_neg h]
theorem rO {kvs:List dC}{k k':fP}{v:V}:bX (kvs.map (qK k v)) k' = if k' = k then (bX kvs k).map (fun _=>v) else bX kvs k':=by
 induction kvs with
 | nil=>rw[map_nil,iX,iX];split<;>rfl
 | cons x kvs ih =>
  rw[map_cons,ce,ih,ce,ce]
  unfold qK
  by_cases h:x.1=k<;>by_cases h':k' = k
  ·have:x.1=k':=h.trans h'.symm
   simp[h,h']
  ·have:¬ x.1=k':=fun z=>h' (z.symm.trans h)
   rw[if_pos h,if_neg h',if_neg this,if_neg this,if_neg h']
  ·subst h'
   simp[h]
  ·simp[h,h']
theorem lH {kvs:List dC}{k k':fP}{b:Addr}{v:V}(h:bX kvs k=none):bX (kvs ++ [(k,b,v)]) k' = if k' = k then some v else bX kvs k':=by
 induction kvs with
 | nil =>
  rw[List.nil_append,ce,iX]
  by_cases e:k' = k
  ·rw[if_pos e,if_pos e.symm]
  ·rw[if_neg e,if_neg (Ne.symm e)]
 | cons x kvs ih =>
  rw[ce]at h
  by_cases hx:x.1=k
  ·rw[if_pos hx]at h;cases h
  ·rw[if_neg hx]at h
   rw[List.cons_append,ce,ih h,ce]
   by_cases e:k' = k
   ·subst e;rw[if_neg hx,if_pos rfl,if_pos rfl]
   ·rw[if_neg e,if_neg e]
theorem gh {kvs:List dC}{k k':fP}{b:Addr}{v:V}:bX (eN kvs k b v) k' = if k' = k then some v else bX kvs k':=by
 unfold eN
 cases h:bX kvs k with
 | none=>rw[if_neg (by simp)];exact lH h
 | some u =>
  rw[if_pos (by simp),rO,h];rfl
theorem eM {kvs:List dC}{k:fP}{b:Addr}{v:V}:(eN kvs k b v).length <= kvs.length + 1:=by
 unfold eN
 split
 ·rw[length_map];omega
 ·rw[length_append];exact le_refl _
theorem jP {kvs:List dC}{k:fP}{b:Addr}{v:V}{F:fP->Addr->Prop}(h:∀ x ∈ kvs,F x.1 x.2.1)(hk:F k b):∀ x ∈ eN kvs k b v,F x.1 x.2.1:=by
 intro x hx
 unfold eN at hx
 split at hx
 ·obtain⟨y,hy,rfl⟩:=mem_map.mp hx
  unfold qK
  split
  ·exact h y hy
  ·exact h y hy
 ·rcases mem_append.mp hx with q | q
  ·exact h x q
  ·rw[mem_singleton.mp q];exact hk
theorem lz {kvs:List dC}{xs:List (fP × Addr × Value)}(r:Paired jD kvs xs)(k:fP):AY (bX kvs k) ((atKey xs k).map (·.2)):=by
 induction r with
 | nil=>exact True.intro
 | @cons p q _ _ h1 _ ih =>
  rw[ce]
  unfold atKey at ih ⊢
  rw[List.find?_cons]
  by_cases e:p.1=k
  ·rw[if_pos e,decide_eq_true (h1.1.symm.trans e)];exact h1.2.2
  ·rw[if_neg e,decide_eq_false (fun z=>e (h1.1.trans z))];exact ih
theorem i0 {o:Option V}{u:Option Value}(r:AY o u):o.isSome=u.isSome:=by
 cases o<;>cases u<;>first | rfl | exact r.elim
theorem qJ {o:Option V}{u:Option Value}{d:V}{r:Value}(h:AY o u)(hd:RelV d r):RelV (o.getD d) (u.getD r):=by
 cases o<;>cases u<;>first | exact hd | exact h | exact h.elim
theorem wZ {kvs:List dC}{xs:List (fP × Addr × Value)}{k:fP}{v:V}{u:Value}(r:Paired jD kvs xs)(hv:RelV v u):Paired jD (kvs.map (qK k v)) (xs.map (putAt k u)):=by
 induction r with
 | nil=>exact .nil
 | @cons p q _ _ h1 _ ih =>
  refine .cons ?_ ih
  unfold qK putAt
  by_cases e:p.1=k
  ·rw[if_pos e,if_pos (h1.1.symm.trans e)];exact⟨h1.1,h1.2.1,hv⟩
  ·rw[if_neg e,if_neg (fun z=>e (h1.1.trans z))];exact h1
theorem uP {kvs:List dC}{xs:List (fP × Addr × Value)}{p:dC}{q:fP × Addr × Value}(r:Paired jD kvs xs)(h:jD p q):Paired jD (kvs ++ [p]) (xs ++ [q]):=by
 induction r with
 | nil=>exact .cons h .nil
 | cons h1 _ ih=>exact .cons h1 ih
theorem wY {kvs:List dC}{xs:List (fP × Addr × Value)}{k:fP}{b:Addr}{v:V}{u:Value}(r:Paired jD kvs xs)(hv:RelV v u):Paired jD (eN kvs k b v) (storedH xs k b u):=by
 have h:=i0 (lz r k)
 rw[Option.isSome_map]at h
 unfold eN storedH
 rw[h]
 split
 ·exact wZ r hv
 ·exact uP r ⟨rfl,rfl,hv⟩
section
variable {P:Program}{w:World}{H:Hp}{h:Heap}{a b:Addr}{kvs:List dC}{k:fP}
theorem ig:∀ {k:fP}{us:List Value},Vals (k.map rK) us->ItemsAre (fz P w) k us
 | [],_, .nil => .nil
 | none :: _,_, .cons r t => .cons (by have e:_=Value.none:=r;subst e;rfl) (ig t)
 | some i :: _,_, .cons r t => .cons (by obtain⟨tk,e⟩:=(show ∃ t,_=Value.int i t from r);subst e;exact beq_self_eq_true i) (ig t)
theorem iM (ok:Bk P w H h)(e:H b=some (.tup (k.map rK))):(tupleKind (fz P w)).is h k b:=by
 obtain⟨_,Ag,r,o,ho,⟨hc,n,hd⟩,_⟩:=ok _ _ e
 exact⟨o,Ag.toArray,n,ho,hc,hd,ig r⟩
theorem iR (ok:Bk P w H h)(e:AW P w H a kvs):kvs.length <= sizeLine/\(a == sysModules)=false/\∃ xs,Paired jD kvs xs/\h.DictOfH (tupleKind (fz P w)) a xs:=by
 obtain⟨e,ek⟩:=e
 obtain⟨⟨z,hs,xs,r,o,es,ep,h1,h2,h3,h4,h5⟩,_⟩:=ok _ _ e
 refine⟨z,hs,xs,r,o,es,ep,h1,h2,h3,h4,?_,h5⟩
 have all:∀ {kvs:List dC}{xs:List (fP × Addr × Value)},Paired jD kvs xs->(∀ x ∈ kvs,H x.2.1=some (.tup (x.1.map rK)))->∀ x ∈ xs,(tupleKind (fz P w)).is h x.1 x.2.1:=by
  intro kvs xs r
  induction r with
  | nil=>intro _ x hx;cases hx
  | @cons p q _ _ h1 _ ih =>
   intro hk x hx
   rcases mem_cons.mp hx with rfl | hx
   ·have:=hk p mem_cons_self
    rw[h1.1,h1.2.1]at this
    exact iM ok this
   ·exact ih (fun y hy=>hk y (mem_cons_of_mem _ hy)) x hx
 exact all r ek
theorem kz (h1 h2:Heap)(p:Aa P w a kvs h1)(st:∀ o,h1.get? a=some o->h2.get? a=some o):Aa P w a kvs h2:=by
 obtain⟨z,hs,xs,r,o,es,ep,q,c⟩:=p
 exact⟨z,hs,xs,r,o,es,ep,st _ q,c⟩
theorem uU (hb:sysModules < h.objs.size):Ay P w H (h.push { cls := .type "dict",data := .dict #[] }) h.objs.size (jE P w h.objs.size []) :=
 ⟨⟨zero_le _,beq_eq_false_iff_ne.mpr (Ne.symm (ne_of_lt hb)),[], .nil,_,#[],0,Heap.get?_push_size _ rfl,⟨rfl,rfl,rfl⟩,rfl,rfl,nodup_nil⟩,⟨_,Heap.get?_push_size _ rfl⟩,fun _ _=>kz _ _⟩
end
noncomputable def xm (P:Program)(w:World)(H:Hp)(a:Addr)(y:V)(r:Option V):Prop:=∃ kvs k b,AW P w H a kvs/\y = .ref b/\H b=some (.tup (k.map rK))/\r=bX kvs k
section
variable {X:Cx}{pins:List (Addr × Obj)}{σ:St}{H:Hp}{s:Shared}{a b:Addr}{y v d:V}{u r:Value}{o:Option V}{A:Around}{E:Value->Shared->Prop}
theorem zT (I:Inv X pins σ H s):sysModules < s.heap.objs.size :=
 lt_trans (by decide) (show mainGlobals < s.heap.objs.size from (I.mod.glob.keeps I.bk).lt)
theorem Rj {Q:Value->Shared->Prop}(hu:A.units + 1 < cLine)(I:Inv X pins σ H s)(g:xm X.prog X.w H a y o)(ry:RelV y u)(h:∀ s',Inv X pins σ H s'->Q (.bool o.isSome) s') :
  wpAny (model X.prog X.w) A (compareOp .In u (.ref a)) Q E s:=by
 obtain⟨kvs,k,b,e,rfl,eb,rfl⟩:=g
 cases (show u=Value.ref b from ry)
 obtain⟨_,hd,xs,rel,dd⟩:=iR I.Aj e
 refine wpAny_in_heap (tupleKind_room_in1 hu) (iM I.Aj eb) hd dd ?_
 have q:=i0 (lz rel k)
 rw[Option.isSome_map]at q
 rw[← q]
 exact h _ (I.tok _)
theorem zl {Q:Value->Shared->Prop}(hu:A.units + 1 < cLine)(I:Inv X pins σ H s)(g:xm X.prog X.w H a y o)(ry:RelV y u)(rd:RelV d r)(h:∀ w' s',Inv X pins σ H s'->RelV (o.getD d) w'->Q w' s') :
  wpAny (model X.prog X.w) A (call (.builtin "dict.get") [.ref a,u,r]) Q E s:=by
 obtain⟨kvs,k,b,e,rfl,eb,rfl⟩:=g
 cases (show u=Value.ref b from ry)
 obtain⟨_,hd,xs,rel,dd⟩:=iR I.Aj e
 exact call_meetsIn slot_dict_get dd.typeIs entry_dict_get (PySem.F.args_dict_get_3 _ _ _) (meetsH_dict_get_default (tupleKind (fz X.prog X.w)) a b hd r)
  ⟨tupleKind_room_in1 hu,k,xs,iM I.Aj eb,dd,h _ _ (I.tok _) (qJ (lz rel k) rd)⟩
theorem Le {kvs:List dC}{k:fP}{Q:Unit->Shared->Prop}(hu:A.units + 1 < cLine)(I:Inv X pins σ H s)(e:AW X.prog X.w H a kvs)(eb:H b=some (.tup (k.map rK)))(hl:kvs.length < sizeLine)(rv:RelV v r)
  (h:∀ s',Inv X pins σ (upd H a (jE X.prog X.w a (eN kvs k b v))) s'->Q () s'):wpAny (model X.prog X.w) A (setItem (.ref a) (.ref b) r) Q E s:=by
 obtain⟨z,hd,xs,rel,dd⟩:=iR I.Aj e
 have hz:xs.length <= sizeLine:=by rw[← Paired.length rel];exact z
 have D4:(eN kvs k b v).length <= sizeLine:=le_trans eM hl
 refine wpAny_setItem_heap (hsz:=hz) (tupleKind_room_in1 hu) (iM I.Aj eb) dd fun h' F4 hs=>h _ ?_
 obtain⟨q,es,ep,hq,h2,h3,h4,_,h5⟩:=F4
 exact I.write (x:=a) (e:=a) (by rw[e.1];exact True.intro) (.inl rfl) (fun c q hc z=>(hs.2 c hc).trans z) ⟨q,hq⟩
  ⟨⟨D4,hd,_,wY rel rv,q,es,ep,hq,h2,h3,h4,h5⟩,⟨q,hq⟩,fun _ _=>kz _ _⟩
theorem r9 {kvs:List dC}(I:Inv X pins σ H s)(e:AW X.prog X.w H a kvs):s.TypeIs (.ref a) "dict"/\∀ b,Value.ref a = .ref b->∃ ob,s.heap.get? b=some ob/\ob.dict=none:=by
 obtain⟨_,_,xs,_,dd⟩:=iR I.Aj e
 refine⟨dd.typeIs,fun b q=>?_⟩
 cases q
 obtain⟨ob,_,_,h1,h2,_⟩:=dd
 exact⟨ob,h1,h2.2.1⟩
end
noncomputable def rS (P:Program)(w:World):TE:=fun _ H Q=>∀ p,H p=none->Q (.ref p) (upd H p (jE P w p []))
noncomputable def Rk (P:Program)(w:World)(ty td:TE):TE:=fun σ H Q=>ty σ H fun y H1=>td σ H1 fun x H2=>∃ a o,x = .ref a/\xm P w H2 a y o/\Q (.bl o.isSome) H2
noncomputable def Lf (P:Program)(w:World)(td ty tv:TE):TS:=fun D σ H=>tv σ H fun v H1=>td σ H1 fun x H2=>ty σ H2 fun y H3=>∃ a kvs k b,x = .ref a/\AW P w H3 a kvs/\y = .ref b/\H3 b=some (.tup (k.map rK))/\kvs.length < sizeLine/\D.nx σ (upd H3 a (jE P w a (eN kvs k b v)))
noncomputable def yb (P:Program)(w:World)(td:TE)(t:TA):TE:=fun σ H Q=>td σ H fun x H1=>∃ a kvs,x = .ref a/\AW P w H1 a kvs/\t σ H1 fun xs H2=>∃ y z o,xs=[y,z]/\xm P w H2 a y o/\Q (o.getD z) H2
section
variable {X:Cx}{o i e f value:Expr}{pos pos' apos AV:Pos}{td ty tv tx:TE}
theorem pO:PE X (.Dict [] [] pos) (rS X.prog X.w):=fun pins s σ H Q I h =>
 wpAny_Dict_empty ⟨.ref s.heap.objs.size,_,I.laid (a:=s.heap.objs.size) (o:=jE X.prog X.w s.heap.objs.size []) (t':=s.toks) (fun _ _ q=>Heap.get?_push_of_some _ q) (le_refl _) (uU (zT I)),rfl,h _ (I.Aj.fresh (le_refl _))⟩
theorem yI (hu:X.A.units + 1 < cLine)(hi:PE X i ty)(ho:PE X o td):PC X .In i o (Rk X.prog X.w ty td):=by
 intro pins s σ H Q I h
 refine aR (hi pins s σ H _ I h) fun iv s1 ⟨y,H1,I1,ry,q1⟩=>aR (ho pins s1 σ H1 _ I1 q1) fun u s2 Af=>?_
 obtain⟨x,H2,I2,rx,a,ov,ex,g,q2⟩:=Af
 subst ex
 obtain rfl:u=Value.ref a:=rx
 exact Rj hu I2 g ry fun s3 I3=>⟨.bl ov.isSome,H2,I3,rfl,q2⟩
theorem pK (hu:X.A.units + 1 < cLine)(ho:PE X o td)(hi:PE X i ty)(hv:PE X value tv)(hs:swapsWith value (some (.Subscript o i pos')) pos.line X.env=pure false) :
  PS X (.Assign [.Subscript o i pos'] value pos) (Lf X.prog X.w td ty tv):=by
 intro pins s σ H D I h
 refine wpAny_Assign_Subscript (aR (hv pins s σ H _ I h) fun r s1 ⟨v,H1,I1,rv,q1⟩=>aR (ho pins s1 σ H1 _ I1 q1) fun u s2 ⟨x,H2,I2,rx,q2⟩=>aR (hi pins s2 σ H2 _ I2 q2) fun iv s3 Af=>?_) hs
 obtain⟨y,H3,I3,ry,a,kvs,k,b,ex,e,ey,eb,hl,q3⟩:=Af
 subst ex ey
 obtain rfl:u=Value.ref a:=rx
 obtain rfl:iv=Value.ref b:=ry
 exact Le hu I3 e eb hl rv fun s4 I4=>⟨σ,_,I4,q3⟩
theorem lY {es:List Expr}{t:TA}(hu:X.A.units + 1 < cLine)(ho:PE X o td)(ha:PA X (e :: es) t)
  (h1:attributeBase o "get" X.env (eval o X.env)=eval o X.env:=by rfl)
  (h2:((backTo AV (starEach (e :: es) X.env)).all (fun x=>!x.1) && (backToKw AV (keywordEach [] X.env)).all (fun x=>x.1.isSome) && decide ((e :: es).length + ([]:List Keyword).length + (if ([]:List Keyword).isEmpty then 0 else 1) < 30))=true:=by rfl)
  (h3:(apos.endLine == AV.line)=true:=by rfl) (h4:starEach (e :: es) X.env=(false,eval e X.env) :: starEach es X.env:=by rfl) (h5:(backTo AV (starEach es X.env)).any (·.1)=false:=by rfl) :
  PE X (.Call (.Attribute o "get" apos) (e :: es) [] AV) (yb X.prog X.w td t):=by
 intro pins s σ H Q I h
 refine wpAny_Call_method_late h1 h2 h3 rfl (aR (ho pins s σ H _ I h) fun v s1 Af=>?_)
 obtain⟨x,H1,I1,r1,a,kvs,ex,e1,q1⟩:=Af
 subst ex
 obtain rfl:v=Value.ref a:=r1
 obtain⟨t1,t2⟩:=r9 I1 e1
 refine⟨"dict", "dict.get",PySem.F.plainAttrs_dict,slot_dict_get,PySem.F.type_dict_get,t1,t2,?_⟩
 have hA:=ha AV pins s1 σ H1 _ I1 q1
 rw[h4]at hA ⊢
 refine Calls.callWith_builtin (by show(false || (backTo AV (starEach es X.env)).any (·.1))=false;rw[h5]<;>rfl) (Calls.evalArgs_plain ?_)
 refine aR hA fun us s2 Af=>?_
 obtain⟨vs,H2,I2,r2,y,z,ov,evs,g,q2⟩:=Af
 subst evs
 cases r2 with
 | cons ry r2=>cases r2 with
  | cons rz r2=>cases r2 with
   | nil=>exact zl hu I2 g ry rz fun w' s4 I4 CZ=>⟨_,H2,I4,CZ,q2⟩
end
end L2
namespace L2
open PySem PySem.Spec PyProof.Rows
structure vh (K:Frag)(C:Addr)(m:Str)(f:Addr):Prop where
 reads:PySem.W.readsIn K C (.type "type")=true
 found:PySem.W.findCls K (.ref C) (.type "type") m=some (.val (.ref f))
 spec:PySem.W.specialIn K (.ref C) "__getattribute__" = some (some (.builtin "type.__getattribute__"))
 kp:keepIn K (.ref f)=true
noncomputable def yg (C:Addr)(sp:Sp)(AE:List V)(E:XK)(ta:TE)(t:TA):TE:=fun σ H Q=>ta σ H fun x H1=>x = .ref C/\t σ H1 fun vs H2=>sp (vs ++ AE) H2 Q E
section
variable {X:Cx}{CX:lD}{k:Nat}{f C:Addr}{fd:FuncData}{ps:List Str}{sp:Sp}{AE:List V}{ds:List Value}{E:XK}{x m:Str}{p pos apos:Pos}{e o:Expr}{es:List Expr}{ta:TE}{t:TA}
theorem lZ {pl:Sem Bool}(he:PE X o ta)(hm:vh X.K C m f)(F:Ac X.prog X.w X.K X.mg X.base CX k f fd ps sp)(hr:Al k X.A)(hb:Binds X.K fd ps ds)(hd:Vals AE ds)(hx:cy CX X E)(ha:PA X (e :: es) t)
  (h1:starEach (e :: es) X.env=(false,eval e X.env) :: starEach es X.env:=by rfl) (h2:(backTo pos (starEach es X.env)).any (·.1)=false:=by rfl)
  (ht:eval (.Call (.Attribute o m apos) (e :: es) [] pos) X.env=(do
   let ov ← eval o X.env
   standAt apos.atName
   let (f,first) ← holding [ov] (getMethod ov m pl)
   callWith pos f first (backTo pos (starEach (e :: es) X.env)) (backToKw pos (keywordEach [] X.env))):=by rfl) :
  PE X (.Call (.Attribute o m apos) (e :: es) [] pos) (yg C sp AE E ta t):=by
 intro pins s σ H Q I h
 refine PySem.W.methodCall_KW (pl:=pl) (aR (he pins s σ H _ I h) fun u s1 Af=>?_) ht
 obtain⟨x,H1,I1,rx,ex,q⟩:=Af
 subst ex
 obtain rfl:u=Value.ref C:=rx
 refine PySem.W.method_cls I1.Bh hm.spec (PySem.W.cls_value I1.Bh hm.reads hm.found rfl ?_)
 refine PySem.W.callWith_K (first:=[]) (h₀:=X.base) I.ok.mod.CM hm.kp (aR (ha pos pins _ σ H1 _ (I1.tok _) q) fun us s2 ⟨vs,H2,I2,r,q2⟩=>⟨I2.Bh,?_⟩) h1 h2
 exact jh F hr hb hd hx I2 r q2
end
section
variable {X:Cx}
end
end L2
namespace L2
open PySem PySem.Spec PyProof.Rows
section
variable {X:Cx}{tg:Expr}
noncomputable def Rl:V->List V->Hp->VK->Prop:=fun x vs H Q=>∃ (l:Addr)(ns:List Int)(k:Int),x = .ref l/\vs=[.int k]/\H l=some (.lst (ns.map V.int))/\k ∈ ns/\ns.length <= 100000/\Q (.int (ns.idxOf k:Nat)) H
theorem rb:OI X "list.index" Rl:=by
 intro pins s σ H x vs v us Q I rx rv h
 obtain⟨l,ns,k,rfl,rfl,hH,hk,hlen,q⟩:=h
 cases rx
 obtain⟨u,rfl,ru⟩:=rv.one
 obtain⟨t,rfl⟩:=ru
 obtain⟨z,Ag,n,r,hl,e⟩:=I.Dd hH
 have hi:IntsAre Ag.toArray.toList ns:=oP r
 have Dk:Ag.length=ns.length:=by rw[← r.length,length_map]
 have hj:ns.idxOf k < ns.length:=List.idxOf_lt_length_of_mem hk
 have at_:∀ m (hm:m < Ag.toArray.size),∃ t,Ag.toArray[m]=Value.int (ns[m]'(by simpa [Dk] using hm)) t:=fun m hm=>by
  have Fg:m < Ag.length:=by simpa using hm
  have hv:(ns.map V.int)[m]? = some (V.int (ns[m]'(by omega))):=by simp[show m < ns.length by omega]
  obtain⟨w',hw,CZ⟩:=r.get hv
  obtain⟨t',rfl⟩:=CZ
  refine⟨t',?_⟩
  have:Ag[m]? = some Ag[m]:=List.getElem?_eq_getElem Fg
  rw[this]at hw
  simpa using Option.some.inj hw
 let e':Value->Bool:=fun y=>Value.isInt k y
 refine call_meets PySem.F.slot_list_index ⟨_,e,rfl⟩ PySem.F.entry_list_index (PySem.F.args_list_index_2 _ _)
  (SeqAt.list_indexAt l Ag.toArray n none #[] (.int k t) e' (ns.idxOf k) (by simpa [Dk] using hj) (by omega) ?_ ?_) ⟨e,fun y hy=>?_,?_⟩
 ·obtain⟨t',et⟩:=at_ (ns.idxOf k) (by simpa [Dk] using hj)
  show Value.isInt k (Ag.toArray[ns.idxOf k]'(by simpa [Dk] using hj))=true
  rw[et,List.getElem_idxOf]
  simp[Value.isInt]
 ·intro m hm Rm
  obtain⟨t',et⟩:=at_ m hm
  show Value.isInt k Ag.toArray[m]=false
  rw[et]
  have Ct:ns[m]'(by simpa [Dk] using hm) ≠ k:=fun z=>by
   have:=List.not_of_lt_findIdx (p:=fun x=>x == k) (xs:=ns) (i:=m) Rm
   rw[z]at this
   simp at this
  simp only[Value.isInt,beq_eq_false_iff_ne,ne_eq]
  first | exact Ct | exact fun z=>Ct z.symm
 ·have hm:y ∈ Ag:=by simpa using hy
  obtain⟨m,Fg,em⟩:=getElem_of_mem hm
  obtain⟨t',et⟩:=at_ m (by simpa using Fg)
  have ey:y=Value.int (ns[m]'(by omega)) t':=by rw[← em];simpa using et
  subst ey
  intro prog w E Q' hQ'
  refine wpAny_eqBool_int ?_
  have:(ns[m]'(by omega) == k)=Value.isInt k (Value.int (ns[m]'(by omega)) t'):=by simp[Value.isInt,Bool.beq_comm]
  rw[this]
  exact hQ'
 ·exact⟨.int (ns.idxOf k:Nat),H,I.tok _,⟨_,rfl⟩,q⟩
noncomputable def Lg (K:Frag):List V->Hp->VK->Prop:=fun xs H Q=>∃ (v:V)(t:Value)(c:String)(b:Bool),xs=[v, .ty c]/\iy K H v t/\kitOne K t (.type c)=some b/\Q (.bl b) H
theorem fq:fu X (.builtin "isinstance") (Lg X.K):=by
 intro pins s σ H xs us Q I r h
 obtain⟨v,t,c,b,rfl,ty,hk,q⟩:=h
 cases r with
 | cons r1 r2=>cases r2 with
  | cons r2 r3 =>
   cases r3
   cases r2
   exact rl I r1 ty hk fun tk=>⟨.bl b,H,I.tok _,rfl,q⟩
end
end L2
namespace L2
open PySem PySem.Spec PyProof.Rows
section
variable {κ:Type} [DecidableEq κ]
noncomputable def ge (kvs:List (κ × V))(k:κ):Option V:=(kvs.find? fun kv=>decide (kv.1=k)).map (·.2)
noncomputable def cz (kvs:List (κ × V))(k:κ)(v:V):List (κ × V) :=
 if (kvs.any fun kv=>decide (kv.1=k))=true then kvs.map (fun kv=>if kv.1=k then (kv.1,v) else kv) else kvs ++ [(k,v)]
theorem iU {p:κ × V}{r:List (κ × V)}{k:κ}(e:p.1=k):ge (p :: r) k=some p.2:=by simp[ge,List.find?_cons,e]
theorem iV {p:κ × V}{r:List (κ × V)}{k:κ}(e:¬ p.1=k):ge (p :: r) k=ge r k:=by simp[ge,List.find?_cons,e]
theorem iW (k:κ):∀ kvs:List (κ × V),(kvs.any fun kv=>decide (kv.1=k))=(ge kvs k).isSome
 | []=>rfl
 | p :: r=>by
  rw[any_cons]
  by_cases e:p.1=k
  ·simp only[iU e,decide_eq_true e,Bool.true_or,Option.isSome_some]
  ·rw[iV e,decide_eq_false e,Bool.false_or];exact iW k r
theorem eW (kvs:List (κ × V))(k:κ)(v:V):(cz kvs k v).length <= kvs.length + 1:=by
 unfold cz
 split
 ·rw[length_map];omega
 ·rw[length_append,length_cons,length_nil];omega
theorem tK {kvs:List (κ × V)}{k:κ}(v:V)(h:ge kvs k=none):cz kvs k v=kvs ++ [(k,v)]:=by
 unfold cz
 rw[iW,h]
 exact if_neg (by decide)
theorem AY.BI {o:Option V}{u:Option Value}(r:AY o u):o.isSome=u.isSome:=by
 cases o with
 | none=>cases u with
  | none=>rfl
  | some _=>exact(show False from r).elim
 | some _=>cases u with
  | none=>exact(show False from r).elim
  | some _=>rfl
theorem AY.getD {o:Option V}{u:Option Value}{d:V}{d':Value}(r:AY o u)(rd:RelV d d'):RelV (o.getD d) (u.getD d'):=by
 cases o with
 | none=>cases u with
  | none=>exact rd
  | some _=>exact(show False from r).elim
 | some _=>cases u with
  | none=>exact(show False from r).elim
  | some _=>exact r
theorem KV.val {kvs:List (κ × V)}{vs:List (κ × Value)}(r:KV kvs vs)(k:κ):AY (ge kvs k) (valueAt vs k):=by
 unfold KV at r
 induction r with
 | nil=>exact True.intro
 | @cons p q ps qs h t ih =>
  obtain⟨h1,h2⟩:=h
  by_cases e:p.1=k
  ·have e':q.1=k:=h1.symm.trans e
   have b:valueAt (q :: qs) k=some q.2:=by simp[valueAt,List.find?_cons,e']
   rw[iU e,b];exact h2
  ·have e':¬ q.1=k:=fun z=>e (h1.trans z)
   have b:valueAt (q :: qs) k=valueAt qs k:=by simp[valueAt,List.find?_cons,e']
   rw[iV e,b];exact ih
theorem KV.any {kvs:List (κ × V)}{vs:List (κ × Value)}(r:KV kvs vs)(k:κ):(kvs.any fun kv=>decide (kv.1=k))=vs.any fun kv=>decide (kv.1=k):=by
 unfold KV at r
 induction r with
 | nil=>rfl
 | cons h t ih=>rw[any_cons,any_cons,ih,h.1]
theorem KV.Im {kvs:List (κ × V)}{vs:List (κ × Value)}(r:KV kvs vs)(k:κ){y:V}{u:Value}(ry:RelV y u) :
  KV (kvs.map fun kv=>if kv.1=k then (kv.1,y) else kv) (vs.map fun kv=>if kv.1=k then (kv.1,u) else kv):=by
 unfold KV at r ⊢
 induction r with
 | nil=>exact .nil
 | @cons p q ps qs h t ih =>
  rw[map_cons,map_cons]
  refine .cons ?_ ih
  obtain⟨h1,h2⟩:=h
  by_cases e:p.1=k
  ·rw[if_pos e,if_pos (h1.symm.trans e)];exact⟨h1,ry⟩
  ·rw[if_neg e,if_neg (fun z=>e (h1.trans z))];exact⟨h1,h2⟩
theorem KV.put {kvs:List (κ × V)}{vs:List (κ × Value)}(r:KV kvs vs)(k:κ){y:V}{u:Value}(ry:RelV y u):KV (cz kvs k y) (stored vs k u):=by
 unfold cz stored
 rw[r.any k]
 by_cases e:(vs.any fun kv=>decide (kv.1=k))=true
 ·rw[if_pos e,if_pos e];exact r.Im k ry
 ·rw[if_neg e,if_neg e];exact Paired.snoc r ⟨rfl,ry⟩
theorem KV.keys {kvs:List (κ × V)}{vs:List (κ × Value)}(r:KV kvs vs):kvs.map (·.1)=vs.map (·.1):=by
 unfold KV at r
 induction r with
 | nil=>rfl
 | cons h t ih=>rw[map_cons,map_cons,ih,h.1]
theorem KV.length {kvs:List (κ × V)}{vs:List (κ × Value)}(r:KV kvs vs):kvs.length=vs.length:=Paired.length r
end
theorem kd {P:Program}{w:World}{k:bW}{u:Value}(r:RelV (kV k) u):(aV P w).is k u=true:=by
 cases k with
 | inl i=>obtain⟨t,e⟩:=(show ∃ t,u=Value.int i t from r);subst e;exact m9 P w i t
 | inr x=>obtain⟨t,e⟩:=(show ∃ t,u=Value.str x t from r);subst e;exact m8 P w x t
theorem kg {P:Program}{w:World}:∀ {ks:List bW}{us:List Value},Vals (ks.map kV) us->ItemsAre (aV P w) ks us
 | [],_,r=>by rw[map_nil]at r;cases r;exact .nil
 | k :: ks,_,r=>by
  rw[map_cons]at r
  cases r with
  | cons h t=>exact .cons (kd h) (kg t)
noncomputable abbrev KT (H:Hp):List (List bW × V)->List (List bW × Addr × Value)->Prop:=Paired fun p q=>p.1=q.1/\H q.2.1=some (.tup (p.1.map kV))/\RelV p.2 q.2.2
theorem KT.val {H:Hp}{kvs:List (List bW × V)}{xs:List (List bW × Addr × Value)}(r:KT H kvs xs)(k:List bW):AY (ge kvs k) ((atKey xs k).map (·.2)):=by
 induction r with
 | nil=>exact True.intro
 | @cons p q ps qs h t ih =>
  obtain⟨h1,_,h2⟩:=h
  by_cases e:p.1=k
  ·have e':q.1=k:=h1.symm.trans e
   have b:atKey (q :: qs) k=some q.2:=by simp[atKey,List.find?_cons,e']
   rw[iU e,b];exact h2
  ·have e':¬ q.1=k:=fun z=>e (h1.trans z)
   have b:atKey (q :: qs) k=atKey qs k:=by simp[atKey,List.find?_cons,e']
   rw[iV e,b];exact ih
theorem KT.Im {H:Hp}{kvs:List (List bW × V)}{xs:List (List bW × Addr × Value)}(r:KT H kvs xs)(k:List bW){y:V}{u:Value}(ry:RelV y u) :
  KT H (kvs.map fun kv=>if kv.1=k then (kv.1,y) else kv) (xs.map (putAt k u)):=by
 induction r with
 | nil=>exact .nil
 | @cons p q ps qs h t ih =>
  rw[map_cons,map_cons]
  refine .cons ?_ ih
  obtain⟨h1,h2,h3⟩:=h
  unfold putAt
  by_cases e:p.1=k
  ·rw[if_pos e,if_pos (h1.symm.trans e)];exact⟨h1,h2,ry⟩
  ·rw[if_neg e,if_neg (fun z=>e (h1.trans z))];exact⟨h1,h2,h3⟩
theorem KT.put {H:Hp}{kvs:List (List bW × V)}{xs:List (List bW × Addr × Value)}(r:KT H kvs xs)(k:List bW){b:Addr}{y:V}{u:Value}(hb:H b=some (.tup (k.map kV)))(ry:RelV y u) :
  KT H (cz kvs k y) (storedH xs k b u):=by
 have e:(kvs.any fun kv=>decide (kv.1=k))=(atKey xs k).isSome:=by
  rw[iW,(r.val k).BI,Option.isSome_map]
 unfold cz storedH
 rw[e]
 by_cases q:(atKey xs k).isSome=true
 ·rw[if_pos q,if_pos q];exact r.Im k ry
 ·rw[if_neg q,if_neg q];exact Paired.snoc r ⟨rfl,hb,ry⟩
theorem KT.keeps {H H':Hp}{kvs:List (List bW × V)}{xs:List (List bW × Addr × Value)}(r:KT H kvs xs)(ht:∀ b ys,H b=some (.tup ys)->H' b=some (.tup ys)):KT H' kvs xs :=
 Paired.HQ r fun _ _ z=>⟨z.1,ht _ _ z.2.1,z.2.2⟩
section
variable {P:Program}{w:World}{H:Hp}{h:Heap}{a:Addr}
theorem xF {u:HO}(ok:Bk P w H h)(e:Rd H a u):Ay P w H h a u:=e.ok ok
theorem ky {kvs:List (bW × V)}(ok:Bk P w H h)(e:Rd H a (.dK kvs)):kvs.length <= sizeLine/\(a == sysModules)=false/\∃ vs,KV kvs vs/\h.DictOf (aV P w) a vs :=
 show Ay P w H h a (.dK kvs) from xF ok e
theorem uR {kvs:List (bW × V)}(ok:Bk P w H h)(e:H a=some (.dK kvs)):kvs.length <= sizeLine/\(a == sysModules)=false/\∃ vs,KV kvs vs/\h.DictOf (aV P w) a vs:=ky ok (.inl e)
theorem jv {ks:List bW}(ok:Bk P w H h)(e:H a=some (.tup (ks.map kV))):(tupleKind (aV P w)).is h ks a:=by
 obtain⟨_,Ag,r,o,h1,⟨h2,n,h3⟩,_⟩:=(show Ay P w H h a (.tup (ks.map kV)) from ok a _ e)
 exact⟨o,Ag.toArray,n,h1,h2,h3,by simpa using kg r⟩
theorem ku {kvs:List (List bW × V)}(ok:Bk P w H h)(e:Rd H a (.dT kvs)):kvs.length <= sizeLine/\(a == sysModules)=false /\
  ∃ xs,KT H kvs xs/\h.DictOfH (tupleKind (aV P w)) a xs:=by
 obtain⟨z,y,xs,r,o,es,ep,h1,h2,h3,h4,h5⟩:=(show Ay P w H h a (.dT kvs) from xF ok e)
 refine⟨z,y,xs,r,o,es,ep,h1,h2,h3,h4,fun x hx=>?_,h5⟩
 have all:∀ {l:List (List bW × V)}{m:List (List bW × Addr × Value)},KT H l m->∀ x ∈ m,(tupleKind (aV P w)).is h x.1 x.2.1:=by
  intro l m q
  induction q with
  | nil=>intro x hx;exact nomatch hx
  | @cons p q ps qs hq t ih =>
   intro x hx
   rcases mem_cons.mp hx with e | hx
   ·subst e
    exact jv ok (by rw[← hq.1];exact hq.2.1)
   ·exact ih x hx
 exact all r x hx
theorem Lh {kvs:List (List bW × V)}(ok:Bk P w H h)(e:H a=some (.dT kvs)):kvs.length <= sizeLine/\(a == sysModules)=false /\
  ∃ xs,KT H kvs xs/\h.DictOfH (tupleKind (aV P w)) a xs:=ku ok (.inl e)
end
noncomputable def BY (H:Hp)(a:Addr)(y:V)(r:Option V):Prop :=
 (∃ kvs k,Rd H a (.dK kvs)/\y=kV k/\r=ge kvs k)∨∃ kvs k b,Rd H a (.dT kvs)/\y = .ref b/\H b=some (.tup (k.map kV))/\r=ge kvs k
noncomputable def ED (H:Hp)(a:Addr)(y v:V)(H':Hp):Prop :=
 (∃ kvs k,H a=some (.dK kvs)/\y=kV k/\kvs.length < sizeLine/\H' = upd H a (.dK (cz kvs k v))) ∨
 ∃ kvs k b,H a=some (.dT kvs)/\y = .ref b/\H b=some (.tup (k.map kV))/\kvs.length < sizeLine/\H' = upd H a (.dT (cz kvs k v))
theorem BY.k {H:Hp}{a:Addr}{kvs:List (bW × V)}{k:bW}(e:H a=some (.dK kvs)):BY H a (kV k) (ge kvs k) := .inl ⟨kvs,k, .inl e,rfl,rfl⟩
theorem ED.k {H:Hp}{a:Addr}{kvs:List (bW × V)}{k:bW}{v:V}(e:H a=some (.dK kvs))(hl:kvs.length < sizeLine):ED H a (kV k) v (upd H a (.dK (cz kvs k v))) := .inl ⟨kvs,k,e,rfl,hl,rfl⟩
section
variable {X:Cx}{pins:List (Addr × Obj)}{σ:St}{H:Hp}{s:Shared}{a:Addr}{y v:V}{u r:Value}{o:Option V}{A:Around}{E:Value->Shared->Prop}
theorem Inv.big (I:Inv X pins σ H s):sysModules < s.heap.objs.size:=by
 have h:mainGlobals < s.heap.objs.size:=(I.mod.glob.keeps I.bk).lt
 exact lt_trans (by decide) h
theorem rB {Q:Value->Shared->Prop}(hu:A.units + 1 < cLine)(I:Inv X pins σ H s)(g:BY H a y (some v))(ry:RelV y u)(h:∀ w' s',Inv X pins σ H s'->RelV v w'->Q w' s') :
  wpAny (model X.prog X.w) A (getItem (.ref a) u) Q E s:=by
 rcases g with ⟨kvs,k,e,ey,l⟩ | ⟨kvs,k,b,e,ey,eb,l⟩
 ·subst ey
  obtain⟨z,hd,vs,rel,dd⟩:=ky I.Aj e
  obtain⟨w',hw,CZ⟩:=AY.some_of (v:=v) (o:=valueAt vs k) (by rw[l];exact rel.val k)
  exact wpAny_getItem_of (kd ry) dd.mapOf hw (h w' _ (I.tok _) CZ)
 ·subst ey
  cases (show u=Value.ref b from ry)
  obtain⟨z,hd,xs,rel,dd⟩:=ku I.Aj e
  obtain⟨w',hw,CZ⟩:=AY.some_of (v:=v) (o:=(atKey xs k).map (·.2)) (by rw[l];exact rel.val k)
  obtain⟨p,hp,Li⟩:=Option.map_eq_some_iff.mp hw
  refine wpAny_getItem_heap (tupleKind_room_in1 hu) (jv I.Aj eb) dd hp ?_
  rw[Li]
  exact h w' _ (I.tok _) CZ
theorem xb {Q:Value->Shared->Prop}(hu:A.units + 1 < cLine)(I:Inv X pins σ H s)(g:BY H a y o)(ry:RelV y u)(h:∀ s',Inv X pins σ H s'->Q (.bool (!o.isSome)) s') :
  wpAny (model X.prog X.w) A (compareOp .NotIn u (.ref a)) Q E s:=by
 rcases g with ⟨kvs,k,e,ey,l⟩ | ⟨kvs,k,b,e,ey,eb,l⟩
 ·subst ey
  obtain⟨z,hd,vs,rel,dd⟩:=ky I.Aj e
  refine wpAny_notIn_of (kd ry) hd dd.mapOf ?_
  rw[← (rel.val k).BI,← l]
  exact h _ (I.tok _)
 ·subst ey
  cases (show u=Value.ref b from ry)
  obtain⟨z,hd,xs,rel,dd⟩:=ku I.Aj e
  refine wpAny_notIn_heap (tupleKind_room_in1 hu) (jv I.Aj eb) hd dd ?_
  have q:=(rel.val k).BI
  rw[Option.isSome_map]at q
  rw[← q,← l]
  exact h _ (I.tok _)
theorem l8 {h':Heap}{t':Nat}{ob:HO}(I:Inv X pins σ H s)(mu:Ka (H a))(hs:Heap.SameBut a s.heap h')(he:∃ q,h'.get? a=some q)(new:Ay X.prog X.w (upd H a ob) h' a ob) :
  Inv X pins σ (upd H a ob) { s with heap:=h',toks:=t' } :=
 I.write (x:=a) (e:=a) mu (.inl rfl) (fun b q hb z=>(hs.2 b hb).trans z) he new
theorem uS {P:Program}{w:World}{H':Hp}{h':Heap}{kvs:List (bW × V)}{vs:List (bW × Value)}(z:kvs.length <= sizeLine)(hd:(a == sysModules)=false)(rel:KV kvs vs)(dd:h'.DictOf (aV P w) a vs) :
  Ay P w H' h' a (.dK kvs):=⟨z,hd,vs,rel,dd⟩
theorem rA {H':Hp}{Q:Unit->Shared->Prop}(hu:A.units + 1 < cLine)(I:Inv X pins σ H s)(g:ED H a y v H')(ry:RelV y u)(rv:RelV v r)(h:∀ s',Inv X pins σ H' s'->Q () s') :
  wpAny (model X.prog X.w) A (setItem (.ref a) u r) Q E s:=by
 rcases g with ⟨kvs,k,e,ey,l,eH⟩ | ⟨kvs,k,b,e,ey,eb,l,eH⟩
 ·subst ey eH
  obtain⟨z,hd,vs,rel,dd⟩:=uR I.Aj e
  have hz:vs.length <= sizeLine:=by rw[← rel.length];exact z
  have hl:(cz kvs k v).length <= sizeLine:=by have:=eW kvs k v;omega
  refine wpAny_setItem_pairs (hsz:=hz) (kd ry) dd fun h' F4 hs=>h _ ?_
  have he:∃ q,h'.get? a=some q:=let ⟨q,_,_,hq,_⟩:=F4; ⟨q,hq⟩
  exact l8 I (by rw[e];exact True.intro) hs he (uS hl hd (rel.put k rv) F4)
 ·subst ey eH
  cases (show u=Value.ref b from ry)
  obtain⟨z,hd,xs,rel,dd⟩:=Lh I.Aj e
  have hz:xs.length <= sizeLine:=by rw[← Paired.length rel];exact z
  have hl:(cz kvs k v).length <= sizeLine:=by have:=eW kvs k v;omega
  refine wpAny_setItem_heap (hsz:=hz) (tupleKind_room_in1 hu) (jv I.Aj eb) dd fun h' F4 hs=>h _ ?_
  obtain⟨q,es,ep,hq,h2,h3,h4,_,h5⟩:=F4
  refine l8 I (by rw[e];exact True.intro) hs ⟨q,hq⟩ ⟨hl,hd,_,(rel.put k eb rv).keeps fun c ys ec=>?_,q,es,ep,hq,h2,h3,h4,h5⟩
  rw[ae (aU ec e (fun z=>nomatch z))]
  exact ec
end
section
variable {X:Cx}{pins:List (Addr × Obj)}{σ:St}{H:Hp}{s:Shared}{a:Addr}{kvs:List (bW × V)}{k:bW}{u:Value}{A:Around}{E:Value->Shared->Prop}
end
noncomputable def Lj (i:Expr):Prop:=∀ ov iv,subscripted i false ov iv=operate [ov,iv] (getItem ov iv)
theorem vx {prog:Program}{w:World}{A:Around}{E:Value->Shared->Prop}{s:Shared}{env:Env}{value slice:Expr}{pos:Pos}{T id:String}{Q:Value->Shared->Prop}
  (hl:typeLookup (.type T) "__getitem__" = pure (some (.builtin id))) (hs:Lj slice)
  (h:wpAny (model prog w) A (eval value env) (fun o s₁=>wpAny (model prog w) A (eval slice env) (fun i s₂=>s₂.TypeIs o T/\wpAny (model prog w) A (getItem o i) Q E s₂) E s₁) E s) :
  wpAny (model prog w) A (eval (.Subscript value slice pos) env) Q E s:=by
 refine Subscript_ (wpAny_mono h (fun o s₁ h₁=>wpAny_mono h₁ (fun i s₂ h₂=>?_) fun _ _ x=>x) fun _ _ x=>x)
 obtain⟨hT,h₂⟩:=h₂
 unfold subscriptTail
 refine wpAny_bind ?_
 rw[getitemInPython_of_ne hT.not_modules]
 refine wpAny_bind (wpAny_specialOf hT hl ?_)
 have fin:wpAny (model prog w) A (subscripted slice false o i) (fun r s₃=>wpAny (model prog w) A (letTemporaryGo value o r >>= fun _=>pure r) Q E s₃) E s₂:=by
  rw[hs o i]
  exact wpAny_operating (wpAny_mono h₂ (fun r s₃ h₃=>wpAny_bind (wpAny_letTemporaryGo (wpAny_pure h₃))) fun _ _ x=>x)
 first
  | exact wpAny_pure (wpAny_bind fin)
  | exact wpAny_bind (wpAny_pure (wpAny_bind fin))
  | exact wpAny_bind fin
theorem mS {X:Cx}{pins:List (Addr × Obj)}{σ:St}{H:Hp}{s:Shared}{a:Addr}{y:V}{o:Option V}(I:Inv X pins σ H s)(g:BY H a y o):s.TypeIs (.ref a) "dict":=by
 rcases g with ⟨kvs,k,e,_,_⟩ | ⟨kvs,k,b,e,_,_,_⟩
 ·obtain⟨_,_,vs,_,dd⟩:=ky I.Aj e
  exact dd.typeIs
 ·obtain⟨_,_,xs,_,dd⟩:=ku I.Aj e
  exact dd.typeIs
noncomputable def Lk (td ty:TE):TE:=fun σ H Q=>td σ H fun x H1=>ty σ H1 fun y H2=>∃ a v,x = .ref a/\BY H2 a y (some v)/\Q v H2
noncomputable def vw (ty td:TE):TE:=fun σ H Q=>ty σ H fun y H1=>td σ H1 fun x H2=>∃ a o,x = .ref a/\BY H2 a y o/\Q (.bl (!o.isSome)) H2
noncomputable def Ll (td ty tv:TE):TS:=fun D σ H=>tv σ H fun v H1=>td σ H1 fun x H2=>ty σ H2 fun y H3=>∃ a H4,x = .ref a/\ED H3 a y v H4/\D.nx σ H4
section
variable {X:Cx}{o i e value:Expr}{pos pos' DV:Pos}{td ty tv:TE}
theorem pP (hu:X.A.units + 1 < cLine)(ho:PE X o td)(hi:PE X i ty)(hs:Lj i):PE X (.Subscript o i pos) (Lk td ty):=by
 intro pins s σ H Q I h
 refine vx PySem.F.slot_dict_getitem.lookup hs (aR (ho pins s σ H _ I h) fun u s1 ⟨x,H1,I1,rx,q1⟩=>aR (hi pins s1 σ H1 _ I1 q1) fun iv s2 Af=>?_)
 obtain⟨y,H2,I2,ry,a,v,ex,g,q2⟩:=Af
 subst ex
 obtain rfl:u=Value.ref a:=rx
 exact⟨mS I2 g,rB hu I2 g ry fun w' s3 I3 CZ=>⟨v,H2,I3,CZ,q2⟩⟩
theorem qN (hu:X.A.units + 1 < cLine)(hi:PE X i ty)(ho:PE X o td):PC X .NotIn i o (vw ty td):=by
 intro pins s σ H Q I h
 refine aR (hi pins s σ H _ I h) fun iv s1 ⟨y,H1,I1,ry,q1⟩=>aR (ho pins s1 σ H1 _ I1 q1) fun u s2 Af=>?_
 obtain⟨x,H2,I2,rx,a,ov,ex,g,q2⟩:=Af
 subst ex
 obtain rfl:u=Value.ref a:=rx
 exact xb hu I2 g ry fun s3 I3=>⟨.bl (!ov.isSome),H2,I3,rfl,q2⟩
theorem vR (hu:X.A.units + 1 < cLine)(ho:PE X o td)(hi:PE X i ty)(hv:PE X value tv)(hs:swapsWith value (some (.Subscript o i pos')) pos.line X.env=pure false) :
  PS X (.Assign [.Subscript o i pos'] value pos) (Ll td ty tv):=by
 intro pins s σ H D I h
 refine wpAny_Assign_Subscript (aR (hv pins s σ H _ I h) fun r s1 ⟨v,H1,I1,rv,q1⟩=>aR (ho pins s1 σ H1 _ I1 q1) fun u s2 ⟨x,H2,I2,rx,q2⟩=>aR (hi pins s2 σ H2 _ I2 q2) fun iv s3 Af=>?_) hs
 obtain⟨y,H3,I3,ry,a,H4,ex,g,q3⟩:=Af
 subst ex
 obtain rfl:u=Value.ref a:=rx
 exact rA hu I3 g ry rv fun s4 I4=>⟨σ,H4,I4,q3⟩
end
theorem uT {P:Program}{w:World}{H:Hp}(h:Heap)(hb:sysModules < h.objs.size):Ay P w H (h.push { cls := .type "dict",data := .dict #[] }) h.objs.size (.dK []) :=
 ⟨zero_le _,beq_eq_false_iff_ne.mpr (Ne.symm (ne_of_lt hb)),[], .nil,Heap.DictOf.new h⟩
section
variable {X:Cx}{pos:Pos}
end
noncomputable def nJ:List (TE × TE)->St->Hp->(List (V × V)->Hp->Prop)->Prop
 | [],_,H,Q=>Q [] H
 | (tk,tv) :: r,σ,H,Q=>tk σ H fun x H1=>tv σ H1 fun y H2=>nJ r σ H2 fun ps H3=>Q ((x,y) :: ps) H3
noncomputable abbrev VV:List (V × V)->List (Value × Value)->Prop:=Paired fun p q=>RelV p.1 q.1/\RelV p.2 q.2
noncomputable def OS (X:Cx)(pos:Pos)(keys:List (Option Expr))(values:List Expr)(F5:List (TE × TE)):Prop :=
 ∀ (pins:List (Addr × Obj))(s:Shared)(σ:St)(H:Hp)(Q:List (V × V)->Hp->Prop),Inv X pins σ H s->nJ F5 σ H Q ->
  wpAny (model X.prog X.w) X.A (evalPairs (pairTrees keys values X.env pos)) (fun vs s'=>∃ ps H',Inv X pins σ H' s'/\VV ps vs/\Q ps H') X.xe s
theorem vS {X:Cx}{pos:Pos}:OS X pos [] [] []:=fun pins s σ H Q I h=>pairTrees_nil_walk ⟨[],H,I, .nil,h⟩
theorem tP {X:Cx}{pos:Pos}{k v:Expr}{ks:List (Option Expr)}{vs:List Expr}{tk tv:TE}{F5:List (TE × TE)}(hk:PE X k tk)(hv:PE X v tv)(hr:OS X pos ks vs F5) :
  OS X pos (some k :: ks) (v :: vs) ((tk,tv) :: F5):=fun pins s σ H Q I h =>
 pairTrees_cons_walk (aR (hk pins s σ H _ I h) fun u s1 ⟨x,H1,I1,rx,q1⟩=>aR (hv pins s1 σ H1 _ I1 q1) fun w2 s2 ⟨y,H2,I2,ry,q2⟩ =>
  aR (hr pins s2 σ H2 _ I2 q2) fun ws s3 Af=>by obtain⟨ps,H3,I3,rel,q3⟩:=Af;exact⟨(x,y) :: ps,H3,I3, .cons ⟨rx,ry⟩ rel,q3⟩)
noncomputable def eT (kvs more:List (bW × V)):List (bW × V):=more.foldl (fun acc kv=>cz acc kv.1 kv.2) kvs
theorem KV.merge:∀ {more:List (bW × V)}{rs:List (bW × Value)}{kvs:List (bW × V)}{vs:List (bW × Value)},KV more rs->KV kvs vs->KV (eT kvs more) (merged vs rs):=by
 intro more rs kvs vs r
 unfold KV at r
 induction r generalizing kvs vs with
 | nil=>intro q;exact q
 | @cons p q ps qs h t ih =>
  intro r0
  have e:KV (cz kvs p.1 p.2) (stored vs q.1 q.2):=by
   have:=r0.put p.1 h.2
   rw[← h.1];exact this
  exact ih e
theorem fM:∀ (more kvs:List (bW × V)),(eT kvs more).length <= kvs.length + more.length
 | [],kvs=>by show kvs.length <= kvs.length + 0;omega
 | p :: r,kvs=>by
  have h1:=fM r (cz kvs p.1 p.2)
  have h2:=eW kvs p.1 p.2
  show(eT (cz kvs p.1 p.2) r).length <= _
  rw[length_cons];omega
theorem j9 {P:Program}{w:World}:∀ {kvs:List (bW × V)}{ws:List (Value × Value)},VV (kvs.map fun kv=>(kV kv.1,kv.2)) ws->∃ rs,Carries (aV P w) ws rs/\KV kvs rs
 | [],_,r=>by rw[map_nil]at r;cases r;exact⟨[],True.intro, .nil⟩
 | p :: kvs,_,r=>by
  rw[map_cons]at r
  cases r with
  | @cons a b as bs h t =>
   obtain⟨rs,c,q⟩:=j9 (P:=P) (w:=w) t
   obtain⟨b1,b2⟩:=b
   exact⟨(p.1,b2) :: rs,⟨kd h.1,rfl,c⟩, .cons ⟨rfl,h.2⟩ q⟩
noncomputable def Ln (F5:List (TE × TE)):TE:=fun σ H Q=>∀ p,H p=none->nJ F5 σ (upd H p (.dK [])) fun ps H2=>H2 p=some (.dK [])/\∃ kvs:List (bW × V),ps=kvs.map (fun kv=>(kV kv.1,kv.2))/\kvs.length <= 15/\Q (.ref p) (upd H2 p (.dK (eT [] kvs)))
theorem vW {X:Cx}{pos:Pos}{keys:List (Option Expr)}{values:List Expr}{F5:List (TE × TE)}(h:OS X pos keys values F5)(B1:keys.all (·.isSome)=true)(hl:keys.length=values.length)(h0:keys ≠ [])
  (h15:keys.length <= 15):PE X (.Dict keys values pos) (Ln F5):=by
 intro pins s σ H Q I q
 have hn:=I.Aj.fresh (le_refl s.heap.objs.size)
 have I1:=I.laid (a:=s.heap.objs.size) (o := .dK []) (h':=s.heap.push { cls := .type "dict",data := .dict #[] }) (t':=s.toks) (fun _ _ q=>Heap.get?_push_of_some _ q) (le_refl _) (uT s.heap I.big)
 refine wpAny_Dict_walk (knd:=aV X.prog X.w) B1 hl h0 h15 (aR (h pins _ σ _ _ I1 (q _ hn)) fun ws s2 Af=>?_)
 obtain⟨ps,H2,I2,rel,e,kvs,ep,lk,q2⟩:=Af
 subst ep
 obtain⟨rs,c,rk⟩:=j9 (P:=X.prog) (w:=X.w) rel
 obtain⟨z,hd,Er,r0,dd⟩:=uR I2.Aj e
 cases r0
 refine⟨rs,c,dd,fun h' F4 hs=>⟨.ref s.heap.objs.size,_,?_,rfl,q2⟩⟩
 have hz:(eT [] kvs).length <= sizeLine:=by
  have h1:=fM kvs []
  rw[length_nil]at h1
  rw[sizeLine_eq];omega
 have he:∃ q,h'.get? s.heap.objs.size=some q:=let ⟨q,_,_,hq,_⟩:=F4; ⟨q,hq⟩
 exact l8 I2 (by rw[e];exact True.intro) hs he (uS hz hd (rk.merge .nil) F4)
structure M1 (X:Cx)(o:Expr)(m:Str)(apos:Pos)(e:Expr)(AV:Pos):Prop where
 base:attributeBase o m X.env (eval o X.env)=eval o X.env
 Bd:((backTo AV (starEach [e] X.env)).all (fun x=>!x.1) && (backToKw AV (keywordEach [] X.env)).all (fun x=>x.1.isSome)
  && decide (([e]:List Expr).length + ([]:List Keyword).length + (if ([]:List Keyword).isEmpty then 0 else 1) < 30))=true
 line:(apos.endLine == AV.line)=true
 trees:backTo AV (starEach [e] X.env)=[(false,eval e X.env)]
noncomputable def Wn (H:Hp)(a:Addr):Prop:=(∃ kvs,Rd H a (.dK kvs))∨∃ kvs,Rd H a (.dT kvs)
theorem zy {X:Cx}{pins:List (Addr × Obj)}{σ:St}{H:Hp}{s:Shared}{a:Addr}(I:Inv X pins σ H s)(d:Wn H a) :
  s.TypeIs (.ref a) "dict"/\(∀ b,Value.ref a = .ref b->∃ ob,s.heap.get? b=some ob/\ob.dict=none)/\(a == sysModules)=false:=by
 rcases d with ⟨kvs,e⟩ | ⟨kvs,e⟩
 ·obtain⟨_,hd,vs,_,dd⟩:=ky I.Aj e
  refine⟨dd.typeIs,fun b q=>?_,hd⟩
  cases q
  obtain⟨ob,_,_,h1,h2,_⟩:=dd
  exact⟨ob,h1,h2.2.1⟩
 ·obtain⟨_,hd,xs,_,dd⟩:=ku I.Aj e
  refine⟨dd.typeIs,fun b q=>?_,hd⟩
  cases q
  obtain⟨ob,_,_,h1,h2,_⟩:=dd
  exact⟨ob,h1,h2.2.1⟩
section
variable {X:Cx}{pins:List (Addr × Obj)}{σ:St}{H:Hp}{s:Shared}{a:Addr}{y d:V}{u r:Value}{o:Option V}{A:Around}{E:Value->Shared->Prop}
theorem zK {Q:Value->Shared->Prop}(hu:A.units + 1 < cLine)(I:Inv X pins σ H s)(g:BY H a y o)(ry:RelV y u)(h:∀ w' s',Inv X pins σ H s'->RelV (o.getD .Av) w'->Q w' s') :
  wpAny (model X.prog X.w) A (call (.builtin "dict.get") [.ref a,u]) Q E s:=by
 rcases g with ⟨kvs,k,e,ey,l⟩ | ⟨kvs,k,b,e,ey,eb,l⟩
 ·subst ey
  obtain⟨z,hd,vs,rel,dd⟩:=ky I.Aj e
  refine call_meetsIn slot_dict_get dd.typeIs entry_dict_get (PySem.F.args_dict_get_2 _ _) (meets_dict_get (aV X.prog X.w) a (kd ry) hd) ⟨_,dd.mapOf,h _ _ (I.tok _) ?_⟩
  rw[l]
  exact(rel.val k).getD rfl
 ·subst ey
  cases (show u=Value.ref b from ry)
  obtain⟨z,hd,xs,rel,dd⟩:=ku I.Aj e
  refine call_meetsIn slot_dict_get dd.typeIs entry_dict_get (PySem.F.args_dict_get_2 _ _) (meetsH_dict_get (tupleKind (aV X.prog X.w)) a b hd) ⟨tupleKind_room_in1 hu,k,xs,jv I.Aj eb,dd,h _ _ (I.tok _) ?_⟩
  rw[l]
  exact(rel.val k).getD rfl
end
noncomputable def yc (td ty:TE):TE:=fun σ H Q=>td σ H fun x H1=>∃ a,x = .ref a/\Wn H1 a/\ty σ H1 fun y H2=>∃ o,BY H2 a y o/\Q (o.getD .Av) H2
section
variable {X:Cx}{o e f:Expr}{apos AV:Pos}{td ty tx:TE}
theorem tS (hu:X.A.units + 1 < cLine)(ho:PE X o td)(he:PE X e ty)(m:M1 X o "get" apos e AV):PE X (.Call (.Attribute o "get" apos) [e] [] AV) (yc td ty):=by
 intro pins s σ H Q I h
 refine wpAny_Call_method m.base m.Bd m.line PySem.F.plainAttrs_dict slot_dict_get PySem.F.type_dict_get (aR (ho pins s σ H _ I h) fun u s1 Af=>?_)
 obtain⟨x,H1,I1,rx,a,ex,d,q1⟩:=Af
 subst ex
 obtain rfl:u=Value.ref a:=rx
 obtain⟨t1,t2,_⟩:=zy I1 d
 refine⟨t1,t2,?_⟩
 rw[m.trees]
 refine Calls.callWith_builtin rfl (Calls.evalArgs_plain (Calls.spliced_cons (aR (he pins s1 σ H1 _ I1 q1) fun iv s2 ⟨y,H2,I2,ry,ov,g,q2⟩=>Calls.spliced_nil ?_)))
 exact zK hu I2 g ry fun w' s3 I3 CZ=>⟨_,H2,I3,CZ,q2⟩
end
section
variable {X:Cx}{pins:List (Addr × Obj)}{σ:St}{H:Hp}{s:Shared}{a:Addr}{kvs:List (bW × V)}{A:Around}{E:Value->Shared->Prop}
end
section
variable {X:Cx}{pins:List (Addr × Obj)}{σ:St}{H:Hp}{s:Shared}{a:Addr}{y:V}{u:Value}{A:Around}{E:Value->Shared->Prop}
end
end L2
namespace L2
open PySem PySem.Spec PyProof.Rows
section
variable {X:Cx}
end
section
variable {κ:Type} [DecidableEq κ]
end
end L2
namespace L2
open PySem PySem.Spec PyProof.Rows
theorem wQ {P:Program}{w:World}{k:bW}{u:Value}(h:(aV P w).is k u=true):RelV (kV k) u:=by
 rcases b0 (show jw k u=true from h) with ⟨i,t,rfl,rfl⟩ | ⟨x,t,rfl,rfl⟩
 ·exact⟨t,rfl⟩
 ·exact⟨t,rfl⟩
noncomputable def DcO (P:Program)(w:World)(o:Obj)(kvs:List (bW × V))(ep:Nat):Prop:=∃ vs es,KV kvs vs/\o.ExactDict/\o.data = .dict es ep/\KeysOf (aV P w) es/\Pairs (aV P w) es.toList vs/\(vs.map (·.1)).Nodup
noncomputable def Lo (a:Addr)(o:Obj)(kvs:List (bW × V)):It :=
 ⟨fun i H=>H a=some (.BJ o (.dK kvs))/\i < kvs.length,fun i H x H'=>H' = H/\∃ k,(kvs.map (·.1))[i]? = some k/\x=kV k,fun i H=>H a=some (.BJ o (.dK kvs))/\i=kvs.length⟩
theorem Inv.GK {X:Cx}{pins:List (Addr × Obj)}{σ:St}{H:Hp}{s:Shared}{a:Addr}{o:Obj}{u:HO}(I:Inv X pins σ H s)(ha:H a=some (.BJ o u)):s.heap.get? a=some o:=(I.Aj a _ ha).1
theorem qA {P:Program}{w:World}{K:Frag}{tg:Expr}(a it:Addr)(o:Obj)(kvs:List (bW × V))(ep:Nat)(hD:DcO P w o kvs ep):nu P w K tg (Lo a o kvs) [it] it (fun i h=>h.IsKeyIter it a i kvs.length ep) where
 mem:=by simp
 obj:=fun i h st b hb=>by
  have e:b=it:=by simpa using hb
  subst e
  obtain⟨ob,e,c,d⟩:=st
  exact⟨ob,e,fun v z=>by rw[d]at z;cases z⟩
 keep:=fun i h h' st k=>by
  obtain⟨ob,e,c,d⟩:=st
  exact⟨ob,k it (by simp) ob e,c,d⟩
 item:=by
  intro X hP hw hK hc i pins s σ H E I hf st hg
  subst hP hw hK
  obtain⟨ha,hi⟩:=hg
  obtain⟨vs,es,rel,d1,d2,d3,d4,d5⟩:=hD
  obtain⟨f0,f1,f2,f3,f4,f5⟩:=hf it (by simp)
  have hl:=rel.length
  have hv:vs[i]? = some (vs[i]'(by omega)):=List.getElem?_eq_getElem (by omega)
  have st:s.heap.IsKeyIter it a i vs.length ep:=by rw[← hl];exact st
  refine wpAny_pyNext_dict_item (knd:=aV X.prog X.w) (k:=(vs[i]'(by omega)).1) (v:=(vs[i]'(by omega)).2) st ⟨o,es,I.GK ha,d1,d2,d3,d4,d5⟩ hv fun key h' hk Em sb=>?_
  rw[← hl]at Em
  have I1:Inv X pins σ H { s with heap:=h' }:=I.turned (t':=s.toks) (fun b o hb e=>(sb.2 b hb).trans e) f0 f1 f3 f4 f5
  obtain⟨ob,e,c,d⟩:=id Em
  exact⟨key,rfl,qk (s:={ s with heap:=h' }) e c d (by decide) ⟨_,H,I1,wQ hk,⟨rfl,_,by rw[rel.keys,List.getElem?_map,hv];rfl,rfl⟩,Em,fun b hb=>(hf b hb).1⟩⟩
 done:=by
  intro X hP hw hK hc i pins s σ H E I hf st hg
  subst hP hw hK
  obtain⟨ha,rfl⟩:=hg
  obtain⟨vs,es,rel,d1,d2,d3,d4,d5⟩:=hD
  obtain⟨f0,f1,f2,f3,f4,f5⟩:=hf it (by simp)
  have hl:=rel.length
  have st:s.heap.IsKeyIter it a vs.length vs.length ep:=by rw[← hl];exact st
  exact wpAny_pyNext_dict_end (knd:=aV X.prog X.w) (I.ok.hd hc) st ⟨o,es,I.GK ha,d1,d2,d3,d4,d5⟩ (List.getElem?_eq_none (le_refl _)) fun h' eb=>⟨rfl,I.turned (t':=s.toks) (fun b o hb e=>eb b o hb e) f0 f1 f3 f4 f5⟩
 self:=fun _ _ _ _ _ st h=>wpAny_pyIter_keyiter st h
section
variable {X:Cx}{tg:Expr}
noncomputable def Lp (tl:TE):TI:=fun σ H R=>tl σ H fun x H1=>∃ a kvs,x = .ref a/\H1 a=some (.dK kvs)/\∀ o,R (Lo a o kvs) (upd H1 a (.BJ o (.dK kvs)))
theorem vV {l:Expr}{tl:TE}(hl:PE X l tl):PI X tg l (Lp tl):=by
 intro pins s σ H R I h
 refine aR (hl pins s σ H _ I h) fun v s1 Af=>?_
 obtain⟨x,H1,I1,r1,q1⟩:=Af
 obtain⟨a,kvs,e,ha,q⟩:=q1
 subst e
 cases r1
 obtain⟨z,hd,vs,rel,o,es,ep,eo,d1,d2,d3,d4,d5⟩:=uR I1.Aj ha
 have I2:Inv X pins σ (upd H1 a (.BJ o (.dK kvs))) s1:=I1.write (x:=a) (e:=a) (h':=s1.heap) (t':=s1.toks) (by rw[ha];trivial) (.inl rfl) (fun b u _ q=>q) ⟨_,eo⟩ ⟨eo,z,hd,vs,rel,o,es,ep,eo,d1,d2,d3,d4,d5⟩
 refine wpAny_pyIter_dict (knd:=aV X.prog X.w) hd ⟨o,es,eo,d1,d2,d3,d4,d5⟩ ?_
 refine⟨s1.heap.objs.size,[s1.heap.objs.size],_,_,_,rfl,I2.kept (t':=s1.toks) fun b o e=>Heap.get?_push_of_some _ e,qA a _ o kvs ep ⟨vs,es,rel,d1,d2,d3,d4,d5⟩,⟨_,Heap.get?_push_size _ rfl,rfl,by rw[rel.length];rfl⟩,fun b hb=>?_,q o⟩
 have e:b=s1.heap.objs.size:=by simpa using hb
 subst e
 exact I2.DT (le_refl _) (I2.Aj.fresh (le_refl _))
theorem uM {a:Addr}{o:Obj}{kvs:List (bW × V)}{g:TG}{tb:TS}{D:jL}{σ:St}{H:Hp}(Pv:Nat->St->Hp->Prop)(h0:Pv 0 σ H)(hl:∀ i σ H,i <= kvs.length->Pv i σ H->H a=some (.BJ o (.dK kvs)))
  (hs:∀ i k σ H,(kvs.map (·.1))[i]? = some k->Pv i σ H->g (kV k) σ H fun σ2 H2=>tb { D with nx:=Pv (i + 1),ct:=Pv (i + 1),bk:=D.nx } σ2 H2) (hd:∀ σ H,Pv kvs.length σ H->D.nx σ H) :
  ∃ W:Nat->Nat->St->Hp->Prop,(∃ m,W 0 m σ H)/\∀ i m σ H,W i m σ H ->
   ((Lo a o kvs).stop i H/\D.nx σ H)∨((Lo a o kvs).go i H/\∃ N:St->Hp->Prop,(∀ σ' H',N σ' H'->∃ m',m' < m/\W (i + 1) m' σ' H')/\∀ x H',(Lo a o kvs).EY i H x H'->g x σ H' fun σ2 H2=>tb { D with nx:=N,ct:=N,bk:=D.nx } σ2 H2):=by
 refine⟨fun i m σ H=>m=kvs.length - i/\i <= kvs.length/\Pv i σ H,⟨kvs.length,by simp,zero_le _,h0⟩,?_⟩
 rintro i m σ H ⟨rfl,hi,p⟩
 have q:=hl i σ H hi p
 by_cases AX:i < kvs.length
 ·refine .inr ⟨⟨q,AX⟩,Pv (i + 1),fun σ' H' p'=>⟨kvs.length - (i + 1),by omega,rfl,AX,p'⟩,fun x H' y=>?_⟩
  obtain⟨e,k,hk,ex⟩:=y
  subst e ex
  exact hs i k σ _ hk p
 ·have e:i=kvs.length:=by omega
  subst e
  exact .inl ⟨⟨q,rfl⟩,hd σ H p⟩
end
end L2
namespace L2
open PySem PySem.Spec PyProof.Rows
section
variable {X:Cx}
end
end L2
namespace L2
open PySem
section
variable {X:Cx}
noncomputable def rR (t:TS):TS:=fun D σ H=>∃ BZ:St->Hp->Prop,t { D with nx:=BZ } σ H/\∀ σ' H',BZ σ' H'->D.nx σ' H'
theorem kU {st:Stmt}{t:TS}(h:PS X st t):PS X st (rR t):=fun pins s σ H D I ⟨BZ,q,k⟩ =>
 aR (h pins s σ H _ I q) fun f s1 z=>by
  cases f with
  | next=>obtain⟨σ1,H1,I1,p⟩:=z;exact⟨σ1,H1,I1,k _ _ p⟩
  | brk=>exact z
  | cont=>exact z
  | ret u=>exact z
noncomputable def ya (t:TE):TE:=fun σ H Q=>∃ BZ:V->Hp->Prop,t σ H BZ/\∀ v H',BZ v H'->Q v H'
theorem lb {e:Expr}{t:TE}(h:PE X e t):PE X e (ya t):=fun pins s σ H Q I ⟨BZ,q,k⟩ =>
 aR (h pins s σ H _ I q) fun u s1 Af=>by obtain⟨v,H1,I1,r,p⟩:=Af;exact⟨v,H1,I1,r,k v H1 p⟩
noncomputable def xY (t:TT):TT:=fun σ H Q=>∃ BZ:Bool->Hp->Prop,t σ H BZ/\∀ b H',BZ b H'->Q b H'
theorem iK {e:Expr}{t:TT}(h:PT X e t):PT X e (xY t):=fun pins s σ H Q I ⟨BZ,q,k⟩ =>
 aR (h pins s σ H _ I q) fun b s1 Af=>by obtain⟨H1,I1,p⟩:=Af;exact⟨H1,I1,k b H1 p⟩
end
end L2
namespace L2
open PySem PySem.Spec PyProof.Rows
end L2
namespace L2
open PySem PySem.Spec PyProof.Rows
structure DZ (K:Frag)(x qual:Str)(st:Stmt)(f:Addr)(fd:FuncData):Prop where
 ex:∃ (oc:Value)(od:Option Addr)(dV kV doc pm:Value)(an:Option Addr)(cdv ct:Value)(CO:Array (Option Value)),
  fd=fnOf x qual (bv st) (aE st) (ah st) dV kV doc pm an cdv ct/\K.lookup f=some ⟨oc,od, .func fd,CO⟩/\codeIn K cdv qual=true
 kp:keepIn K (.ref f)=true
section
variable {P:Program}{w:World}{K:Frag}{mg:Str->Option Value}{base:Heap}
theorem DZ.Fe {x qual:Str}{st:Stmt}{f:Addr}{fd:FuncData}{N ps:List Str}{k:Nat}{sp:Sp}(F:DZ K x qual st f fd)(S:ao N ps (ah st))(len:∀ vs H Q E,sp vs H Q E->vs.length=ps.length)
  (Be:∀ (cdv:Value)(A:Around)(outer:List Env)(s:Shared)(H:Hp)(vs:List V)(Q:VK)(E:XK),Al k (A.deeper (envOfC qual (ah st) s.heap.objs.size f cdv))->sp vs H Q E ->
   ∃ t,BK (iu (dR P w) P w K mg base N qual (ah st) f cdv A outer s H E) (aE st) t/\t { nx:=fun _ H'=>Q .Av H',rt:=Q } (start N vs) H):Ac P w K mg base (dR P w) (k + 1) f fd ps sp:=by
 obtain⟨oc,od,dV,kV,doc,pm,an,cdv,ct,CO,rfl,lk,BG⟩:=F.ex
 exact qm lk BG S len fun A outer s H vs Q E hr CC=>Be cdv A outer s H vs Q E hr CC
end
end L2
namespace L2
open PySem PySem.Spec PyProof.Rows
noncomputable def vL (K:Frag):R2:=fun x y H Q=>∃ (p:Addr)(vs:List V)(d:PyData)(ds:List PyData),y = .ref p/\iS K H x d/\Ah K H p vs/\hZ K H vs ds/\BX d 8/\(∀ z ∈ ds,BX z 8)/\Q (.bl (!(ds.any fun y=>PyData.eqv y d))) H
theorem qO {X:Cx}(hu:X.A.units + 64 < cLine):eI X (compareOp .NotIn) (vL X.K):=by
 intro pins s σ H x y v u Q I rx ry h
 obtain⟨p,vs,d,ds,rfl,h1,h2,h3,s1,s2,q⟩:=h
 obtain⟨as,r1⟩:=I.den (.lst h2 h3) ry
 obtain⟨bs,r2⟩:=I.den h1 rx
 refine SeqAt.notIn_list_reads r1 r2 (kN s2).1 s1.1 ?_ ⟨.bl _,H,I,rfl,q⟩
 have:=s1.2
 have:=Nat.min_le_right (PyData.depthAll ds) d.depth
 omega
noncomputable def Lq (K:Frag):R2:=fun x y H Q=>∃ a b xs ys,x = .ref a/\y = .ref b/\An K H a xs/\An K H b ys/\ys ≠ []/\xs.length + ys.length <= sizeLine /\
 (xs=[]->Q (.ref b) H)/\(xs ≠ []->∀ p,H p=none->Q (.ref p) (upd H p (.tup (xs ++ ys))))
theorem wc {X:Cx}:eI X (binaryOp .Add) (Lq X.K):=by
 intro pins s σ H x y v u Q I rx ry h
 obtain⟨a,b,xs,ys,rfl,rfl,ha,hb,hy,hz,q1,q2⟩:=h
 by_cases hx:xs=[]
 ·cases rx
  cases ry
  obtain⟨Ag,r1,p1,_⟩:=I.tuple ha
  obtain⟨Cy,r2,p2,_⟩:=I.tuple hb
  have e1:Ag=[]:=r1.Cf.mpr hx
  obtain⟨⟨cls,dd,data,sl⟩,ho,hc,n,hd⟩:=id p1
  obtain⟨⟨QG,OH,data2,Ju⟩,BV,CY,n2,hd2⟩:=id p2
  simp only at hc hd CY hd2
  subst hc hd CY hd2
  exact concat_meets ⟨_,ho,rfl⟩ ⟨_,BV,rfl⟩ noFill_tuple_add seq_tuple_add slot_tuple_add entry_tuple_add (args_tuple_add_2 _ _)
   (tuple_addW0 a b Ag.toArray Cy.toArray n n2 dd OH sl Ju (by simp[e1])) ⟨ho,BV,⟨.ref b,H,I,rfl,q1 hx⟩⟩
 ·exact wb pins s σ H _ _ v u Q I rx ry ⟨a,b,xs,ys,rfl,rfl,ha,hb,hx,hz,fun z=>absurd z hy,fun _=>q2 hx⟩
end L2
namespace L2
open PySem
theorem fZ {M:Model} {Γ:Ctx} {env:Env} {b:List Stmt} {Q:Flow->Pos->Shared->Prop} {E:Value->Pos->Shared->Prop}:∀ {a:List Stmt}{p:Pos}{s:Shared},
  Sem.wp M Γ (execs a env) (fun f p' s'=>match f with | .next=>Sem.wp M Γ (execs b env) Q E p' s' | f=>Q f p' s') E p s->Sem.wp M Γ (execs (a ++ b) env) Q E p s
 | [],_,_,h=>h
 | st :: a,p,s,h=>by
  rw[execs_cons,Sem.wp_bind']at h
  rw[List.cons_append,execs_cons,Sem.wp_bind']
  refine Sem.wp_mono M Γ _ (fun f p' s' h'=>?_) (fun _ _ _ h'=>h') _ _ h
  cases f with
  | next=>exact fZ (a:=a) h'
  | brk=>exact h'
  | cont=>exact h'
  | ret u=>exact h'
section
variable {X:Cx}
theorem vQ {a b:List Stmt}{t u:TS}(h1:BK X a t)(h2:BK X b u):BK X (a ++ b) (xW (rR t) u):=by
 intro pins s σ H D I h
 obtain⟨BZ,q,k⟩:=h
 intro Γ p hΓ
 refine fZ ?_
 refine Sem.wp_mono _ Γ _ (fun f p' s' z=>?_) (fun _ _ _ z=>z) _ _ (h1 pins s σ H _ I q Γ p hΓ)
 cases f with
 | next=>obtain⟨σ1,H1,I1,z⟩:=z;exact h2 pins s' σ1 H1 D I1 (k _ _ z) Γ p' hΓ
 | brk=>exact z
 | cont=>exact z
 | ret u=>exact z
theorem tM {ss:List Stmt}{t u:TS}(n:Nat)(h1:BK X (ss.take n) t)(h2:BK X (ss.drop n) u):BK X ss (xW (rR t) u):=by
 have h:=vQ h1 h2
 rwa [List.take_append_drop]at h
end
end L2
namespace L2
open PySem PySem.Spec PyProof.Rows
noncomputable abbrev Cx.pinned (X:Cx)(q:List (Addr × Obj)):Cx:={ X with pn:=X.pn ++ q }
theorem Cx.Ok.pinned {X:Cx}(o:X.Ok)(q:List (Addr × Obj)):(X.pinned q).Ok:=⟨o.mod,o.kind,o.glob,o.blt,o.above,o.inj,o.has,o.Gz,o.hd,o.frames,o.Jp,o.O5,o.bs,o.Ek,o.Dx,o.DS,o.Bx,o.EX⟩
theorem Cx.Ok.BO {X:Cx}{q:List (Addr × Obj)}(o:(X.pinned q).Ok):X.Ok:=⟨o.mod,o.kind,o.glob,o.blt,o.above,o.inj,o.has,o.Gz,o.hd,o.frames,o.Jp,o.O5,o.bs,o.Ek,o.Dx,o.DS,o.Bx,o.EX⟩
section
variable {X:Cx}{pins q:List (Addr × Obj)}{σ:St}{H:Hp}{s:Shared}
theorem Inv.Rn (I:Inv X (q ++ pins) σ H s):Inv (X.pinned q) pins σ H s :=
 ⟨I.ok.pinned q,I.os,I.bare,I.base,I.loc,I.cell,I.free,I.AL,fun p hp=>I.pin p (by rw[append_assoc]at hp;exact hp),I.Aj,I.len⟩
theorem Inv.BO (I:Inv (X.pinned q) pins σ H s):Inv X pins σ H s :=
 ⟨I.ok.BO,I.os,I.bare,I.base,I.loc,I.cell,I.free,I.AL,fun p hp=>I.pin p (by
  rcases mem_append.mp hp with h | h
  ·exact mem_append_left _ (mem_append_left _ h)
  ·exact mem_append_right _ h),I.Aj,I.len⟩
theorem SP.BO {D:jL}{f:Flow}(h:SP (X.pinned q) pins D f s):SP X pins D f s:=by
 cases f with
 | next=>obtain⟨σ',H',I,r⟩:=h;exact⟨σ',H',I.BO,r⟩
 | brk=>obtain⟨σ',H',I,r⟩:=h;exact⟨σ',H',I.BO,r⟩
 | cont=>obtain⟨σ',H',I,r⟩:=h;exact⟨σ',H',I.BO,r⟩
 | ret u=>obtain⟨v,σ',H',I,r⟩:=h;exact⟨v,σ',H',I.BO,r⟩
end
structure Fi (mg:Str->Option Value)(base:Heap)(c P:Addr):Prop where
 bm:base.BuiltinsAt mg P
 cd:PySem.W.CodeHd base c P
 gP:mainGlobals ≠ P
noncomputable def jF (oc:Obj)(qual:Str):Prop:=∃ vs t,oc.data = .fields vs/\vs[1]? = some (.str qual t)
theorem Fi.keep {mg:Str->Option Value}{base Ar:Heap}{c P:Addr}(N:Fi mg base c P)(k:∀ b o,base.get? b=some o->Ar.get? b=some o):Fi mg Ar c P:=by
 obtain⟨bm,o,h1,h2,h3,h4,h5,h6⟩:=N.bm
 exact⟨⟨bm,o,h1,h2,h3,h4,k _ _ h5,h6⟩,N.cd.keeps k,N.gP⟩
theorem vP {X:Cx}{i:Nat}{name qual:Str}{params:Arguments}{body rest:List Stmt}{scope:Scope}{pos:Pos}{clos:List (Str × Addr)}{c P:Addr}{t:Addr->Addr->Obj->Value->Value->Value->TS}
  (N:Fi X.mg X.base c P) (nd:X.N.Nodup) (hi:X.N[i]? = some name) (hx:Loc X.env.scope name) (Lr:X.env.code = .ref c) (Wo:params.defaults=[]) (hk0:params.kw_defaults=[]) (ha:annTrees params none X.env=[])
  (hq:qualnameIn X.env name name=qual) (D7:closureFor scope X.env=pure clos)
  (hr:∀ f c' oc doc pm BB,jF oc qual->BK (X.pinned [(f,PySem.W.fnMade name qual params body scope clos doc pm c' BB),(c',oc)]) rest (t f c' oc doc pm BB))
  (hf:X.fn name=true∨X.env.scope.names.lookup name=some .local:=by first | exact .inl rfl | exact .inr rfl | assumption) :
  BK X (.FunctionDef name params body [] none [] scope none name pos :: rest) (fun D σ H=>∃ ps,H P=some (.BE ps)/\TriplesOk ps.toList/\codeAmong pos ps.toList=none /\
   ∀ f c' oc doc pm BB Io,H f=none->t f c' oc doc pm BB D (σ.set i (some (.ref f))) (upd H P (.BE Io))):=by
 intro pins s σ H D I h
 obtain⟨ps,hP,ht,Ie,h⟩:=h
 have gP:s.heap.get? P=some (PySem.W.tabObj ps):=I.Aj P _ hP
 obtain⟨bm,ob,b1,b2,b3,b4,b5,b6⟩:=(N.keep I.bk).bm
 refine wpAny_execs_cons (PySem.W.nestDef_K Wo hk0 ha ?_)
 rw[hq]
 refine PySem.W.makeFunction_K D7 I.ok.glob (I.mod.glob.keeps I.bk) Lr (N.cd.keeps I.bk) gP ht Ie N.gP ⟨bm,ob,b1,b2,b3,b4,b5,b6⟩ fun c' BB doc h' tk C4 OT AX EE Cj=>?_
 obtain⟨c2,oc,vs,tq,e2,O8,Wq,hv⟩:=EE
 cases e2
 have Ls:∀ b u,H b=some u->(∀ qs,u ≠ .BE qs)->b ≠ P:=fun b u e n z=>by subst z;rw[hP]at e;cases e;exact n _ rfl
 have nP:∀ b,H b=none->b ≠ P:=fun b e z=>by subst z;rw[hP]at e;cases e
 have hPl:P < s.heap.objs.size:=lt_size gP
 have kp:∀ b u,b ≠ P->s.heap.get? b=some u->(h'.push (PySem.W.fnMade name qual params body scope clos doc ((X.mg "__name__").getD .none) c' BB)).get? b=some u:=fun b u n e=>Heap.get?_push_of_some _ (C4 b u n e)
 have Wr:(h'.push (PySem.W.fnMade name qual params body scope clos doc ((X.mg "__name__").getD .none) c' BB)).get? P=some (PySem.W.tabObj (ps ++ #[rawInt pos.line,rawInt pos.col, .ref c'])):=Heap.get?_push_of_some _ Cj
 have I1:Inv X pins σ (upd H P (.BE (ps ++ #[rawInt pos.line,rawInt pos.col, .ref c']))) { s with heap:=h'.push (PySem.W.fnMade name qual params body scope clos doc ((X.mg "__name__").getD .none) c' BB),toks:=tk }:=by
  refine I.un ⟨fun b u e n _ _=>kp b u (nP b n) e,fun b u e n _ _=>⟨u.slots,kp b u (nP b n) e⟩,fun b u e n _=>by rw[ae (nP b n)];exact n,fun b u e _=>?_,fun b xs e=>?_,fun b o u e=>?_,fun b qs e=>?_⟩ fun b u e=>?_
  ·by_cases z:b=P
   ·subst z;exact⟨_,Wr⟩
   ·exact⟨u,kp b u z e⟩
  ·rw[ae (Ls b _ e (by intro _ z;cases z))];exact e
  ·rw[ae (Ls b _ e (by intro _ z;cases z))];exact e
  ·by_cases z:b=P
   ·subst z;rw[hP]at e;cases e;exact⟨_,ac⟩
   ·exact⟨#[],by rw[ae z,e];simp⟩
  ·by_cases z:b=P
   ·subst z;rw[ac]at e;cases e;exact Wr
   ·rw[ae z]at e
    refine(I.Aj b u e).BF (fun d v hd g=>kp d v ?_ g) (fun d g=>by rw[ae (Ls d _ g (by intro _ z;cases z))];exact g) fun d xs g=>by rw[ae (Ls d _ g (by intro _ z;cases z))];exact g
    rcases hd with rfl | hd
    ·exact z
    ·exact Ls d _ hd (by intro _ z;cases z)
 have hsz:s.heap.objs.size <= h'.objs.size:=le_of_lt (lt_of_le_of_lt OT AX)
 have Ws:∀ b,s.heap.objs.size <= b->upd H P (.BE (ps ++ #[rawInt pos.line,rawInt pos.col, .ref c'])) b=none:=fun b hb=>by
  rw[ae (ne_of_gt (lt_of_lt_of_le hPl hb))];exact I.Aj.fresh hb
 have I2:=I1.Bi (pins':=[(h'.objs.size,PySem.W.fnMade name qual params body scope clos doc ((X.mg "__name__").getD .none) c' BB),(c',oc)] ++ pins) (fun p hp=>by
  rcases mem_append.mp hp with hp | hp
  ·rcases mem_cons.mp hp with rfl | hp
   ·exact⟨Heap.get?_push_size _ rfl,Ws _ hsz,ne_of_gt (lt_of_lt_of_le I.lt hsz),I.HR hsz,by intro v z;cases z⟩
   ·obtain rfl:=mem_singleton.mp hp
    exact⟨Heap.get?_push_of_some _ O8,Ws _ OT,ne_of_gt (lt_of_lt_of_le I.lt OT),I.HR OT,by intro v z;rw[Wq]at z;cases z⟩
  ·exact I1.pin p (mem_append_right _ hp))
 refine gi I2 nd hi hx (v := .ref h'.objs.size) rfl (fun s' I3=>?_) hf
 refine aR (hr h'.objs.size c' oc doc ((X.mg "__name__").getD .none) BB ⟨vs,tq,Wq,hv⟩ pins s' _ _ D I3.Rn (h h'.objs.size c' oc doc _ BB _ (I.Aj.fresh hsz))) fun f s2 z=>SP.BO z
structure OU (X:Cx)(cs:List (Nat × Str))(AN:List V)(Ar:Heap):Prop where
 CM:X.K.In Ar
 ns:Ar.Ns mainGlobals X.mg
 base:∀ b o,X.base.get? b=some o->Ar.get? b=some o
 pn:∀ p ∈ X.pn,Ar.get? p.1=some p.2
 cell:Paired (fun (q:Nat × Str)(v:V)=>∃ c u,X.env.cells.lookup q.2=some c/\RelV v u/\Ar.IsCell c (some u)) cs AN
 inj:∀ x y c,X.env.cells.lookup x=some c->X.env.cells.lookup y=some c->x=y
theorem mO {h base Ar:Heap}:∀ {l:List Env},(∀ b ∈ j2 l,Ar.get? b=none)->h.FunFrames base l->h.FunFrames Ar l
 | [],_,_=>trivial
 | env :: r,k,⟨hk,⟨L,o,hf,hn,ho,hd⟩,hr⟩=>⟨hk,⟨L,o,hf,k L (by unfold j2;rw[filterMap_cons,hf];exact mem_cons_self),ho,hd⟩,mO (fun b hb=>k b (by unfold j2;rw[filterMap_cons,hf];exact mem_cons_of_mem _ hb)) hr⟩
noncomputable def eY (X:Cx)(cs:List (Nat × Str))(b:Addr):Bool:=(X.base.get? b).isSome || (X.pn.map (·.1)).contains b || cs.any fun q=>X.env.cells.lookup q.2 == some b
noncomputable def i9 (X:Cx)(cs:List (Nat × Str))(h:Heap):Heap:=PySem.W.hideAll h ((List.range h.objs.size).filter fun b=>!eY X cs b)
theorem lB {X:Cx}{cs:List (Nat × Str)}{h:Heap}{b:Addr}{o:Obj}(e:h.get? b=some o)(k:eY X cs b=true):(i9 X cs h).get? b=some o :=
 PySem.W.hideAll_get _ e fun hm=>by
  have q:=(mem_filter.mp hm).2
  rw[k]at q;cases q
theorem uw {X:Cx}{cs:List (Nat × Str)}{h:Heap}{b:Addr}{o:Obj}(e:(i9 X cs h).get? b=some o):h.get? b=some o/\eY X cs b=true:=by
 have e':h.get? b=some o:=PySem.W.of_hideAll _ e
 refine⟨e',?_⟩
 cases q:eY X cs b with
 | true=>rfl
 | false =>
  have hm:b ∈ (List.range h.objs.size).filter fun b=>!eY X cs b:=mem_filter.mpr ⟨mem_range.mpr (lt_size e'),by rw[q];rfl⟩
  have z:(i9 X cs h).get? b=none:=PySem.W.hideAll_none _ hm
  rw[z]at e;cases e
theorem mI {X:Cx}{cs:List (Nat × Str)}{b:Addr}(h:eY X cs b=true):(∃ o,X.base.get? b=some o)∨(∃ p ∈ X.pn,p.1=b)∨∃ q ∈ cs,X.env.cells.lookup q.2=some b:=by
 unfold eY at h
 rcases (Bool.or_eq_true _ _).mp h with h | h
 ·rcases (Bool.or_eq_true _ _).mp h with h | h
  ·exact .inl (Option.isSome_iff_exists.mp h)
  ·obtain⟨p,hp,e⟩:=mem_map.mp (List.contains_iff_mem.mp h)
   exact .inr (.inl ⟨p,hp,e⟩)
 ·obtain⟨q,hq,e⟩:=any_eq_true.mp h
  exact .inr (.inr ⟨q,hq,eq_of_beq e⟩)
theorem zS {X:Cx}{pins:List (Addr × Obj)}{σ:St}{H:Hp}{s:Shared}{cs:List (Nat × Str)}{AN:List V}(I:Inv X pins σ H s)(OV:∀ q ∈ cs,X.N[q.1]? = some q.2/\X.env.scope.names.lookup q.2=some .cell/\X.fn q.2=true)
  (hv:Paired (fun (q:Nat × Str)(v:V)=>σ[q.1]? = some (some v)) cs AN):OU X cs AN (i9 X cs s.heap)/\CW X.prog X.w X.K X.mg (i9 X cs s.heap) X.A X.stack s H:=by
 have kb:∀ b o,X.base.get? b=some o->(i9 X cs s.heap).get? b=some o:=fun b o e=>lB (I.bk b o e) (by unfold eY;rw[e];rfl)
 have cell:∀ (OW:List (Nat × Str))(Ip:List V),(∀ q ∈ OW,q ∈ cs)->Paired (fun (q:Nat × Str)(v:V)=>σ[q.1]? = some (some v)) OW Ip ->
   Paired (fun (q:Nat × Str)(v:V)=>∃ c u,X.env.cells.lookup q.2=some c/\RelV v u/\(i9 X cs s.heap).IsCell c (some u)) OW Ip:=by
  intro OW Ip hs hp
  induction hp with
  | nil=>exact .nil
  | @cons q v _ _ r _ ih =>
   refine .cons ?_ (ih fun q hq=>hs q (mem_cons_of_mem _ hq))
   have hq:=hs q mem_cons_self
   obtain⟨h1,h2,h3⟩:=OV q hq
   obtain⟨m,hn,hl⟩:=I.loc
   obtain⟨u,ru,l⟩:=hl q.1 q.2 v h1 r (.inr (.inl h2))
   rcases l with ⟨k,_⟩ | ⟨_,c,hc,o,ho,hd⟩
   ·have k:X.env.scope.names.lookup q.2=some .local:=k
    rw[h2]at k;cases k
   ·exact⟨c,u,hc,ru,o,lB ho (by
     unfold eY
     rw[show(cs.any fun q=>X.env.cells.lookup q.2 == some c)=true from any_eq_true.mpr ⟨q,hq,by rw[hc];simp⟩,Bool.or_true]),hd⟩
 have CM:=I.ok.mod.CM.keeps kb
 have ns:=I.ok.mod.glob.keeps kb
 have Wt:∀ b,eY X cs b=true->H b=none/\b ∉ j2 X.stack:=fun b hb=>by
  rcases mI hb with ⟨o,e⟩ | ⟨p,hp,rfl⟩ | ⟨q,hq,e⟩
  ·refine⟨(I.bs b o e).2,fun z=>?_⟩
   have:=(I.stack.mem z).1
   rw[e]at this;cases this
  ·obtain⟨_,n,nl,nf,_⟩:=I.pin p (mem_append_left _ hp)
   exact⟨n,fun z=>(mem_cons.mp (I.Br _ z)).elim nl nf⟩
  ·refine⟨I.AL _ _ e,fun z=>?_⟩
   rcases mem_cons.mp (I.Br _ z) with z | z
   ·exact I.E2 _ _ e z
   ·obtain⟨_,o,ho,_⟩:=I.ok.Bx.mem z
    exact absurd (lt_of_lt_of_le (lt_size ho) (I.ok.Gz _ _ (OV q hq).2.2 e)) (lt_irrefl _)
 refine⟨⟨CM,ns,kb,fun p hp=>?_,cell cs AN (fun _ h=>h) hv,I.ok.inj⟩,I.ok.frames,⟨CM,ns,?_,I.ok.mod.nolimit.keeps kb⟩,fun b o e=>?_,?_,?_,I.Cd,I.Aj,I.bare⟩
 ·refine lB (I.pin p (mem_append_left _ hp)).1 ?_
  unfold eY
  rw[show(X.pn.map (·.1)).contains p.1=true from List.contains_iff_mem.mpr (mem_map_of_mem hp),Bool.or_true,Bool.true_or]
 ·obtain⟨mb,h1,h2⟩:=I.ok.mod.blt
  exact⟨mb,h1.keeps kb,h2⟩
 ·obtain⟨e1,k⟩:=uw e
  exact⟨e1,(Wt b k).1⟩
 ·exact le_of_eq (PySem.W.hideAll_size _ _)
 ·refine mO (fun b hb=>?_) I.stack
  cases q:(i9 X cs s.heap).get? b with
  | none=>rfl
  | some o=>exact absurd hb (Wt b (uw q).2).2
noncomputable def yf (cs:List (Nat × Str))(sp:List V->Sp)(AE:List V)(E:XK)(t:TA):TE:=fun σ H Q=>∃ AN,Paired (fun (q:Nat × Str)(v:V)=>σ[q.1]? = some (some v)) cs AN/\t σ H fun vs H1=>sp AN (vs ++ AE) H1 Q E
section
variable {X:Cx}{CX:lD}{k:Nat}{f:Addr}{fd:FuncData}{ps:List Str}{AE:List V}{ds:List Value}{E:XK}{x:Str}{p pos:Pos}{e:Expr}{es:List Expr}{t:TA}{cs:List (Nat × Str)}{sps:List V->Sp}
theorem tU (F:∀ AN Ar,OU X cs AN Ar->Ac X.prog X.w X.K X.mg Ar CX k f fd ps (sps AN))(OV:∀ q ∈ cs,X.N[q.1]? = some q.2/\X.env.scope.names.lookup q.2=some .cell/\X.fn q.2=true)
  (hr:Al k X.A) (hg:Gl X x) (hm:X.mg x=some (.ref f)) (hk:keepIn X.K (.ref f)=true) (hb:Binds X.K fd ps ds) (hd:Vals AE ds) (hx:cy CX X E)
  (ha:PA X (e :: es) t) (Dz:(x == ("__debug__":Str))=false:=by decide) (he:starEach (e :: es) X.env=(false,eval e X.env) :: starEach es X.env:=by rfl) (B4:(backTo pos (starEach es X.env)).any (·.1)=false:=by rfl) :
  PE X (.Call (.Name x p) (e :: es) [] pos) (yf cs sps AE E t):=by
 intro pins s σ H Q I h
 obtain⟨AN,hv,h⟩:=h
 refine wpAny_Call_Name_kw (fD I hg hm ?_ Dz)
 refine PySem.W.callWith_K (h₀:=X.base) I.ok.mod.CM hk (aR (ha pos pins s σ H _ I h) fun us s1 ⟨vs,H1,I1,r,q⟩=>⟨I1.Bh,?_⟩) he B4
 obtain⟨B,e0⟩:=zS I1 OV hv
 have G:=F AN _ B
 have r2:Vals (vs ++ AE) (us ++ ds):=r.append hd
 have hl:(us ++ ds).length=ps.length:=by rw[← r2.length];exact G.len _ _ _ _ q
 refine wpAny_call (codeAny_mono (G.run X.A X.stack s1 H1 ⟨us,[]⟩ (us ++ ds) (vs ++ AE) Q E hr e0 (hb s1 us I1.Bh hl) r2 q) fun r s' hq=>?_)
 cases r with
 | error e=>exact hx pins σ H1 s1 e s' I1 hq
 | ok fl =>
  cases fl with
  | ret u=>exact I1.after hq
  | next=>exact False.elim hq
  | brk=>exact False.elim hq
  | cont=>exact False.elim hq
noncomputable def ye (i:Nat)(f:Addr)(sp:Sp)(AE:List V)(E:XK)(t:TA):TE:=fun σ H Q=>σ[i]? = some (some (.ref f))/\t σ H fun vs H1=>sp (vs ++ AE) H1 Q E
theorem tT {sp:Sp}{i:Nat}(F:Ac X.prog X.w X.K X.mg X.base CX k f fd ps sp)(hf:PySem.W.FnAt f X.base)(hr:Al k X.A)(hN:X.N[i]? = some x)(hv:Kc X.env.scope x)(hb:Binds X.K fd ps ds)(hd:Vals AE ds)(hx:cy CX X E)
  (ha:PA X (e :: es) t) (Dz:(x == ("__debug__":Str))=false:=by decide) (BG:(x == ("__classdict__":Str))=false:=by decide) (he:starEach (e :: es) X.env=(false,eval e X.env) :: starEach es X.env:=by rfl) (B4:(backTo pos (starEach es X.env)).any (·.1)=false:=by rfl) :
  PE X (.Call (.Name x p) (e :: es) [] pos) (ye i f sp AE E t):=by
 intro pins s σ H Q I h
 obtain⟨hi,h⟩:=h
 have at':∀ {pins':List (Addr × Obj)}{σ':St}{H':Hp}{s':Shared},Inv X pins' σ' H' s'->PySem.W.FnAt f s'.heap:=fun J=>let ⟨a,b,c,d,e⟩:=hf; ⟨a,b,c,d,J.bk _ _ e⟩
 refine wpAny_Call_Name_kw (aR (tQ (pos:=p) hN hv Dz BG pins s σ H (fun v H'=>v = .ref f/\H' = H) I ⟨_,hi,rfl,rfl⟩) fun u s0 Af=>?_)
 obtain⟨v,H',I',ru,ev,eH⟩:=Af
 subst ev;subst eH
 obtain rfl:u=Value.ref f:=ru
 refine PySem.W.callWith_F (at' I') (aR (ha pos pins s0 σ _ _ I' h) fun us s1 ⟨vs,H1,I1,r,q⟩=>⟨at' I1,?_⟩) he B4
 exact jh F hr hb hd hx I1 r q
end
structure jC (N P fr:List Str)(sc:Scope):Prop where
 kind:sc.kind = .function
 co:sc.isCoroutine=false
 gen:sc.isGenerator=false
 nd:N.Nodup
 pre:N=P ++ fr
 par:∀ x ∈ P,sc.names.lookup x=some .local
 BH:∀ y ∈ sc.names,y.2 ≠ .cell
 free:∀ x ∈ fr,sc.names.lookup x=some .free
 all:∀ y ∈ sc.names,y.2 = .free->y.1 ∈ fr
structure Lu (base:Heap)(clos:List (Str × Addr))(fr:List Str)(AN:List V):Prop where
 at':Paired (fun (x:Str)(v:V)=>∃ c u,clos.lookup x=some c/\RelV v u/\base.IsCell c (some u)) fr AN
 only:∀ x c,clos.lookup x=some c->x ∈ fr
 inj:∀ x y c,clos.lookup x=some c->clos.lookup y=some c->x=y
noncomputable def Lv (CX:lD)(P:Program)(w:World)(K:Frag)(mg:Str->Option Value)(base:Heap)(N:List Str)(qual:Str)(scope:Scope)(f:Addr)(cd:Value)(cl:List (Str × Addr))(A:Around)(outer:List Env)(s:Shared)(H:Hp)(E:XK):Cx where
 prog:=P
 w:=w
 K:=K
 mg:=mg
 base:=base
 A:=A.deeper (PySem.W.envX qual scope s.heap.objs.size f cd cl)
 N:=N
 s₀:=s
 H₀:=H
 env:=PySem.W.envX qual scope s.heap.objs.size f cd cl
 outer:=outer
 stack:=PySem.W.envX qual scope s.heap.objs.size f cd cl :: outer
 ex:=[]
 calm:=true
 fn:=fun _=>false
 pn:=[]
 xe:=fun e s'=>wpAny (model P w) (A.deeper (PySem.W.envX qual scope s.heap.objs.size f cd cl)) (leaving (PySem.W.envX qual scope s.heap.objs.size f cd cl) e) (fun _ E4=>CX outer H s E e E4) (fun e' E4=>CX outer H s E e' E4) s'
theorem o0 {x:Str}{v:Value}:∀ {P:List Str}{us:List Value}{i:Nat},P.Nodup->P[i]? = some x->us[i]? = some v->(P.zip us).reverse.lookup x=some v:=by
 intro P us i nd h1 h2
 have hm:(x,v) ∈ (P.zip us).reverse:=mem_reverse.mpr (mem_of_getElem? (i:=i) (by rw[List.getElem?_zip_eq_some];exact⟨h1,h2⟩))
 have key:∀ (l:List (Str × Value)),(l.map (·.1)).Nodup->(x,v) ∈ l->l.lookup x=some v:=by
  intro l
  induction l with
  | nil=>intro _ h;cases h
  | cons p r ih =>
   intro hn hm
   obtain⟨y,z⟩:=p
   rw[map_cons,nodup_cons]at hn
   rw[lookup_cons]
   rcases mem_cons.mp hm with e | hm
   ·cases e;simp
   ·have:(x == y)=false:=by
     cases q:x == y with
     | false=>rfl
     | true=>exact absurd (mem_map_of_mem (f:=(·.1)) hm) (by rw[eq_of_beq q];exact hn.1)
    rw[this]
    exact ih hn.2 hm
 refine key _ ?_ hm
 have e:((P.zip us).map (·.1))=P.take us.length:=by
  have:∀ (P:List Str)(us:List Value),(P.zip us).map (·.1)=P.take us.length:=by
   intro P
   induction P with
   | nil=>intro us;simp
   | cons p r ih=>intro us;cases us with
    | nil=>rfl
    | cons u t=>simp[ih]
  exact this P us
 rw[List.map_reverse,e,List.nodup_iff_pairwise_ne,List.pairwise_reverse]
 exact(nd.sublist (List.take_sublist _ _)).imp fun h=>Ne.symm h
theorem zH {CX:lD}{P:Program}{w:World}{K:Frag}{mg:Str->Option Value}{base:Heap}{k:Nat}{f c':Addr}{name qual:Str}{params:Arguments}{body:List Stmt}{scope:Scope}{clos:List (Str × Addr)}{doc pm BB:Value}{oc:Obj}
  {N ps fr:List Str} {AN:List V} {sp:Sp} (lk:base.get? f=some (PySem.W.fnMade name qual params body scope clos doc pm c' BB)) (El:base.get? c' = some oc) (BG:jF oc qual) (S:jC N ps fr scope) (C:Lu base clos fr AN)
  (len:∀ vs H Q E,sp vs H Q E->vs.length=ps.length)
  (Be:∀ (A:Around)(outer:List Env)(s:Shared)(H:Hp)(vs:List V)(Q:VK)(E:XK),Al k (A.deeper (PySem.W.envX qual scope s.heap.objs.size f (.ref c') clos))->sp vs H Q E ->
   ∃ t,BK (Lv CX P w K mg base N qual scope f (.ref c') clos A outer s H E) body t/\t { nx:=fun _ H'=>Q .Av H',rt:=Q } ((vs ++ AN).map some) H) :
  Ac P w K mg base CX (k + 1) f (PySem.W.fnX name qual params body scope clos .none .none doc pm none (.ref c') BB) ps sp:=by
 refine⟨len,fun A outer s H args us vs Q E hr e0 hb r CC=>?_⟩
 have hl:=len _ _ _ _ CC
 have bk:∀ b o,base.get? b=some o->s.heap.get? b=some o:=fun b o e=>(e0.bs b o e).1
 have lim:s.heap.NoLimit:=e0.mod.nolimit.keeps bk
 obtain⟨vv,tq,hd,hv⟩:=BG
 have hlen:ps.length=us.length:=by rw[← hl];exact r.length
 refine codeAny_call_def (fd:=PySem.W.fnX name qual params body scope clos .none .none doc pm none (.ref c') BB) (body:=body) hr.depth (bk _ _ lk) rfl lim ⟨c',oc,vv,tq,rfl,bk _ _ El,hd,hv⟩ rfl hb S.BH (fun y hy=>S.par y.1 (of_mem_zip (a:=y.1) (b:=y.2) hy).1) (fun h1 Jx hk=>?_) S.co S.gen S.kind
 obtain⟨t,ht,hq⟩:=Be A outer s H vs Q E (hr.deeper _) CC
 have Ft:∀ b:Addr,b ∉ (Lv CX P w K mg base N qual scope f (.ref c') clos A outer s H E).ex:=fun b z=>absurd (show b ∈ ([]:List Addr) from z) (by simp)
 have cellAt:∀ x c,clos.lookup x=some c->∃ (v:V)(u:Value)(i:Nat),fr[i]? = some x/\AN[i]? = some v/\RelV v u/\base.IsCell c (some u):=fun x c hx=>by
  obtain⟨i,hi,e⟩:=getElem_of_mem (C.only x c hx)
  have J4:fr[i]? = some x:=by rw[List.getElem?_eq_getElem hi,e]
  have Wm:i < AN.length:=by rw[← Paired.length C.at'];exact hi
  have get:∀ (fr:List Str)(AN:List V)(i:Nat)(x:Str),Paired (fun (x:Str)(v:V)=>∃ c u,clos.lookup x=some c/\RelV v u/\base.IsCell c (some u)) fr AN->fr[i]? = some x->∃ v,AN[i]? = some v/\∃ c u,clos.lookup x=some c/\RelV v u/\base.IsCell c (some u):=by
   intro fr AN i x hp
   induction hp generalizing i with
   | nil=>intro e;simp at e
   | @cons a b _ _ r _ ih =>
    intro e
    cases i with
    | zero=>simp at e;subst e;exact⟨b,rfl,r⟩
    | succ i=>simpa using ih i (by simpa using e)
  obtain⟨v,hv,c2,u,h1,h2,h3⟩:=get fr AN i x C.at' J4
  rw[hx]at h1;cases h1
  exact⟨v,u,i,J4,hv,h2,h3⟩
 have D8:∀ c u,base.IsCell c (some u)->H c=none/\h1.IsCell c (some u):=fun c u Af=>by obtain⟨o,ho,hd⟩:=Af;exact⟨(e0.bs c o ho).2,o,hk _ _ (bk _ _ ho),hd⟩
 have I:Inv (Lv CX P w K mg base N qual scope f (.ref c') clos A outer s H E) [] ((vs ++ AN).map some) H { s with heap:=h1,toks:=s.toks + (ps.zip us).length }:=by
  refine⟨⟨e0.mod,S.kind,rfl,rfl,le_refl _,C.inj,fun y hy=>?_,fun y c h=>absurd h (by show ¬ (false=true);decide),fun _=>hr.hd,Around.frames_deeper e0.frames, .inr ⟨rfl,rfl⟩,fun b z=>absurd z (Ft b),e0.bs,e0.Ek,fun b _ _=>Ft b,fun b z=>absurd z (Ft b),e0.Bx,e0.EX⟩,
   rfl,e0.bare,Un.kept hk,⟨_,Jx,fun i y v h1 h2 h3=>?_⟩,fun y c h=>?_,e0.Aj.fresh (le_refl _),fun y c h=>?_,fun p hp=>absurd (show p ∈ ([]:List (Addr × Obj)) from hp) (by simp),e0.Aj.kept hk,?_⟩
  ·have hy:scope.names.lookup y=some .cell∨scope.names.lookup y=some .free:=hy
   rcases hy with hy | hy
   ·exact absurd rfl (S.BH _ (PySem.mem_of_lookup hy))
   ·have hm:=S.all _ (PySem.mem_of_lookup hy) rfl
    have:∀ (fr:List Str)(AN:List V),Paired (fun (x:Str)(v:V)=>∃ c u,clos.lookup x=some c/\RelV v u/\base.IsCell c (some u)) fr AN->y ∈ fr->∃ c,clos.lookup y=some c:=by
     intro fr AN hp
     induction hp with
     | nil=>intro h;cases h
     | cons r _ ih =>
      intro h
      rcases mem_cons.mp h with rfl | h
      ·obtain⟨c,_,e,_⟩:=r;exact⟨c,e⟩
      ·exact ih h
    exact this fr AN C.at' hm
  ·have h1:N[i]? = some y:=h1
   have h2:((vs ++ AN).map some)[i]? = some (some v):=h2
   rw[List.getElem?_map]at h2
   have h2:(vs ++ AN)[i]? = some v:=by
    cases q:(vs ++ AN)[i]? with
    | none=>rw[q]at h2;cases h2
    | some z=>rw[q]at h2;cases h2;rfl
   rw[S.pre]at h1
   by_cases hi:i < vs.length
   ·rw[List.getElem?_append_left hi]at h2
    rw[List.getElem?_append_left (by omega)]at h1
    obtain⟨u,hu,rv⟩:=r.get h2
    have OG:ps.Nodup:=(nodup_append.mp (S.pre ▸ S.nd)).1
    exact⟨u,rv, .inl ⟨S.par y (mem_of_getElem? h1),o0 OG h1 hu⟩⟩
   ·rw[List.getElem?_append_right (by omega)]at h2
    rw[List.getElem?_append_right (by omega),← hl]at h1
    have hyf:=mem_of_getElem? h1
    have:∀ (fr:List Str)(AN:List V)(j:Nat),Paired (fun (x:Str)(v:V)=>∃ c u,clos.lookup x=some c/\RelV v u/\base.IsCell c (some u)) fr AN->fr[j]? = some y->AN[j]? = some v->∃ c u,clos.lookup y=some c/\RelV v u/\base.IsCell c (some u):=by
     intro fr AN j hp
     induction hp generalizing j with
     | nil=>intro e;simp at e
     | cons r _ ih =>
      intro e1 e2
      cases j with
      | zero=>simp at e1 e2;subst e1;subst e2;exact r
      | succ j=>exact ih j (by simpa using e1) (by simpa using e2)
    obtain⟨c,u,hc,ru,BL⟩:=this fr AN _ C.at' h1 h2
    exact⟨u,ru, .inr ⟨.inr (S.free y hyf),c,hc,(D8 c u BL).2⟩⟩
  ·obtain⟨v,u,i,_,_,_,h4⟩:=cellAt y c h
   exact⟨_,(D8 c u h4).2⟩
  ·obtain⟨v,u,i,_,_,_,h4⟩:=cellAt y c h
   exact(D8 c u h4).1
  ·show((vs ++ AN).map some).length=N.length
   rw[length_map,length_append,S.pre,length_append,hl,Paired.length C.at']
 refine wpAny_mono (ht [] _ _ H _ I hq) (fun fl s' hs=>?_) fun e s' hs=>hs
 have fin:∀ {σ':St}{H':Hp}{v:V}{u:Value},Inv (Lv CX P w K mg base N qual scope f (.ref c') clos A outer s H E) [] σ' H' s'->RelV v u->Q v H'->CE outer P w H s Q u s' :=
  fun {σ' H' v u} J rv q=>⟨v,H',J.os,J.bare,J.base,J.Aj,rv,q⟩
 cases fl with
 | ret u =>
  obtain⟨v,σ',H',J,rv,q⟩:=hs
  exact fin J rv q
 | next =>
  obtain⟨σ',H',J,q⟩:=hs
  exact fin (v:=V.Av) (u:=Value.none) J rfl q
 | brk =>
  obtain⟨_,_,_,q⟩:=hs
  exact False.elim q
 | cont =>
  obtain⟨_,_,_,q⟩:=hs
  exact False.elim q
theorem OU.cap {X:Cx}{cs:List (Nat × Str)}{AN:List V}{Ar:Heap}{clos:List (Str × Addr)}(B:OU X cs AN Ar)(hc:cs.map (·.2)=clos.map (·.1))(hl:∀ q ∈ clos,X.env.cells.lookup q.1=some q.2):Lu Ar clos (clos.map (·.1)) AN:=by
 have look:∀ (l:List (Str × Addr))(x:Str)(c:Addr),(∀ q ∈ l,X.env.cells.lookup q.1=some q.2)->l.lookup x=some c->X.env.cells.lookup x=some c/\x ∈ l.map (·.1):=by
  intro l
  induction l with
  | nil=>intro x c _ h;cases h
  | cons p r ih =>
   intro x c hl h
   rw[lookup_cons]at h
   cases q:x == p.1 with
   | true=>rw[q]at h;cases h;rw[eq_of_beq q];exact⟨hl p mem_cons_self,mem_cons_self⟩
   | false =>
    rw[q]at h
    obtain⟨a,b⟩:=ih x c (fun z hz=>hl z (mem_cons_of_mem _ hz)) h
    exact⟨a,mem_cons_of_mem _ b⟩
 have has:∀ (l:List (Str × Addr))(x:Str),x ∈ l.map (·.1)->∃ c,l.lookup x=some c:=by
  intro l
  induction l with
  | nil=>intro x h;cases h
  | cons p r ih =>
   intro x h
   rw[lookup_cons]
   cases q:x == p.1 with
   | true=>exact⟨_,rfl⟩
   | false =>
    rcases mem_cons.mp h with e | h
    ·rw[e]at q;simp at q
    ·exact ih x h
 refine⟨?_,fun x c h=>(look clos x c hl h).2,fun x y c h1 h2=>B.inj x y c (look clos x c hl h1).1 (look clos y c hl h2).1⟩
 rw[← hc]
 have hs:∀ q ∈ cs,q.2 ∈ clos.map (·.1):=fun q hq=>hc ▸ mem_map_of_mem hq
 have key:∀ (cs:List (Nat × Str))(AN:List V),(∀ q ∈ cs,q.2 ∈ clos.map (·.1))->Paired (fun (q:Nat × Str)(v:V)=>∃ c u,X.env.cells.lookup q.2=some c/\RelV v u/\Ar.IsCell c (some u)) cs AN->Paired (fun (x:Str)(v:V)=>∃ c u,clos.lookup x=some c/\RelV v u/\Ar.IsCell c (some u)) (cs.map (·.2)) AN:=by
  intro cs AN hs hp
  induction hp with
  | nil=>exact .nil
  | @cons q v _ _ r _ ih =>
   refine .cons ?_ (ih fun z hz=>hs z (mem_cons_of_mem _ hz))
   obtain⟨c,u,e,ru,z⟩:=r
   obtain⟨c2,e2⟩:=has clos q.2 (hs q mem_cons_self)
   have:=(look clos q.2 c2 hl e2).1
   rw[e]at this;cases this
   exact⟨c,u,e2,ru,z⟩
 exact key cs AN hs B.cell
end L2
namespace L2
open PySem PySem.Spec PyProof.Rows
theorem AA.okC {P:Program}{w:World}{K:Frag}{mg:Str->Option Value}{base:Heap}{x qual:Str}{st:Stmt}{f:Addr}{fd:FuncData}{N ps:List Str}{k:Nat}{sp:Sp}(F:AA K x qual st f fd)(S:ao N ps (ah st))(len:∀ vs H Q E,sp vs H Q E->vs.length=ps.length)
  (Be:∀ (cdv:Value)(A:Around)(outer:List Env)(s:Shared)(H:Hp)(vs:List V)(Q:VK)(E:XK),fd.code=cdv->Al k (A.deeper (envOfC qual (ah st) s.heap.objs.size f cdv))->sp vs H Q E ->
   ∃ t,BK (iu aC P w K mg base N qual (ah st) f cdv A outer s H E).G6 (aE st) t/\t { nx:=fun _ H'=>Q .Av H',rt:=Q } (start N vs) H):Ac P w K mg base aC (k + 1) f fd ps sp:=by
 obtain⟨oc,od,kV,doc,pm,an,cdv,ct,CO,rfl,lk,BG⟩:=F.ex
 refine qm lk BG S len fun A outer s H vs Q E hr CC=>?_
 obtain⟨t,h,q⟩:=Be cdv A outer s H vs Q E rfl hr CC
 exact⟨t,h.G6,q⟩
theorem zG {P:Program}{w:World}{K:Frag}{mg:Str->Option Value}{base:Heap}{k:Nat}{f c':Addr}{name qual:Str}{params:Arguments}{body:List Stmt}{scope:Scope}{clos:List (Str × Addr)}{doc pm BB:Value}{oc:Obj}
  {N ps fr:List Str} {AN:List V} {sp:Sp} (lk:base.get? f=some (PySem.W.fnMade name qual params body scope clos doc pm c' BB)) (El:base.get? c' = some oc) (BG:jF oc qual) (S:jC N ps fr scope) (C:Lu base clos fr AN)
  (len:∀ vs H Q E,sp vs H Q E->vs.length=ps.length)
  (Be:∀ (A:Around)(outer:List Env)(s:Shared)(H:Hp)(vs:List V)(Q:VK)(E:XK),Al k (A.deeper (PySem.W.envX qual scope s.heap.objs.size f (.ref c') clos))->sp vs H Q E ->
   ∃ t,BK (Lv aC P w K mg base N qual scope f (.ref c') clos A outer s H E).G6 body t/\t { nx:=fun _ H'=>Q .Av H',rt:=Q } ((vs ++ AN).map some) H) :
  Ac P w K mg base aC (k + 1) f (PySem.W.fnX name qual params body scope clos .none .none doc pm none (.ref c') BB) ps sp :=
 zH lk El BG S C len fun A outer s H vs Q E hr CC=>by
  obtain⟨t,h,q⟩:=Be A outer s H vs Q E hr CC
  exact⟨t,h.G6,q⟩
theorem rg {P:Program}{w:World}{K:Frag}{mg mb:Str->Option Value}{CX:lD}{k:Nat}{fa a c Tb:Addr}{fd:FuncData}{x:Str}{sp:Sp}{s₁:Shared}{vs:List Value}{ns:List Int}{pT:Program}{loose:List Str}{mean:ExcName->Option Value}
  (T:PyProof.Rows.Top pT loose mean mg mb s₁.heap) (hT:PySem.W.CodeHd s₁.heap c Tb/\s₁.heap.get? Tb=some (PySem.W.tabObj #[])) (nK:PySem.W.noTabs K=true)
  (KX:K.In s₁.heap) (hg:s₁.gens = #[])
  (ha:s₁.heap.get? a=some { cls := .type "list",data := .seq vs.toArray }) (hi:IntsAre vs ns) (hl:ns.length <= sizeLine) (hr:Al k callerA)
  (F:∀ base:Heap,K.In base->base.Ns mainGlobals mg->Fi mg base c Tb->Ac P w K mg base CX k fa fd [x] sp) (Lw:∀ (s:Shared)(u:Value),BindsTo s fd ⟨[u],[]⟩ [(x,u)])
  (CC:∀ H:Hp,H Tb=some (.BE #[])->Ah K H a (ns.map V.int)->sp [.ref a] H (fun v _=>v = .bl true) fun _ _ _=>False)
  (Rp:∀ H e s',CX [] H s₁ (fun _ _ _=>False) e s'->False) :
  codeAny (model P w) callerA (.call (.ref fa) ⟨[.ref a],[]⟩) (fun r s'=>r = .ok (.ret (.bool true))/\OldK s₁.heap s'.heap/\s'.os=s₁.os/\AllBare s'.gens) s₁:=by
 have rv:=jM hi
 have Rq:=hi.length
 obtain⟨hC,Et⟩:=hT
 have Wu:a ≠ Tb:=fun e=>by rw[e,Et]at ha;cases ha
 have KT:K.lookup Tb=none:=by
  cases q:K.lookup Tb with
  | none=>rfl
  | some o =>
   have e:=KX _ _ q
   rw[Et]at e;cases e
   have h2:=all_eq_true.mp nK (Tb,_) (PySem.W.mem_of_lookupK q)
   exact absurd (show false=true from h2) Bool.false_ne_true
 have core:∀ H:Hp,H Tb=some (.BE #[])->(∀ b,b ≠ Tb->H b=none∨∃ o xs,H b=some (.BJ o (.lst xs)))->Ah K H a (ns.map V.int)->Bk P w H s₁.heap->(∀ b,H b ≠ none->b=a∨b=Tb)->(H a ≠ none->K.lookup a=none) ->
   codeAny (model P w) callerA (.call (.ref fa) ⟨[.ref a],[]⟩) (fun r s'=>r = .ok (.ret (.bool true))/\OldK s₁.heap s'.heap/\s'.os=s₁.os/\AllBare s'.gens) s₁:=by
  intro H Wv hO hS Aj hA hK
  have base_of:∀ {b:Addr}{o:Obj},s₁.heap.get? b=some o->H b=none->(jI s₁.heap H).get? b=some o:=fun e n=>uJ e n
  have Ww:∀ {b:Addr}{o:Obj},s₁.heap.get? b=some o->o.cls ≠ .type "list"->o.cls ≠ .none->H b=none:=fun {b o} e d1 d2=>by
   cases q:H b with
   | none=>rfl
   | some u =>
    rcases hA b (by rw[q];simp) with z | z
    ·subst z;rw[ha]at e;cases e;exact absurd rfl d1
    ·subst z;rw[Et]at e;cases e;exact absurd rfl d2
  have Ft:∀ {b:Addr}{o:Obj}{es:Array DictEntry}{ep:Nat},s₁.heap.get? b=some o->o.data = .dict es ep->H b=none:=fun {b o es ep} e d=>by
   cases q:H b with
   | none=>rfl
   | some u =>
    rcases hA b (by rw[q];simp) with z | z
    ·subst z;rw[ha]at e;cases e
     have d':Data.seq vs.toArray _=Data.dict es ep:=d
     cases d'
    ·subst z;rw[Et]at e;cases e;cases d
  have OX:∀ {b:Addr}{m:Str->Option Value},s₁.heap.Ns b m->(jI s₁.heap H).Ns b m:=fun {b m} ⟨o,es,ep,e,d,r⟩=>⟨o,es,ep,base_of e (Ft e d),d,r⟩
  have Wx:K.In (jI s₁.heap H):=fun b o e=>base_of (KX b o e) (by
   cases q:H b with
   | none=>rfl
   | some u =>
    rcases hA b (by rw[q];simp) with z | z
    ·subst z;rw[hK (by rw[q];simp)]at e;cases e
    ·subst z;rw[KT]at e;cases e)
  have hM:Mod K mg (jI s₁.heap H):=⟨Wx,OX T.g,⟨mb,OX T.b,T.builtins⟩,let ⟨mc,h1,h2⟩:=T.nolimit; ⟨mc,OX h1,h2⟩⟩
  have hN:Fi mg (jI s₁.heap H) c Tb:=by
   have gP:mainGlobals ≠ Tb:=fun q=>by
    obtain⟨o,es,ep,e,hd,_⟩:=T.g
    rw[q,Et]at e;cases e;cases hd
   obtain⟨bm,ob,b1,b2,b3,b4,b5,b6⟩:=T.bmain
   have Wz:ob.cls = .type "module":=b4
   refine⟨⟨bm,ob,b1,b2,fun q=>?_,fun q=>?_,base_of b3 (Ww b3 (by rw[Wz];simp) (by rw[Wz];simp)),b4,b5,b6⟩,?_,gP⟩
   ·obtain⟨o,es,ep,e,hd,_⟩:=T.g
    rw[q,e]at b3;cases b3;rw[hd]at b6;cases b6
   ·rw[q,Et]at b3;cases b3;cases b4
   ·obtain⟨o,vs',file,tf,flags,tg,inF,text,tt,e1,e2,r⟩:=hC
    exact⟨o,vs',file,tf,flags,tg,inF,text,tt,base_of e1 (Ww e1 (by rw[e2];simp) (by rw[e2];simp)),e2,r⟩
  have e0:CW P w K mg (jI s₁.heap H) callerA [] s₁ H:=⟨rfl,hM,fun b o e=>wH e,le_of_eq (rn _ _),trivial,fun b hb=>absurd (show b ∈ ([]:List Addr) from hb) (by simp),Aj, .of_eq hg⟩
  refine codeAny_mono ((F _ Wx (OX T.g) hN).run callerA [] s₁ H ⟨[.ref a],[]⟩ [.ref a] [.ref a] _ _ hr e0 (Lw s₁ (.ref a)) (.cons rfl .nil) (CC H Wv hS)) fun r s' h=>?_
  cases r with
  | error e=>exact(Rp H e s' h).elim
  | ok fl =>
   cases fl with
   | next=>exact False.elim h
   | brk=>exact False.elim h
   | cont=>exact False.elim h
   | ret u =>
    obtain⟨v,H',os,bare,un,Lx,r',q⟩:=h
    have q':v = .bl true:=q
    subst q'
    obtain rfl:u=Value.bool true:=r'
    have keep:∀ b o,b ≠ Tb->s₁.heap.get? b=some o->s'.heap.get? b=some o:=fun b o nb e=>by
     cases q:H b with
     | none=>exact un.keep b o e q (by intro z;exact absurd (show b ∈ ([]:List Addr) from z) (by simp)) (by simp)
     | some u =>
      rcases hO b nb with z | ⟨ob,xs,z⟩
      ·rw[q]at z;cases z
      ·have z2:=un.BR b ob _ z
       obtain⟨e1,_⟩:=Aj b _ z
       obtain⟨e2,_⟩:=Lx b _ z2
       rw[e]at e1;cases e1
       exact e2
    obtain⟨more,hm⟩:=un.BS Tb _ Wv
    have gm:s'.heap.get? Tb=some (PySem.W.tabObj (#[] ++ more)):=Lx Tb _ hm
    refine⟨rfl,⟨fun b o e=>?_,fun b o e=>?_⟩,os,bare⟩
    ·by_cases hb:b=Tb
     ·subst hb;rw[Et]at e;cases e
      exact .inr (.inl ⟨(hC.tab Et).isCodeTable,rfl,#[],more,rfl,gm⟩)
     ·exact .inl (keep b o hb e)
    ·by_cases hb:b=Tb
     ·subst hb;exact⟨_,gm⟩
     ·exact⟨o,keep b o hb e⟩
 cases hk:K.lookup a with
 | some o =>
  have e:=KX a o hk
  rw[ha]at e
  cases e
  refine core (fun b=>if b=Tb then some (.BE #[]) else none) (if_pos rfl) (fun b nb => .inl (if_neg nb)) (.inr ⟨_,vs.toArray,_,hk,rfl,rfl,rfl,by rw[size_toArray,Rq];exact hl,by simpa using rv⟩) (fun b u z=>?_) (fun b z=>?_) fun z=>absurd (if_neg Wu) z
  ·by_cases hb:b=Tb
   ·have z':=(if_pos hb).symm.trans z
    cases z'
    subst hb
    exact Et
   ·have z':=(if_neg hb).symm.trans z
    cases z'
  ·by_cases hb:b=Tb
   ·exact .inr hb
   ·exact absurd (if_neg hb) z
 | none =>
  refine core (fun b=>if b=Tb then some (.BE #[]) else if b=a then some (.BJ { cls := .type "list",data := .seq vs.toArray } (.lst (ns.map V.int))) else none) (if_pos rfl) (fun b nb=>?_) (.inl (.inr ⟨{ cls := .type "list",data := .seq vs.toArray },(if_neg Wu).trans (if_pos rfl)⟩)) (fun b u z=>?_) (fun b z=>?_) fun _=>hk
  ·by_cases hb:b=a
   ·exact .inr ⟨_,_,(if_neg nb).trans (if_pos hb)⟩
   ·exact .inl ((if_neg nb).trans (if_neg hb))
  ·by_cases hb:b=Tb
   ·have z':=(if_pos hb).symm.trans z
    cases z'
    subst hb
    exact Et
   ·have z:=(if_neg hb).symm.trans z
    by_cases hb:b=a
    ·have z':=(if_pos hb).symm.trans z
     cases z'
     subst hb
     exact⟨ha,by rw[length_map];exact hl,vs,_,rv,ha⟩
    ·have z':=(if_neg hb).symm.trans z
     cases z'
  ·by_cases hb:b=Tb
   ·exact .inr hb
   ·by_cases GJ:b=a
    ·exact .inl GJ
    ·exact absurd ((if_neg hb).trans (if_neg GJ)) z
theorem xQ {K:Frag}{x:Str}{f c Tb:Addr}{oc oT:Value}{od dT:Option Addr}{fd:FuncData}{CO sT:Array (Option Value)}{vT:Array Value}(a:nsIn K mainGlobals x=some (some (.ref f)))(l:K.lookup f=some ⟨oc,od, .func fd,CO⟩)(hc:fd.code = .ref c)(lc:K.lookup c=some ⟨oT,dT, .fields vT,sT⟩)(hv:vT[11]? = some (.ref Tb)) :
  PySem.W.tabIn K x=some (c,Tb):=by
 unfold PySem.W.tabIn
 rw[a];dsimp only;rw[l];dsimp only;rw[hc];dsimp only;rw[lc];dsimp only;rw[hv]
theorem EF {l:PySem.W.OpenLaw}{n k:Nat}{q:Program}{loose:List Str}{XP:(Str->Option Value)->Heap->Prop}{YP:World->Heap->Prop}{d dd:DefRec}{K:Params->Frag}{CX:World->lD}{sp:World->Addr->Sp}{x y:Str}
  (hn:l.most=some n) (En:n <= sizeLine) (KA:d.params.defaults=[]) (hr:Al k callerA)
  (hY:∀ (w:World)(h:Heap),YP w h->(K w.params).In h) (EE:(PyProof.Rows.recsOf q).find? (fun e=>e.name == y)=some dd) (GL:∀ p,PySem.W.noTabs (K p)=true)
  (F:∀ (w:World)(mg:Str->Option Value)(fa:Addr)(h:Heap),(K w.params).In h->h.Ns mainGlobals mg->mg d.name=some (.ref fa) ->
   ∃ (fd:FuncData)(c Tb:Addr),PySem.W.tabIn (K w.params) y=some (c,Tb)/\(∀ (s:Shared)(u:Value),BindsTo s fd ⟨[u],[]⟩ [(x,u)]) /\
    ∀ base:Heap,(K w.params).In base->base.Ns mainGlobals mg->Fi mg base c Tb->Ac l.prog w (K w.params) mg base (CX w) k fa fd [x] (sp w Tb))
  (CC:∀ (w:World)(H:Hp)(a:Addr)(ns:List Int)(Tb:Addr),ns.length <= n->H Tb=some (.BE #[])->Ah (K w.params) H a (ns.map V.int)->sp w Tb [.ref a] H (fun v _=>v = .bl true) fun _ _ _=>False)
  (Rp:∀ (w:World)(H:Hp)(s:Shared)(e:Value)(s':Shared),CX w [] H s (fun _ _ _=>False) e s'->False) :
  PySem.W.WalkO q loose XP YP l.row.toRowW d [] (fun f vs=>PySem.call f vs):=by
 refine VX.De hn KA fun w s₀ s₁ mg mb fa o pm cd doc a vs ns G Y ho hd BG hmg HZ hints hlen hg=>?_
 have KX:=hY w _ Y
 obtain⟨fd,c,Tb,Rr,hb,hF⟩:=F w mg fa _ KX G.T.g hmg
 exact rg G.T (PySem.W.tab_of G.T KX EE Rr) (GL _) KX hg HZ hints (le_trans hlen En) hr hF hb (fun H hO hS=>CC w H a ns Tb hlen hO hS) fun H e s'=>Rp w H s₁ e s'
end L2
namespace L2
open PySem
theorem bQ {J:It}{g:TG}{tt:TT}{te:TE}{σ0:St}{H:Hp}{Q:VK}(n:Nat)(hn:n < sizeLine)(W:Nat->List V->Hp->Prop)(h0:W 0 [] H)(hlen:∀ i acc H',W i acc H'->acc.length <= i)
  (turn:∀ i acc H',i < n->W i acc H'->J.go i H'/\∀ x H2,J.EY i H' x H2->g x σ0 H2 fun σ2 H3=>tt σ2 H3 fun b H4=>if b=true then te σ2 H4 fun y H5=>W (i + 1) (acc ++ [y]) H5 else W (i + 1) acc H4)
  (stop:∀ acc H',W n acc H'->J.stop n H'/\∀ D,H' D=none->Q (.ref D) (upd H' D (.lst acc))):dQ J g tt te σ0 Q H:=by
 refine⟨fun i m acc H'=>m=n - i/\i <= n/\W i acc H',⟨n,by simp,zero_le _,h0⟩,?_⟩
 rintro i m acc H' ⟨rfl,hi,w⟩
 refine⟨by have:=hlen i acc H' w;omega,?_⟩
 by_cases AX:i < n
 ·obtain⟨go,q⟩:=turn i acc H' AX w
  exact .inr ⟨go,fun Bf H2=>W (i + 1) Bf H2,fun Bf H2 w2=>⟨n - (i + 1),by omega,rfl,AX,w2⟩,q⟩
 ·have e:i=n:=by omega
  subst e
  exact .inl (stop acc H' w)
theorem Ab.new {H H':Hp}{a:Addr}{o:HO}(h:Ab H H')(n:H' a=none):Ab H (upd H' a o):=fun b u e=>by rw[ae (ag (h _ _ e) n)];exact h _ _ e
end L2
namespace L2
open PySem
theorem AG {N P:List Str}{sc:Scope}(a:sc.kind = .function:=by rfl)(b:sc.isCoroutine=false:=by rfl)(c:sc.isGenerator=false:=by rfl)(d:N.Nodup:=by decide +kernel)(e:N.take P.length=P:=by rfl)(f:∀ x ∈ P,sc.names.lookup x=some .local∨sc.names.lookup x=some .cell:=by decide +kernel)(g:∀ y ∈ sc.names,y.2 ≠ .free:=by decide +kernel):ao N P sc:=⟨a,b,c,d,e,f,g⟩
theorem Cu {N:List Str}{sc scope:Scope}{capN:List Str}{cap:List Nat}(a:scope.kind = .function:=by rfl)(b:∀ y ∈ scope.names,y.2 ≠ .cell:=by decide +kernel)(c:∀ y ∈ scope.names,y.2 = .local->scope.names.lookup y.1=some .local:=by decide +kernel)(d:∀ y ∈ scope.names,y.2 = .free->sc.names.lookup y.1=some .cell∨sc.names.lookup y.1=some .free:=by decide +kernel)(e:cap.length=capN.length:=by rfl)(f:∀ p ∈ capN.zip cap,scope.names.lookup p.1=some .free/\N[p.2]? = some p.1:=by decide +kernel):Bv N sc scope capN cap:=⟨a,b,c,d,e,f⟩
end L2
namespace K61
open PySem L2
variable {P:Program}{w:World}{K:Frag}{mg:Str->Option Value}{base:Heap}
noncomputable def bM (i:Nat):Stmt:=PySem.Challenge.pw_wormyard_k61_runs.main.body.getD i (.Pass ⟨0,0,0,0⟩)
noncomputable abbrev yw:Stmt:=bM 2
noncomputable abbrev OY:Stmt:=az (bM 6) 0
noncomputable abbrev OZ:Stmt:=az (bM 7) 0
noncomputable abbrev Pa:Stmt:=az (bM 8) 0
noncomputable abbrev vF:Stmt:=az (bM 13) 0
noncomputable abbrev fS:Stmt:=bM 17
noncomputable abbrev iH:Stmt:=bM 18
noncomputable abbrev yz:Stmt:=bM 19
noncomputable abbrev yr:Stmt:=bM 23
noncomputable abbrev vG:Stmt:=bM 26
noncomputable abbrev tj:Stmt:=bM 27
noncomputable abbrev yu:Stmt:=bM 28
noncomputable abbrev lT:Stmt:=bM 30
noncomputable abbrev Rt:Stmt:=bM 31
noncomputable abbrev y8:Stmt:=bM 35
noncomputable abbrev Ly:Stmt:=bM 36
noncomputable abbrev fT:Stmt:=bM 44
noncomputable abbrev sP:Stmt:=bM 45
noncomputable abbrev lQ:Stmt:=bM 46
noncomputable abbrev lS:Stmt:=az (bM 24) 0
noncomputable abbrev oh:Stmt:=az (bM 24) 1
noncomputable abbrev yB:Stmt:=az (bM 24) 2
noncomputable abbrev sX:Stmt:=az (bM 24) 3
noncomputable abbrev lR:Stmt:=az (bM 24) 4
noncomputable abbrev yt:Stmt:=az (bM 32) 0
noncomputable abbrev sS:Stmt:=az (bM 33) 0
noncomputable abbrev og:Stmt:=az (bM 33) 1
noncomputable abbrev sZ:Stmt:=az (bM 37) 0
noncomputable abbrev sQ:Stmt:=az (bM 37) 1
noncomputable abbrev y4:Stmt:=az (bM 39) 0
noncomputable abbrev sY:Stmt:=az (bM 39) 1
noncomputable abbrev yy:Stmt:=az (bM 39) 2
noncomputable abbrev ou:Stmt:=az (bM 39) 3
noncomputable abbrev sU:Stmt:=az (bM 39) 4
noncomputable abbrev oy:Stmt:=az (bM 39) 5
noncomputable abbrev y3:Stmt:=az (bM 39) 6
noncomputable abbrev y2:Stmt:=az (bM 39) 7
noncomputable abbrev tw:Stmt:=az (bM 47) 0
noncomputable abbrev tu:Stmt:=az (bM 47) 1
noncomputable abbrev ie:Stmt:=az (bM 48) 0
noncomputable abbrev gA:Stmt:=az (bM 48) 1
noncomputable abbrev oj:Stmt:=az (bM 48) 2
noncomputable abbrev lP:Stmt:=az (bM 48) 3
noncomputable abbrev lO:Stmt:=az (bM 48) 4
noncomputable abbrev oi:Stmt:=az (bM 48) 5
noncomputable abbrev kP:Stmt:=az (bM 48) 6
noncomputable abbrev gs:Stmt:=az (bM 48) 7
noncomputable abbrev tp:Stmt:=az (bM 48) 8
noncomputable abbrev Ru:Stmt:=az (bM 48) 9
noncomputable abbrev tD:Stmt:=az (bM 48) 10
noncomputable abbrev ow:Stmt:=az (bM 48) 11
noncomputable abbrev y6:Stmt:=az (bM 48) 12
noncomputable abbrev sW:Stmt:=az (bM 48) 13
noncomputable abbrev sV:Stmt:=az (bM 48) 14
noncomputable abbrev ot:Stmt:=az (bM 48) 16
noncomputable abbrev sR:Stmt:=az (bM 48) 18
noncomputable abbrev om:Stmt:=az (bM 48) 19
noncomputable abbrev kO:Stmt:=az (bM 48) 20
noncomputable abbrev t8:Stmt:=az (bM 48) 21
noncomputable abbrev tE:Stmt:=az (bM 48) 23
noncomputable abbrev oa:Stmt:=az (bM 48) 24
noncomputable abbrev pJ:Stmt:=bM 50
noncomputable abbrev y1:Stmt:=bM 51
noncomputable abbrev oq:Stmt:=bM 52
noncomputable abbrev jg:Stmt:=bM 53
noncomputable abbrev t7:Stmt:=bM 54
noncomputable abbrev oz:Stmt:=bM 55
noncomputable abbrev gB:Stmt:=bM 56
noncomputable abbrev kQ:Stmt:=bM 57
noncomputable abbrev dZ:Stmt:=bM 58
noncomputable abbrev yC:Stmt:=bM 59
noncomputable abbrev iB:Stmt:=bM 60
structure dE (mg:Str->Option Value):Prop where
 Iq:mg "isinstance" = none
 int:mg "int" = none
 bool:mg "bool" = none
 len:mg "len" = none
 enum:mg "enumerate" = none
 tuple:mg "tuple" = none
 range:mg "range" = none
 list:mg "list" = none
 all:mg "all" = none
 abs:mg "abs" = none
 str:mg "str" = none
 max:mg "max" = none
noncomputable def xp (H:Hp)(v:V)(p:Int × Int):Prop:=∃ t,v = .ref t/\H t=some (.tup [.int p.1, .int p.2])
noncomputable abbrev AB (H:Hp):List V->List (Int × Int)->Prop:=Paired (xp H)
theorem AB.same {H H':Hp}(h:Ab H H'):∀ {vs:List V}{ps:List (Int × Int)},AB H vs ps->AB H' vs ps:=fun Af=>by
 induction Af with
 | nil=>exact .nil
 | cons zz r ih=>obtain⟨t,e,q⟩:=zz;exact .cons ⟨t,e,h _ _ q⟩ ih
theorem AB.get {H:Hp}:∀ {vs:List V}{ps:List (Int × Int)}{i:Nat}{v:V},AB H vs ps->vs[i]? = some v->∃ p,ps[i]? = some p/\xp H v p:=by
 intro _ _ i _ Af
 induction Af generalizing i with
 | nil=>intro h;cases h
 | cons x r ih =>
  intro h
  cases i with
  | zero=>cases h;exact⟨_,rfl,x⟩
  | succ i=>exact ih (i:=i) h
theorem AB.F6 {H:Hp}:∀ {vs:List V}{ps:List (Int × Int)}{i:Nat}{p:Int × Int},AB H vs ps->ps[i]? = some p->∃ v,vs[i]? = some v/\xp H v p:=by
 intro _ _ i _ Af
 induction Af generalizing i with
 | nil=>intro h;cases h
 | cons x r ih =>
  intro h
  cases i with
  | zero=>cases h;exact⟨_,rfl,x⟩
  | succ i=>exact ih (i:=i) h
theorem AB.snoc {H:Hp}{v:V}{p:Int × Int}(h:xp H v p):∀ {vs:List V}{ps:List (Int × Int)},AB H vs ps->AB H (vs ++ [v]) (ps ++ [p]):=fun Af=>by
 induction Af with
 | nil=>exact .cons h .nil
 | cons q r ih=>exact .cons q ih
noncomputable def jp (n:Int)(p:Int × Int):Bool:=decide (0 <= p.1/\p.1 <= n - 1) && (decide (0 <= p.2/\p.2 <= n - 1) && !decide (p.1=p.2))
noncomputable def kJ:Sp:=fun vs H Q _=>∃ i:Int,vs=[.int i]/\Q (.bl true) H
noncomputable def ja:Sp:=fun vs H Q _=>∃ i a b:Int,vs=[.int i, .int a, .int b]/\Q (.bl (decide (a <= i/\i <= b))) H
noncomputable def rY:Sp:=fun vs H Q _=>∃ n a b:Int,vs=[.int n, .int a, .int b]/\Q (.bl (jp n (a,b))) H
theorem pI:ao ["value"] ["value"] (ah fS):=L2.AG
theorem mq {f:Addr}{fd:FuncData}(F:AA K "is_whole" "is_whole" fS f fd)(T:dE mg):Ac P w K mg base aC 1 f fd ["value"] kJ:=by
 refine F.ok pI (fun vs H Q E h=>?_) (fun cdv A outer s H vs Q E hr h=>?_)
 ·obtain⟨m,rfl,_⟩:=h
  rfl
 ·obtain⟨i,rfl,q⟩:=h
  refine⟨_,ai (ar (cY (av nc rfl T.Iq PyProof.Rows.boot_isinstance (aa (pv 0) (aa (eC (v := .ty "int") rfl T.int PySem.Pv.boot_int rfl) ad)))
   (cX (tR (av nc rfl T.Iq PyProof.Rows.boot_isinstance (aa (pv 0) (aa (eC (v := .ty "bool") rfl T.bool PySem.Pv.boot_bool rfl) ad))))))),?_⟩
  refine⟨_,rfl, .inl ⟨i,rfl,true,rfl,?_⟩⟩
  refine aK ?_
  exact⟨_,rfl, .inr (.inl ⟨i,rfl,false,rfl,q⟩)⟩
theorem lN:ao ["value", "least", "most"] ["value", "least", "most"] (ah iH):=L2.AG
theorem qR {f fh:Addr}{fd CP:FuncData}(F:AA K "is_within" "is_within" iH f fd)(T:dE mg)(mh:mg "is_whole" = some (.ref fh))(Fh:AA K "is_whole" "is_whole" fS fh CP)(bh:Binds K CP ["value"] []) :
  Ac P w K mg base aC 2 f fd ["value", "least", "most"] ja:=by
 have G:Ac P w K mg base aC 1 fh CP ["value"] kJ:=mq Fh T
 refine F.ok lN (fun vs H Q E h=>?_) (fun cdv A outer s H vs Q E hr h=>?_)
 ·obtain⟨i,a,b,rfl,_⟩:=h
  rfl
 ·obtain⟨i,a,b,rfl,q⟩:=h
  refine⟨_,ai (ar (cY (au G hr rfl mh Fh.kp bh .nil ap (aa (pv 0) ad)) (cX (mj pS pS (pv 1) (pv 0) (pv 2))))),?_⟩
  refine⟨_,rfl,i,rfl,true,rfl,aK ?_⟩
  refine⟨_,rfl,_,rfl,_,_,rfl,rfl,_,rfl,?_⟩
  by_cases h1:a <= i
  ·rw[decide_eq_true h1]
   refine aK ⟨_,rfl,_,_,rfl,rfl,?_⟩
   show Q (V.bl (decide (i <= b))) H
   by_cases h2:i <= b
   ·rw[decide_eq_true h2];rw[decide_eq_true ⟨h1,h2⟩]at q;exact q
   ·rw[decide_eq_false h2];rw[decide_eq_false fun z=>h2 z.2]at q;exact q
  ·rw[decide_eq_false h1]
   refine aI ?_
   rw[decide_eq_false fun z=>h1 z.1]at q;exact q
theorem GN:ao ["places", "one", "other", "last"] ["places", "one", "other"] (ah yr):=L2.AG
theorem yR {f fh:Addr}{fd CP:FuncData}(F:AA K "are_two_places" "are_two_places" yr f fd)(mh:mg "is_within" = some (.ref fh))(kh:keepIn K (.ref fh)=true)(bh:Binds K CP ["value", "least", "most"] [])
  (G:Ac P w K mg base aC 2 fh CP ["value", "least", "most"] ja) :
  Ac P w K mg base aC 3 f fd ["places", "one", "other"] rY:=by
 refine F.ok GN (fun vs H Q E h=>?_) (fun cdv A outer s H vs Q E hr h=>?_)
 ·obtain⟨i,a,b,rfl,_⟩:=h
  rfl
 ·obtain⟨n,a,b,rfl,q⟩:=h
  refine⟨_,af (aA (i:=3) GN.nd rfl (Or.inl rfl) (aG cx (pv 0) aj))
   (ai (ar (cY (au G hr rfl mh kh bh .nil ap (aa (pv 1) (aa aj (aa (pv 3) ad))))
    (cY (au G hr rfl mh kh bh .nil ap (aa (pv 2) (aa aj (aa (pv 3) ad)))) (cX (c5 jS (pv 1) (pv 2) (aB _))))))),?_⟩
  refine⟨_,rfl,_,_,rfl,rfl,?_⟩
  refine⟨_,rfl,_,rfl,a,0,n - 1,rfl,_,rfl,?_⟩
  unfold jp at q
  dsimp only at q
  by_cases h1:0 <= a/\a <= n - 1
  ·rw[decide_eq_true h1]at q ⊢
   rw[Bool.true_and]at q
   refine aK ⟨_,rfl,_,rfl,b,0,n - 1,rfl,_,rfl,?_⟩
   by_cases h2:0 <= b/\b <= n - 1
   ·rw[decide_eq_true h2]at q ⊢
    rw[Bool.true_and]at q
    refine aK ⟨_,rfl,_,rfl,rfl,?_⟩
    have e:decide (V.int a=V.int b)=decide (a=b):=by
     by_cases h:a=b
     ·rw[h];simp
     ·rw[decide_eq_false h,decide_eq_false fun z=>h (by injection z)]
    show Q (V.bl (!decide (V.int a=V.int b))) H
    rw[e];exact q
   ·rw[decide_eq_false h2]at q ⊢
    exact aI q
  ·rw[decide_eq_false h1]at q ⊢
   exact aI q
end K61
namespace L2
open PySem
theorem il {H1:Hp}{e d:Addr}{o o' x:HO}(he:H1 e=none)(hd:upd H1 e o d=none) :
  Ab H1 (uW (upd (upd (upd H1 e o) d x) e o') e)/\(uW (upd (upd (upd H1 e o) d x) e o') e) d=some x/\(upd (upd (upd H1 e o) d x) e o') e=some o':=by
 have Dv:d ≠ e:=fun z=>by rw[z,ac]at hd;cases hd
 have hd1:H1 d=none:=by rw[ae Dv]at hd;exact hd
 refine⟨fun b u q=>?_,?_,ac⟩
 ·have Cv:b ≠ e:=ag q he
  have hbd:b ≠ d:=ag q hd1
  rw[dz Cv,ae Cv,ae hbd,ae Cv];exact q
 ·rw[dz Dv,ae Dv,ac]
end L2
namespace K61
open PySem L2
variable {P:Program}{w:World}{K:Frag}{mg:Str->Option Value}{base:Heap}
inductive Due | places | many (k:Nat) | AD (k:Nat) | good
noncomputable def nk (n:Int)(ps:List (Int × Int)):Option Nat:=ps.findIdx? fun p=>!jp n p
noncomputable def eZ (n:Int)(ps:List (Int × Int)):Due:=if decide (1 <= n/\n <= 12)=false then .places else if 40 < ps.length then .many ps.length else match nk n ps with | some k => .AD k | none => .good
structure Cs where
 np:Addr
 tm:Addr
 nr:Addr
 land:Addr
noncomputable def qD (K:Frag)(fld:Str):Sp:=fun vs H Q _=>∃ e C tt v,vs=[.ref e,v]/\H e=some (bH e C tt none)/\fV K C/\findIn K (.ref C) fld=some none/\∀ d,H d=none->Q .Av (upd (upd H d (.xd [(fld,v)])) e (bH e C tt (some d)))
noncomputable def cn (H:Hp)(c:Cs)(x dx t:Addr)(n:Int)(Ao:List V)(ps:List (Int × Int)):Prop:=H x=some (.ins c.land dx [("places", .int n),("lanes", .ref t)])/\H t=some (.tup Ao)/\AB H Ao ps
noncomputable def sE (K:Frag)(c:Cs):Sp:=fun vs H Q E=>∃ x dx n p Ap ps,vs=[.ref x, .int n, .ref p]/\H x=some (.ins c.land dx [])/\Ah K H p Ap/\AB H Ap ps/\Ap.length <= 1000 /\
 (eZ n ps = .places->∀ H',Ab H H'->E (.ref c.np) none H') /\
 (∀ k,eZ n ps = .many k->∀ H' d,Ab H H'->H' d=some (.xd [("many", .int k)])->E (.ref c.tm) (some d) H') /\
 (∀ k,eZ n ps = .AD k->∀ H' d,Ab H H'->H' d=some (.xd [("lane", .int k)])->E (.ref c.nr) (some d) H') /\
 (eZ n ps = .good->∀ H' t Ao,(∀ b o,b ≠ x->H b=some o->H' b=some o)->cn H' c x dx t n Ao ps->Q .Av H')
noncomputable def rQ (s:Stmt):Scope:=match s with
 | .Assign _ (.Call _ [.ListComp _ _ sc _] _ _) _=>sc
 | _=>{ kind := .function,names:=[],isGenerator:=false,isCoroutine:=false }
noncomputable def ji (s:Stmt):Scope:=match aE s with
 | .Return (some (.ListComp _ _ sc _)) _ :: _=>sc
 | _=>{ kind := .function,names:=[],isGenerator:=false,isCoroutine:=false }
noncomputable abbrev NI:List Str:=["self", "places", "lanes", "lane", "pair"]
structure Exc (K:Frag)(mg:Str->Option Value)(c:Cs)(f1 f2:Addr)(d1 d2:FuncData):Prop where
 mnp:mg "NoPlaces" = some (.ref c.np)
 W0:b7 K c.np none=true
 knp:keepIn K (.ref c.np)=true
 mtm:mg "TooMany" = some (.ref c.tm)
 W2:b7 K c.tm (some (.ref f1))=true
 ktm:keepIn K (.ref c.tm)=true
 ctm:fV K c.tm
 ntm:findIn K (.ref c.tm) "many" = some none
 itm:isFn K (.ref f1)=true
 Ftm:AA K "__init__" "TooMany.__init__" OY f1 d1
 btm:Binds K d1 ["self", "many"] []
 mnr:mg "NoRoad" = some (.ref c.nr)
 W3:b7 K c.nr (some (.ref f2))=true
 knr:keepIn K (.ref c.nr)=true
 cnr:fV K c.nr
 nnr:findIn K (.ref c.nr) "lane" = some none
 inr:isFn K (.ref f2)=true
 Fnr:AA K "__init__" "NoRoad.__init__" OZ f2 d2
 bnr:Binds K d2 ["self", "lane"] []
structure lC (K:Frag)(c:Cs):Prop where
 cl:C2 K c.land
 np:Aq K c.land "places"
 nl:Aq K c.land "lanes"
theorem jB {n:Int}{ps:List (Int × Int)}(h:∀ p ∈ ps,jp n p=true):nk n ps=none:=by
 unfold nk
 rw[List.findIdx?_eq_none_iff]
 intro p hp
 rw[h p hp];rfl
theorem oY {n:Int}{ps:List (Int × Int)}{i:Nat}{p:Int × Int}(h:∀ q ∈ ps.take i,jp n q=true)(hi:ps[i]? = some p)(hb:jp n p=false):nk n ps=some i:=by
 unfold nk
 rw[List.findIdx?_eq_some_iff_getElem]
 obtain⟨AX,e⟩:=List.getElem?_eq_some_iff.mp hi
 refine⟨AX,by rw[e,hb];rfl,fun j hj=>?_⟩
 have hm:ps[j]'(lt_trans hj AX) ∈ ps.take i:=List.mem_take_iff_getElem.mpr ⟨j,by omega,rfl⟩
 rw[h _ hm];simp
noncomputable def Off (x:Addr)(H H':Hp):Prop:=∀ b o,b ≠ x->H b=some o->H' b=some o
theorem Off.sq {K:Frag}{H H':Hp}{x p C dx:Addr}{fs:List (Str × V)}{xs:List V}(o:Off x H H')(hx:H x=some (.ins C dx fs))(h:Ah K H p xs):Ah K H' p xs:=by
 rcases h with (h | ⟨ob,h⟩) | h
 ·exact .inl (.inl (o _ _ (aU h hx (by intro z;cases z)) h))
 ·exact .inl (.inr ⟨ob,o _ _ (aU h hx (by intro z;cases z)) h⟩)
 ·exact .inr h
theorem Off.DL {H H':Hp}{x C dx:Addr}{fs:List (Str × V)}(o:Off x H H')(hx:H x=some (.ins C dx fs)):∀ {vs:List V}{ps:List (Int × Int)},AB H vs ps->AB H' vs ps:=fun Af=>by
 induction Af with
 | nil=>exact .nil
 | cons zz r ih=>obtain⟨t,e,q⟩:=zz;exact .cons ⟨t,e,o _ _ (aU q hx (by intro z;cases z)) q⟩ ih
theorem Off.same {H H1 H2:Hp}{x:Addr}(a:Off x H H1)(b:Ab H1 H2):Off x H H2:=fun c o n e=>b _ _ (a c o n e)
theorem Rv:ao ["self", "many"] ["self", "many"] (ah OY):=L2.AG
theorem Rx:ao ["self", "lane"] ["self", "lane"] (ah OZ):=L2.AG
theorem Lz {f:Addr}{fd:FuncData}(F:AA K "__init__" "TooMany.__init__" OY f fd):Ac P w K mg base aC 1 f fd ["self", "many"] (qD K "many"):=by
 refine F.ok Rv (fun vs H Q E h=>?_) (fun cdv A outer s H vs Q E hr h=>?_)
 ·obtain⟨e,C,tt,v,rfl,_⟩:=h
  rfl
 ·obtain⟨e,C,tt,v,rfl,h1,h2,h3,q⟩:=h
  refine⟨_,ai (kW (pv 0) (pv 1) rfl),?_⟩
  exact⟨_,rfl,_,rfl,e,C,tt,rfl,h1,h2,h3,q⟩
theorem L0 {f:Addr}{fd:FuncData}(F:AA K "__init__" "NoRoad.__init__" OZ f fd):Ac P w K mg base aC 1 f fd ["self", "lane"] (qD K "lane"):=by
 refine F.ok Rx (fun vs H Q E h=>?_) (fun cdv A outer s H vs Q E hr h=>?_)
 ·obtain⟨e,C,tt,v,rfl,_⟩:=h
  rfl
 ·obtain⟨e,C,tt,v,rfl,h1,h2,h3,q⟩:=h
  refine⟨_,ai (kW (pv 0) (pv 1) rfl),?_⟩
  exact⟨_,rfl,_,rfl,e,C,tt,rfl,h1,h2,h3,q⟩
theorem D9:ao NI ["self", "places", "lanes"] (ah lS):=L2.AG
theorem zO:Bv NI (ah lS) (rQ ((aE lS).getD 4 (.Pass ⟨0,0,0,0⟩))) [] []:=L2.Cu
theorem zm:(["pair"]:List Str).Nodup:=by decide +kernel
theorem wA {c:Cs}{f fw ft f1 f2:Addr}{fd dw dt d1 d2:FuncData}{t1 t2:Tok}(F:AA K "__init__" "Land.__init__" lS f fd)(T:dE mg)(L:lC K c)(X:Exc K mg c f1 f2 d1 d2)
  (mw:mg "is_within" = some (.ref fw)) (kw:keepIn K (.ref fw)=true) (bw:Binds K dw ["value", "least", "most"] []) (Gw:Ac P w K mg base aC 2 fw dw ["value", "least", "most"] ja)
  (mt:mg "are_two_places" = some (.ref ft)) (kt:keepIn K (.ref ft)=true) (bt:Binds K dt ["places", "one", "other"] []) (Gt:Ac P w K mg base aC 3 ft dt ["places", "one", "other"] rY)
  (mp:mg "MOST_PLACES" = some (.int 12 t1)) (ml:mg "MOST_LANES" = some (.int 40 t2)) :
  Ac P w K mg base (dR P w) 4 f fd ["self", "places", "lanes"] (sE K c):=by
 have Gm:Ac P w K mg base aC 1 f1 d1 ["self", "many"] (qD K "many"):=Lz X.Ftm
 have Gr:Ac P w K mg base aC 1 f2 d2 ["self", "lane"] (qD K "lane"):=L0 X.Fnr
 refine F.Fe D9 (fun vs H Q E h=>?_) (fun cdv A outer s H vs Q E hr h=>?_)
 ·obtain⟨x,dx,n,p,Ap,ps,rfl,_⟩:=h
  rfl
 ·obtain⟨x,dx,n,p,Ap,ps,rfl,hx,hp,hl,hlen,h1,h2,h3,h4⟩:=h
  have Bw:Al 2 _:=hr.mono (by decide)
  refine⟨_,af (aP (bS (bF (au Gw Bw rfl mw kw bw .nil ap (aa (pv 1) (aa aj (aa (eB (v := .int 12) rfl mp ⟨_,rfl⟩) ad))))))
    (ai (b9 rfl X.W0 aO (bY X.W0 X.knp rfl rfl X.mnp (aa b8 ad)))) aH)
   (af (aP (aw tZ (av aq rfl T.len PySem.boot_len (aa (pv 2) ad)) (eB (v := .int 40) rfl ml ⟨_,rfl⟩) (aB _))
    (ai (b9 rfl X.W2 aO (iI X.W2 X.itm X.ktm Gm Bw X.btm rfl X.mtm (aa (av aq rfl T.len PySem.boot_len (aa (pv 2) ad)) ad)))) aH)
   (af (bI pQ rfl (lW rfl T.enum (aa (pv 2) ad)) (jk rfl (bZ (ay (i:=3) D9.nd rfl (Or.inl rfl)) (bZ (ay (i:=4) D9.nd rfl (Or.inl rfl)) gH)))
    (ai (aP (bS (bF (au Gt hr rfl mt kt bt .nil ap (aa (pv 1) (aa (ax aF (pv 4) aj (fun _ _=>rfl)) (aa (ax aF (pv 4) aj (fun _ _=>rfl)) ad))))))
     (ai (b9 rfl X.W3 aO (iI X.W3 X.inr X.knr Gr Bw X.bnr rfl X.mnr (aa (pv 3) ad)))) aH)))
   (af (aT (pv 0) (pv 1) rfl)
   (ai (aT (pv 0) (aY dB rfl T.tuple PySem.Pv.boot_tuple (aa (bA (own:=["pair"]) (capN:=[]) (cap:=[]) zO rfl (cb (pv 2))
    (fun C s' H' fp=>⟨ay (i:=0) zm rfl (Or.inl rfl),ca,bJ (aa (ax (show oZ _ (kS K) from aF) (pv 0) aj (fun _ _=>rfl)) (aa (ax (show oZ _ (kS K) from aF) (pv 0) aj (fun _ _=>rfl)) ad))⟩)) ad)) rfl))))),?_⟩
  refine⟨_,rfl,n,1,12,rfl,_,rfl,?_⟩
  by_cases hn:1 <= n/\n <= 12
  rotate_left
  ·rw[decide_eq_false hn]
   refine aK ⟨by show 1 <= sizeLine;decide,?_⟩
   exact h1 (by unfold eZ;rw[if_pos (decide_eq_false hn)]) H (Ab.refl H)
  rw[decide_eq_true hn]
  refine aI ?_
  have EG:Ap.length=ps.length:=Paired.length hl
  refine⟨_,rfl,p,_,rfl, .inl hp,_,_,rfl,rfl,_,rfl,?_⟩
  by_cases hm:40 < ps.length
  ·rw[decide_eq_true (show (40:Int) < (Ap.length:Nat) by omega)]
   refine aK ⟨_,rfl,p,_,rfl, .inl hp,by show 1 <= sizeLine;decide,fun e tt he=>⟨e,_,tt,_,rfl,ac,X.ctm,X.ntm,fun d hd=>⟨rfl,?_⟩⟩⟩
   obtain⟨m1,m2,m3⟩:=il (o:=bH e c.tm tt none) (o':=bH e c.tm tt (some d)) (x := .xd [("many", .int (Ap.length:Nat))]) he hd
   refine⟨some d,m3,h2 ps.length ?_ _ d m1 (by rw[m2,EG])⟩
   unfold eZ
   rw[decide_eq_true hn,if_neg (by decide),if_pos hm]
  rw[decide_eq_false (show ¬ (40:Int) < (Ap.length:Nat) by omega)]
  refine aI ?_
  refine⟨_,rfl,p,rfl,⟨_,hp⟩,mP (sq:=fun H=>Ah K H p) (xs:=Ap) (fun i σ H2=>∃ a b:Option V,Ab H H2/\σ=[some (.ref x),some (.int n),some (.ref p),a,b]/\∀ q ∈ ps.take i,jp n q=true)
   ⟨none,none,Ab.refl H,rfl,fun q hq=>by simp at hq⟩ (fun i σ H2 _ Af=>by obtain⟨a,b,s2,_⟩:=Af;exact s2.seq hp) ?_ ?_⟩
  ·rintro i v q σ H2 hv ⟨a,b,s2,rfl,B1⟩ hq
   obtain⟨pr,hpr,t,rfl,ht⟩:=AB.get hl hv
   have s3:Ab H (upd H2 q (.tup [.int i, .ref t])):=s2.new hq
   refine⟨q,_,rfl,An.of ac,rfl,_,_,rfl,_,_,rfl,rfl,?_⟩
   have Fc:An K (upd H2 q (.tup [.int i, .ref t])) t [.int pr.1, .int pr.2]:=An.of (s3 _ _ ht)
   refine⟨_,rfl,_,rfl,t,_,0,_,rfl,rfl,Fc,ak (j:=0) rfl,?_⟩
   refine⟨_,rfl,t,_,1,_,rfl,rfl,Fc,ak (j:=1) rfl,n,pr.1,pr.2,rfl,_,rfl,?_⟩
   cases ho:jp n (pr.1,pr.2) with
   | true =>
    refine aI ⟨some (.int i),some (.ref t),s3,rfl,fun z hz=>?_⟩
    rw[take_succ,hpr]at hz
    rcases mem_append.mp hz with hz | hz
    ·exact B1 z hz
    ·have:z=pr:=by simpa using hz
     rw[this];exact ho
   | false =>
    refine aK ⟨_,rfl,by show 1 <= sizeLine;decide,fun e tt he=>⟨e,_,tt,_,rfl,ac,X.cnr,X.nnr,fun d hd=>⟨rfl,?_⟩⟩⟩
    obtain⟨m1,m2,m3⟩:=il (o:=bH e c.nr tt none) (o':=bH e c.nr tt (some d)) (x := .xd [("lane", .int i)]) he hd
    refine⟨some d,m3,h3 i ?_ _ d (s3.trans m1) m2⟩
    unfold eZ
    rw[decide_eq_true hn,if_neg (by decide),if_neg hm,oY B1 hpr ho]
  ·rintro σ H2 ⟨a,b,s2,rfl,B1⟩
   have L1:eZ n ps = .good:=by
    unfold eZ
    rw[decide_eq_true hn,if_neg (by decide),if_neg hm,jB (fun z hz=>B1 z (by rw[EG,take_length];exact hz))]
   have Fj:=s2 _ _ hx
   refine⟨_,rfl,_,rfl,x,c.land,dx,_,rfl,Fj,L.cl,L.np,by show 0 < 1000;decide,?_⟩
   generalize W4:upd H2 x (.ins c.land dx (aJ "places" (.int n) []))=H3
   have o3:Off x H H3:=fun b o hb e=>by rw[← W4,ae hb];exact s2 _ _ e
   have x3:H3 x=some (.ins c.land dx [("places", .int n)]):=by rw[← W4,ac];rfl
   have l3:AB H3 Ap ps:=o3.DL hx hl
   have p3:Ah K H3 p Ap:=o3.sq hx hp
   refine⟨_,rfl,p,rfl,⟨_,p3⟩,bQ Ap.length (by rw[sizeLine_eq];omega) (fun i acc H4=>Ab H3 H4/\acc.length=i/\AB H4 acc (ps.take i)) ⟨Ab.refl _,rfl, .nil⟩ (fun i acc H4 h=>le_of_eq h.2.1) ?_ ?_⟩
   ·rintro i acc H4 hi ⟨s4,ha,hA⟩
    have q4:=s4.seq p3
    refine⟨⟨Ap,Ap[i],q4,by simp[hi]⟩,fun y H5 ⟨e5,hy⟩=>?_⟩
    subst e5
    have hy:=hy Ap q4
    obtain⟨pr,hpr,t,rfl,ht⟩:=AB.get l3 hy
    have Fc:An K H5 t [.int pr.1, .int pr.2]:=An.of (s4 _ _ ht)
    refine⟨_,rfl,t,_,0,_,rfl,rfl,Fc,ak (j:=0) rfl,?_⟩
    refine⟨_,rfl,t,_,1,_,rfl,rfl,Fc,ak (j:=1) rfl,by show 2 <= sizeLine;decide,fun r G7=>?_⟩
    refine⟨s4.new G7,by rw[length_append,ha];rfl,?_⟩
    rw[take_succ,hpr]
    exact AB.snoc ⟨r,rfl,ac⟩ (AB.same (Ab.new (Ab.refl _) G7) hA)
   ·rintro acc H4 ⟨s4,ha,hA⟩
    have q4:=s4.seq p3
    refine⟨⟨Ap,q4,le_refl _⟩,fun D hD=>?_⟩
    have s5:Ab H3 (upd H4 D (.lst acc)):=s4.new hD
    refine⟨D,acc,rfl, .inl ⟨Ah.of ac,fun t ht=>?_⟩⟩
    have s6:Ab H3 (upd (upd H4 D (.lst acc)) t (.tup acc)):=s5.new ht
    have x6:=s6 _ _ x3
    refine⟨_,rfl,x,c.land,dx,_,rfl,x6,L.cl,L.nl,by show 1 < 1000;decide,?_⟩
    have htx:t ≠ x:=fun z=>by rw[z,s5 _ _ x3]at ht;cases ht
    refine h4 L1 _ t acc (fun b o hb e=>?_) ⟨by rw[ac];rfl,by rw[ae htx,ac],?_⟩
    ·rw[ae hb];exact s6 _ _ (o3 b o hb e)
    ·have hA':AB H4 acc ps:=by rw[EG,take_length]at hA;exact hA
     have x4:=s4 _ _ x3
     have hA6:AB (upd (upd H4 D (.lst acc)) t (.tup acc)) acc ps:=AB.same (Ab.new (Ab.new (Ab.refl _) hD) ht) hA'
     exact Off.DL (x:=x) (fun b o hb e=>by rw[ae hb];exact e) x6 hA6
noncomputable def jx (sel:Int × Int->Int)(ps:List (Int × Int))(pl:Int)(m:Nat):List V:=((List.range m).filter fun k=>decide (sel (ps.getD k (0,0))=pl)).map fun k:Nat=>V.int k
noncomputable def qG (c:Cs)(sel:Int × Int->Int):Sp:=fun vs H Q _=>∃ (x dx t:Addr)(n:Int)(Ao:List V)(ps:List (Int × Int))(pl:Int),vs=[.ref x, .int pl]/\cn H c x dx t n Ao ps/\ps.length <= 1000 /\
 ∀ H' D,Ab H H'->H' D=none->Q (.ref D) (upd H' D (.lst (jx sel ps pl ps.length)))
theorem mJ {sel:Int × Int->Int}{ps:List (Int × Int)}{pl:Int}{i:Nat}{pr:Int × Int}(h:ps[i]? = some pr):jx sel ps pl (i + 1)=if decide (sel pr=pl) then jx sel ps pl i ++ [V.int i] else jx sel ps pl i:=by
 have e:ps.getD i (0,0)=pr:=by rw[getD_eq_getElem?_getD,h];rfl
 unfold jx
 rw[range_succ,filter_append]
 by_cases hs:sel pr=pl
 ·rw[if_pos (decide_eq_true hs),List.filter_cons_of_pos (by rw[e];exact decide_eq_true hs)];simp
 ·rw[if_neg (by rw[decide_eq_false hs];decide),List.filter_cons_of_neg (by rw[e,decide_eq_false hs];decide)];simp
theorem qe {sel:Int × Int->Int}{ps:List (Int × Int)}{pl:Int}{i:Nat}:(jx sel ps pl i).length <= i:=by
 unfold jx
 rw[length_map]
 have:=length_filter_le (fun k=>decide (sel (ps.getD k (0,0))=pl)) (List.range i)
 rwa [length_range]at this
theorem L4:ao ["self", "place"] ["self", "place"] (ah sX):=L2.AG
theorem L5:Bv ["self", "place"] (ah sX) (ji sX) ["place"] [1]:=L2.Cu
theorem yq:ao ["self", "place"] ["self", "place"] (ah lR):=L2.AG
theorem zN:Bv ["self", "place"] (ah lR) (ji lR) ["place"] [1]:=L2.Cu
theorem pY:(["lane", "pair", "place"]:List Str).Nodup:=by decide +kernel
theorem fU (a b:Int):decide (V.int a=V.int b)=decide (a=b):=by
 by_cases h:a=b
 ·rw[h];simp
 ·rw[decide_eq_false h,decide_eq_false fun z=>h (by injection z)]
theorem uh {c:Cs}{f:Addr}{fd:FuncData}(F:AA K "out_of" "Land.out_of" sX f fd)(T:dE mg)(L:lC K c):Ac P w K mg base aC 1 f fd ["self", "place"] (qG c Prod.fst):=by
 refine F.ok L4 (fun vs H Q E h=>?_) (fun cdv A outer s H vs Q E hr h=>?_)
 ·obtain⟨x,dx,t,n,Ao,ps,pl,rfl,_⟩:=h
  rfl
 ·obtain⟨x,dx,t,n,Ao,ps,pl,rfl,⟨hx,ht,hl⟩,hlen,q⟩:=h
  refine⟨_,ai (ar (bA (own:=["lane", "pair"]) (capN:=["place"]) (cap:=[1]) L5 rfl (lV rfl T.enum (aa (al (pv 0) rfl) ad))
   (fun C s' H' fp=>⟨(show PG _ _ (zF K 2 _) from jk rfl (bZ (ay (i:=0) pY rfl (Or.inl rfl)) (bZ (ay (i:=1) pY rfl (Or.inl rfl)) gH))),
    cr (aw bC (ax (show oZ _ (kS K) from aF) (pv 1) aj (fun _ _=>rfl)) (pv 2) (aB _)),pv 0⟩))),?_⟩
  have EG:Ao.length=ps.length:=Paired.length hl
  refine⟨_,rfl,x,c.land,dx,_,_,rfl,hx,L.cl,L.nl,rfl,t,rfl,⟨_,An.of ht⟩,bQ ps.length (by rw[sizeLine_eq];omega) (fun i acc H4=>Ab H H4/\acc=jx Prod.fst ps pl i) ⟨Ab.refl _,rfl⟩ (fun i acc H4 h=>by rw[h.2];exact qe) ?_ ?_⟩
  ·rintro i acc H4 hi ⟨s4,rfl⟩
   have q4:An K H4 t Ao:=An.of (s4 _ _ ht)
   refine⟨⟨Ao,Ao[i]'(by omega),q4,by simp[EG,hi]⟩,fun y H5 ⟨r,Dn,ey,h5⟩=>?_⟩
   obtain⟨v,hv,rfl⟩:=h5 Ao q4
   subst ey
   obtain⟨pr,hpr,u,rfl,hu⟩:=AB.get hl hv
   have s5:Ab H (upd H4 r (.tup [.int i, .ref u])):=s4.new Dn
   refine⟨r,_,rfl,An.of ac,rfl,_,_,rfl,_,_,rfl,rfl,?_⟩
   refine⟨_,rfl,u,_,0,_,rfl,rfl,An.of (s5 _ _ hu),ak (j:=0) rfl,_,rfl,rfl,_,rfl,?_⟩
   rw[fU,mJ hpr]
   cases hd:decide (pr.1=pl) with
   | true=>exact aK ⟨_,rfl,s5,by simp[hd]⟩
   | false=>exact aI ⟨s5,by simp[hd]⟩
  ·rintro acc H4 ⟨s4,rfl⟩
   exact⟨⟨Ao,An.of (s4 _ _ ht),EG⟩,fun D hD=>q H4 D s4 hD⟩
theorem pU {c:Cs}{f:Addr}{fd:FuncData}(F:AA K "into" "Land.into" lR f fd)(T:dE mg)(L:lC K c):Ac P w K mg base aC 1 f fd ["self", "place"] (qG c Prod.snd):=by
 refine F.ok yq (fun vs H Q E h=>?_) (fun cdv A outer s H vs Q E hr h=>?_)
 ·obtain⟨x,dx,t,n,Ao,ps,pl,rfl,_⟩:=h
  rfl
 ·obtain⟨x,dx,t,n,Ao,ps,pl,rfl,⟨hx,ht,hl⟩,hlen,q⟩:=h
  refine⟨_,ai (ar (bA (own:=["lane", "pair"]) (capN:=["place"]) (cap:=[1]) zN rfl (lV rfl T.enum (aa (al (pv 0) rfl) ad))
   (fun C s' H' fp=>⟨(show PG _ _ (zF K 2 _) from jk rfl (bZ (ay (i:=0) pY rfl (Or.inl rfl)) (bZ (ay (i:=1) pY rfl (Or.inl rfl)) gH))),
    cr (aw bC (ax (show oZ _ (kS K) from aF) (pv 1) aj (fun _ _=>rfl)) (pv 2) (aB _)),pv 0⟩))),?_⟩
  have EG:Ao.length=ps.length:=Paired.length hl
  refine⟨_,rfl,x,c.land,dx,_,_,rfl,hx,L.cl,L.nl,rfl,t,rfl,⟨_,An.of ht⟩,bQ ps.length (by rw[sizeLine_eq];omega) (fun i acc H4=>Ab H H4/\acc=jx Prod.snd ps pl i) ⟨Ab.refl _,rfl⟩ (fun i acc H4 h=>by rw[h.2];exact qe) ?_ ?_⟩
  ·rintro i acc H4 hi ⟨s4,rfl⟩
   have q4:An K H4 t Ao:=An.of (s4 _ _ ht)
   refine⟨⟨Ao,Ao[i]'(by omega),q4,by simp[EG,hi]⟩,fun y H5 ⟨r,Dn,ey,h5⟩=>?_⟩
   obtain⟨v,hv,rfl⟩:=h5 Ao q4
   subst ey
   obtain⟨pr,hpr,u,rfl,hu⟩:=AB.get hl hv
   have s5:Ab H (upd H4 r (.tup [.int i, .ref u])):=s4.new Dn
   refine⟨r,_,rfl,An.of ac,rfl,_,_,rfl,_,_,rfl,rfl,?_⟩
   refine⟨_,rfl,u,_,1,_,rfl,rfl,An.of (s5 _ _ hu),ak (j:=1) rfl,_,rfl,rfl,_,rfl,?_⟩
   rw[fU,mJ hpr]
   cases hd:decide (pr.2=pl) with
   | true=>exact aK ⟨_,rfl,s5,by simp[hd]⟩
   | false=>exact aI ⟨s5,by simp[hd]⟩
  ·rintro acc H4 ⟨s4,rfl⟩
   exact⟨⟨Ao,An.of (s4 _ _ ht),EG⟩,fun D hD=>q H4 D s4 hD⟩
noncomputable def xD:Sp:=fun vs H Q _=>∃ m k:Nat,vs=[.int m, .int k]/\Q (.bl (m.testBit k)) H
noncomputable def wM (m:Nat):List V:=(Yd.D3 m (Builtin.Int.intBits (m:Int))).map fun k:Nat=>V.int k
noncomputable def su:Sp:=fun vs H Q _=>∃ m:Nat,vs=[.int m]/\m < 2 ^ 400/\∀ p,H p=none->Q (.ref p) (upd H p (.lst (wM m)))
noncomputable def sg (K:Frag):Sp:=fun vs H Q _=>∃ (a:Addr)(ks:List Nat),vs=[.ref a]/\Ah K H a (ks.map fun k:Nat=>V.int k)/\(∀ k ∈ ks,k <= 1000)/\Q (.int (Yd.AK ks 0:Nat)) H
theorem L6:ao ["some", "number"] ["some", "number"] (ah vG):=L2.AG
theorem zi {f:Addr}{fd:FuncData}(F:AA K "has" "has" vG f fd):Ac P w K mg base aC 1 f fd ["some", "number"] xD:=by
 refine F.ok L6 (fun vs H Q E h=>?_) (fun cdv A outer s H vs Q E hr h=>?_)
 ·obtain⟨m,k,rfl,_⟩:=h
  rfl
 ·obtain⟨m,k,rfl,q⟩:=h
  refine⟨_,ai (ar (cY (c5 xG (pv 1) aj (aB _)) (cX (c5 bC (aG ua (aG tX (pv 0) (pv 1)) aj) aj (aB _))))),?_⟩
  refine⟨_,rfl,_,_,rfl,rfl,_,rfl,?_⟩
  rw[decide_eq_true (show (0:Int) <= (k:Int) by omega)]
  refine aK ?_
  refine⟨_,rfl,_,rfl,_,_,rfl,rfl,(show (0:Int) <= (k:Int) by omega),_,_,rfl,rfl,rfl,?_⟩
  have e:decide (V.int (Builtin.bitAnd ((m:Int) / 2 ^ (k:Int).toNat) 1)=V.int 1)=m.testBit k:=by
   rw[toNat_natCast,← Yd.DH m k]
   by_cases h:Builtin.bitAnd ((m:Int) / 2 ^ k) 1=1
   ·rw[h];simp
   ·rw[decide_eq_false h,decide_eq_false fun z=>h (by injection z)]
  rw[e]
  exact q
theorem uy {ks:List Nat}{i:Nat}{x:V}(h:(ks.map fun k:Nat=>V.int k)[i]? = some x):∃ k,ks[i]? = some k/\x=V.int k:=by
 rw[List.getElem?_map]at h
 cases e:ks[i]? with
 | none=>rw[e]at h;cases h
 | some k=>rw[e]at h;exact⟨k,rfl,(Option.some.inj h).symm⟩
theorem DN:ao ["numbers", "some", "number"] ["numbers"] (ah yu):=L2.AG
theorem yT {f:Addr}{fd:FuncData}(F:AA K "set_of" "set_of" yu f fd):Ac P w K mg base aC 1 f fd ["numbers"] (sg K):=by
 refine F.ok DN (fun vs H Q E h=>?_) (fun cdv A outer s H vs Q E hr h=>?_)
 ·obtain⟨a,ks,rfl,_⟩:=h
  rfl
 ·obtain⟨a,ks,rfl,hS,hk,q⟩:=h
  refine⟨_,af (aA (i:=1) DN.nd rfl (Or.inl rfl) aj)
   (af (bI PassesOwn.never rfl (cb (pv 0)) (ay (i:=2) DN.nd rfl (Or.inl rfl))
    (ai (aA (i:=1) DN.nd rfl (Or.inl rfl) (aG Ks (pv 1) (aG yM aj (pv 2))))))
   (ai (ar (pv 1)))),?_⟩
  refine⟨_,rfl,a,rfl,⟨_,hS⟩,gR (K:=K) (a:=a) (xs:=ks.map fun k:Nat=>V.int k) (fun i σ H2=>∃ v:Option V,H2=H/\σ=[some (.ref a),some (.int (Yd.AK (ks.take i) 0:Nat)),v])
   ⟨none,rfl,rfl⟩ (fun i σ H2 _ Af=>by obtain⟨_,e,_⟩:=Af;rw[e];exact hS) ?_ ?_⟩
  ·rintro i x σ H2 hx ⟨v,rfl,rfl⟩
   obtain⟨k,ek,rfl⟩:=uy hx
   have Eu:=hk k (mem_of_getElem? ek)
   refine⟨_,rfl,_,rfl,_,_,rfl,rfl,⟨(show (0:Int) <= (k:Int) by omega),(show (k:Int) <= 1000000 by omega),(by decide)⟩,_,_,rfl,rfl,some (.int k),rfl,?_⟩
   have e:Builtin.bitOr ((Yd.AK (ks.take i) 0:Nat):Int) (1 * 2 ^ (k:Int).toNat)=((Yd.AK (ks.take (i + 1)) 0:Nat):Int):=by
    rw[take_succ,ek,toNat_natCast,Int.one_mul,show (2:Int) ^ k=((2 ^ k:Nat):Int) by rw[Int.natCast_pow];rfl,Yd.DW,Yd.E6]
    rfl
   show [some (V.ref a),some (V.int _),some (V.int k)]=_
   rw[e]
  ·rintro σ H2 ⟨v,rfl,rfl⟩
   refine⟨_,rfl,?_⟩
   rw[length_map,take_length]
   exact q
theorem L7:ao ["some"] ["some"] (ah tj):=L2.AG
theorem L8:(["number", "some"]:List Str).Nodup:=by decide +kernel
theorem L9:Bv ["some"] (ah tj) (ji tj) ["some"] [0]:=L2.Cu
theorem yZ {f fh:Addr}{fd CP:FuncData}(F:AA K "members" "members" tj f fd)(T:dE mg)(mh:mg "has" = some (.ref fh))(Fh:AA K "has" "has" vG fh CP)(bh:Binds K CP ["some", "number"] []):Ac P w K mg base aC 2 f fd ["some"] su:=by
 have G:Ac P w K mg base aC 1 fh CP ["some", "number"] xD:=zi Fh
 refine F.ok L7 (fun vs H Q E h=>?_) (fun cdv A outer s H vs Q E hr h=>?_)
 ·obtain⟨m,rfl,_⟩:=h
  rfl
 ·obtain⟨m,rfl,hm,q⟩:=h
  refine⟨_,ai (ar (bA (own:=["number"]) (capN:=["some"]) (cap:=[0]) L9 rfl
   (aM rfl T.range (aa (tV PySem.F.plainAttrs_int PySem.F.slot_int_bit_length PySem.F.type_int_bit_length wJ (pv 0)) ad))
   (fun C s' H' fp=>⟨ay (i:=0) L8 rfl (Or.inl rfl),cr (bF (au G hr rfl mh Fh.kp bh .nil ap (aa (pv 1) (aa (pv 0) ad)))),pv 0⟩))),?_⟩
  have hb:Builtin.Int.intBits (m:Int) <= 400:=Yd.bits_le hm
  refine⟨_,rfl,rfl,_,rfl,rfl,(Builtin.Int.intBits (m:Int):Nat),rfl,by omega,by omega,?_⟩
  rw[toNat_natCast]
  refine mX (fun k=>m.testBit k) (fun k=>V.int k) (by rw[sizeLine_eq];omega) (fun i acc N hi h=>?_) q
  refine⟨_,rfl,_,rfl,m,i,by simp,_,rfl,?_⟩
  cases e:m.testBit i with
  | true =>
   rw[e]at h
   refine aK ⟨_,rfl,?_⟩
   simpa using h
  | false =>
   rw[e]at h
   exact aI (by simpa using h)
noncomputable def iz (ks:List Nat):List Int:=ks.map fun k:Nat=>(k:Int)
theorem wS (ks:List Nat):(iz ks).map V.int=ks.map fun k:Nat=>V.int k:=by rw[iz,map_map];rfl
theorem wL (m:Nat):wM m=(iz (Yd.D3 m (Builtin.Int.intBits (m:Int)))).map V.int:=by rw[wS];rfl
theorem wR {ks:List Nat}(h:ks.Pairwise (· < ·)):(iz ks).Pairwise (· < ·):=by
 unfold iz
 rw[List.pairwise_map]
 exact h.imp fun z=>by omega
theorem Bu {ks:List Nat}{k:Int}:k ∈ iz ks↔∃ n ∈ ks,(n:Int)=k:=mem_map
theorem oC {ks:List Nat}{ms:List Int}(h1:ms.Pairwise (· < ·))(h2:∀ k,k ∈ ms↔k ∈ iz ks):iz (Yd.D3 (Yd.AK ks 0) (Builtin.Int.intBits ((Yd.AK ks 0:Nat):Int)))=ms:=by
 refine Yd.Dg (wR (Yd.DX _ _)) h1 fun k=>?_
 rw[h2 k,Bu,Bu]
 constructor
 ·rintro⟨n,hn,e⟩
  rw[Yd.Df (Yd.DG _),Yd.Bt]at hn
  exact⟨n,by simpa using hn,e⟩
 ·rintro⟨n,hn,e⟩
  refine⟨n,?_,e⟩
  rw[Yd.Df (Yd.DG _),Yd.Bt]
  simpa using hn
theorem sK {ks:List Nat}{b:Nat}(h:∀ k ∈ ks,k < b):Yd.AK ks 0 < 2 ^ b:=by
 rw[← Yd.Fx h]
 exact Yd.CF ks b
theorem qB {ks:List Nat}{k:Nat}:(Yd.AK ks 0).testBit k=decide ((k:Int) ∈ iz ks):=by
 rw[Yd.Bt,Nat.zero_testBit,Bool.false_or]
 congr 1
 refine propext ⟨fun h=>Bu.mpr ⟨k,h,rfl⟩,fun h=>?_⟩
 obtain⟨n,hn,e⟩:=Bu.mp h
 have:n=k:=by omega
 rw[← this]
 exact hn
structure Rw where
 p:Int
 g:Int
 c:Option Nat
 s:List Nat
noncomputable def aZ (r:Rw):fP:=[some r.p,some r.g,r.c.map fun k:Nat=>(k:Int)]
noncomputable def eG (sel:Int × Int->Int)(ps:List (Int × Int))(pl:Int):List Nat:=(List.range ps.length).filter fun k=>decide (sel (ps.getD k (0,0))=pl)
noncomputable def eJ (n:Int)(ps:List (Int × Int))(r:Rw):Bool :=
 jp n (r.p,r.g) && ((match r.c with | none=>true | some k=>decide (k ∈ eG Prod.snd ps r.p)) && r.s.all fun k=>decide (k ∈ eG Prod.fst ps r.p))
noncomputable def m5 (sel:Int × Int->Int)(ps:List (Int × Int))(pl:Int)(k:Nat):Bool:=decide (ps.length <= k) || !decide (sel (ps.getD k (0,0))=pl)
noncomputable def nj (n:Int)(ps:List (Int × Int))(ahead:List Rw)(r:Rw):Bool :=
 !jp n (r.p,r.g) || ((match r.c with | none=>false | some k=>m5 Prod.snd ps r.p k) || ((r.s.any fun k=>m5 Prod.fst ps r.p k) || ahead.any fun a=>decide (aZ a=aZ r)))
theorem qg {sel:Int × Int->Int}{ps:List (Int × Int)}{pl:Int}{k:Nat}:decide (k ∈ eG sel ps pl) = !m5 sel ps pl k:=by
 unfold eG m5
 by_cases h1:ps.length <= k
 ·rw[decide_eq_true h1,decide_eq_false]
  ·rfl
  ·intro z
   have:=mem_range.mp (mem_filter.mp z).1
   omega
 ·rw[decide_eq_false h1]
  by_cases h2:sel (ps.getD k (0,0))=pl
  ·rw[decide_eq_true h2,decide_eq_true]
   ·rfl
   ·exact mem_filter.mpr ⟨mem_range.mpr (by omega),decide_eq_true h2⟩
  ·rw[decide_eq_false h2,decide_eq_false]
   ·rfl
   ·intro z
    exact h2 (of_decide_eq_true (mem_filter.mp z).2)
theorem xi {l:List Nat}{f:Nat->Bool}:(l.all fun k=>!f k) = !(l.any f):=by
 induction l with
 | nil=>rfl
 | cons a l ih=>rw[all_cons,any_cons,ih,Bool.not_or]
theorem gU (n:Int)(ps:List (Int × Int))(ahead:List Rw)(r:Rw):nj n ps ahead r=(!eJ n ps r || ahead.any fun a=>decide (aZ a=aZ r)):=by
 unfold nj eJ
 have e:(r.s.all fun k=>decide (k ∈ eG Prod.fst ps r.p)) = !(r.s.any fun k=>m5 Prod.fst ps r.p k):=by
  rw[← xi]
  congr 1
  funext k
  exact qg
 rw[e]
 cases hc:r.c with
 | none =>
  dsimp only
  cases jp n (r.p,r.g)<;>cases (r.s.any fun k=>m5 Prod.fst ps r.p k)<;>cases (ahead.any fun a=>decide (aZ a=aZ r))<;>rfl
 | some k =>
  dsimp only
  rw[qg]
  cases jp n (r.p,r.g)<;>cases (m5 Prod.snd ps r.p k)<;>cases (r.s.any fun k=>m5 Prod.fst ps r.p k)<;>cases (ahead.any fun a=>decide (aZ a=aZ r))<;>rfl
noncomputable def cK (n:Int)(ps:List (Int × Int))(rs:List Rw)(m:Nat):Option Nat:=(List.range m).find? fun k=>nj n ps (rs.take k) (rs.getD k ⟨0,0,none,[]⟩)
theorem fN {n:Int}{ps:List (Int × Int)}{rs:List Rw}:∀ {m:Nat},(∀ k,k < m->nj n ps (rs.take k) (rs.getD k ⟨0,0,none,[]⟩)=false)->cK n ps rs m=none:=by
 intro m h
 unfold cK
 rw[List.find?_eq_none]
 intro k hk
 rw[h k (mem_range.mp hk)]
 decide
theorem jJ {n:Int}{ps:List (Int × Int)}{rs:List Rw}{m i:Nat}(hi:i < m)(h:∀ k,k < i->nj n ps (rs.take k) (rs.getD k ⟨0,0,none,[]⟩)=false)(hb:nj n ps (rs.take i) (rs.getD i ⟨0,0,none,[]⟩)=true):cK n ps rs m=some i:=by
 unfold cK
 rw[List.find?_range_eq_some]
 refine⟨hb,mem_range.mpr hi,fun j hj=>?_⟩
 rw[h j hj]
 rfl
noncomputable def dN (rs:List Rw)(k:fP):Option Rw:=rs.reverse.find? fun r=>decide (aZ r=k)
theorem oK {rs:List Rw}{r:Rw}{k:fP}:dN (rs ++ [r]) k=if k=aZ r then some r else dN rs k:=by
 unfold dN
 rw[List.reverse_append,List.reverse_singleton,List.singleton_append,List.find?_cons]
 by_cases h:aZ r=k
 ·rw[decide_eq_true h,if_pos h.symm]
 ·rw[decide_eq_false h,if_neg (Ne.symm h)]
theorem lm {rs:List Rw}{k:fP}:(dN rs k).isSome=rs.any fun r=>decide (aZ r=k):=by
 unfold dN
 rw[Bool.eq_iff_iff,List.find?_isSome,any_eq_true]
 exact⟨fun Af=>by obtain⟨x,hx,h⟩:=Af;exact⟨x,mem_reverse.mp hx,h⟩,fun Af=>by obtain⟨x,hx,h⟩:=Af;exact⟨x,mem_reverse.mpr hx,h⟩⟩
noncomputable def cV:Option Nat->V
 | none => .Av
 | some k => .int k
noncomputable def bL (ks:List Nat):List V:=ks.map fun k:Nat=>V.int k
noncomputable def Ir (H:Hp)(t l:Addr)(r:Rw):Prop:=H t=some (.tup [.int r.p, .int r.g,cV r.c, .ref l])/\H l=some (.lst (bL r.s))
noncomputable def Iu (H:Hp)(v:V)(r:Rw):Prop:=∃ t l,v = .ref t/\Ir H t l r
noncomputable abbrev DA (H:Hp):List V->List Rw->Prop:=Paired (Iu H)
theorem Ir.same {H H':Hp}{t l:Addr}{r:Rw}(h:Ab H H')(x:Ir H t l r):Ir H' t l r:=⟨h _ _ x.1,h _ _ x.2⟩
theorem Iu.same {H H':Hp}{v:V}{r:Rw}(h:Ab H H'):Iu H v r->Iu H' v r:=fun Af=>by obtain⟨t,l,e,x⟩:=Af;exact⟨t,l,e,x.same h⟩
theorem DA.imp {H H':Hp}(h:∀ v r,Iu H v r->Iu H' v r):∀ {vs:List V}{rs:List Rw},DA H vs rs->DA H' vs rs:=fun Af=>by
 induction Af with
 | nil=>exact .nil
 | cons x r ih=>exact .cons (h _ _ x) ih
theorem DA.same {H H':Hp}(h:Ab H H'){vs:List V}{rs:List Rw}(x:DA H vs rs):DA H' vs rs:=DA.imp (fun _ _ z=>z.same h) x
theorem DA.get {H:Hp}:∀ {vs:List V}{rs:List Rw}{i:Nat}{v:V},DA H vs rs->vs[i]? = some v->∃ r,rs[i]? = some r/\Iu H v r
 | _,_,_,_, .nil,e=>by simp at e
 | _,_,0,_, .cons x _,e=>by simp at e;subst e;exact⟨_,rfl,x⟩
 | _,_,i + 1,v, .cons _ t,e=>by
  obtain⟨r,h1,h2⟩:=DA.get (i:=i) (v:=v) t (by simpa using e)
  exact⟨r,by simpa using h1,h2⟩
theorem qd (r:Rw):(aZ r).map rK=[.int r.p, .int r.g,cV r.c]:=by
 cases r with
 | mk p g c s=>cases c<;>rfl
theorem oN {sel:Int × Int->Int}{ps:List (Int × Int)}{pl:Int}:jx sel ps pl ps.length=(iz (eG sel ps pl)).map V.int:=by rw[wS];rfl
theorem oM {k:Nat}{l:List Nat}:decide ((k:Int) ∈ iz l)=decide (k ∈ l):=by
 congr 1
 refine propext ⟨fun h=>?_,fun h=>Bu.mpr ⟨k,h,rfl⟩⟩
 obtain⟨n,hn,e⟩:=Bu.mp h
 have:n=k:=by omega
 rw[← this]
 exact hn
theorem qx (ks l:List Nat):((bL ks).filter fun _=>true).map (fun v=>match v with | .int i=>V.bl (decide (i ∈ iz l)) | _ => .Av)=(ks.map fun k=>decide (k ∈ l)).map V.bl:=by
 rw[List.filter_eq_self.mpr (fun _ _=>rfl)]
 unfold bL
 rw[map_map,map_map]
 refine List.map_congr_left fun k _=>?_
 show V.bl (decide ((k:Int) ∈ iz l))=V.bl (decide (k ∈ l))
 rw[oM]
theorem vc (ks:List Nat)(p:Nat->Bool):(ks.map p).all id=ks.all p:=by rw[all_map];rfl
noncomputable def xz (K:Frag):Sp:=fun vs H Q _=>∃ (i:Int)(p:Addr)(ns:List Int),vs=[.int i, .ref p]/\Ah K H p (ns.map V.int)/\Q (.bl (decide (i ∈ ns))) H
noncomputable def sH (c:Cs):Sp:=fun vs H Q _=>∃ (x dx lt t l:Addr)(n:Int)(Ao:List V)(ps:List (Int × Int))(r:Rw),vs=[.ref x, .ref t]/\cn H c x dx lt n Ao ps/\Ir H t l r/\ps.length <= 1000/\r.s.length <= 1000/\∀ H',Ab H H'->Q (.bl (eJ n ps r)) H'
structure LA (K:Frag)(c:Cs)(f3 f4:Addr)(d3 d4:FuncData):Prop where
 m3:bz K c.land "out_of" f3
 m4:bz K c.land "into" f4
 b3:Binds K d3 ["self", "place"] []
 b4:Binds K d4 ["self", "place"] []
noncomputable abbrev NF:List Str:=["land", "row", "place", "came", "begin_here"]
noncomputable def ve (s:Stmt):Scope:=match s with
 | .Return (some (.Call _ [.ListComp _ _ sc _] _ _)) _=>sc
 | _=>{ kind := .function,names:=[],isGenerator:=false,isCoroutine:=false }
theorem LB:ao ["value", "numbers"] ["value", "numbers"] (ah yz):=L2.AG
theorem yW {f fh:Addr}{fd CP:FuncData}(F:AA K "is_one_of" "is_one_of" yz f fd)(T:dE mg)(mh:mg "is_whole" = some (.ref fh))(Fh:AA K "is_whole" "is_whole" fS fh CP)(bh:Binds K CP ["value"] []) :
  Ac P w K mg base aC 2 f fd ["value", "numbers"] (xz K):=by
 have G:Ac P w K mg base aC 1 fh CP ["value"] kJ:=mq Fh T
 refine F.ok LB (fun vs H Q E h=>?_) (fun cdv A outer s H vs Q E hr h=>?_)
 ·obtain⟨i,p,ns,rfl,_⟩:=h
  rfl
 ·obtain⟨i,p,ns,rfl,hS,q⟩:=h
  refine⟨_,ai (ar (cY (au G hr rfl mh Fh.kp bh .nil ap (aa (pv 0) ad)) (cX (c5 qP (pv 0) (pv 1) (by with_unfolding_all rfl))))),?_⟩
  refine⟨_,rfl,i,rfl,true,rfl,aK ?_⟩
  refine⟨_,rfl,_,rfl,p,_,rfl, .inl hS,rfl,iq _,?_⟩
  show Q (V.bl (Jw (V.int i) (ns.map V.int))) H
  rw[ls]
  exact q
theorem CG:ao NF ["land", "row"] (ah lT):=L2.AG
theorem zP:Bv NF (ah lT) (ve ((aE lT).getD 5 (.Pass ⟨0,0,0,0⟩))) ["begin_here"] [4]:=L2.Cu
theorem zn:(["lane", "begin_here"]:List Str).Nodup:=by decide +kernel
theorem wD {c:Cs}{f ft fo f3 f4:Addr}{fd dt d1 d3 d4:FuncData}(F:AA K "row_fits" "row_fits" lT f fd)(T:dE mg)(L:lC K c)(M:LA K c f3 f4 d3 d4)
  (mt:mg "are_two_places" = some (.ref ft)) (kt:keepIn K (.ref ft)=true) (bt:Binds K dt ["places", "one", "other"] []) (Gt:Ac P w K mg base aC 3 ft dt ["places", "one", "other"] rY)
  (mo:mg "is_one_of" = some (.ref fo)) (ko:keepIn K (.ref fo)=true) (bo:Binds K d1 ["value", "numbers"] []) (Go:Ac P w K mg base aC 2 fo d1 ["value", "numbers"] (xz K))
  (G3:Ac P w K mg base aC 1 f3 d3 ["self", "place"] (qG c Prod.fst)) (G4:Ac P w K mg base aC 1 f4 d4 ["self", "place"] (qG c Prod.snd)) :
  Ac P w K mg base aC 4 f fd ["land", "row"] (sH c):=by
 refine F.ok CG (fun vs H Q E h=>?_) (fun cdv A outer s H vs Q E hr h=>?_)
 ·obtain⟨x,dx,lt,t,l,n,Ao,ps,r,rfl,_⟩:=h
  rfl
 ·obtain⟨x,dx,lt,t,l,n,Ao,ps,r,rfl,hL,hR,hlen,OR,q⟩:=h
  have Bb:Al 1 _:=hr.mono (by decide)
  have Bw:Al 2 _:=hr.mono (by decide)
  refine⟨_,af (aA (i:=2) CG.nd rfl (Or.inl rfl) (ax aF (pv 1) aj (fun _ _=>rfl)))
   (af (aA (i:=3) CG.nd rfl (Or.inl rfl) (ax aF (pv 1) aj (fun _ _=>rfl)))
   (af (aP (bS (bF (au Gt hr rfl mt kt bt .nil ap (aa (al (pv 0) rfl) (aa (pv 2) (aa (ax aF (pv 1) aj (fun _ _=>rfl)) ad)))))) (ai (ar jQ)) aH)
   (af (aP (PW.pt (kT (aw vZ (pv 3) cv (aB _)) (iJ (bS (bF (au Go Bw rfl mo ko bo .nil ap (aa (pv 3) (aa (aD (pv 0) L.cl M.m4 G4 Bb M.b4 .nil ap (aa (pv 2) ad)) ad)))))))) (ai (ar jQ)) aH)
   (af (aA (i:=4) CG.nd rfl (Or.inr rfl) (aD (pv 0) L.cl M.m3 G3 Bb M.b3 .nil ap (aa (pv 2) ad)))
   (ai (ar (av (jA rfl) rfl T.all PyProof.Rows.boot_all (aa (bA (own:=["lane"]) (capN:=["begin_here"]) (cap:=[4]) zP rfl (cb (ax aF (pv 1) aj (fun _ _=>rfl)))
    (fun C s' H' fp=>⟨ay (i:=0) zn rfl (Or.inl rfl),ca,au Go Bw rfl mo ko bo .nil ap (aa (pv 0) (aa (pv 1) ad))⟩)) ad)))))))),?_⟩
  obtain⟨hT,hl⟩:=hR
  have Ry:An K H t [.int r.p, .int r.g,cV r.c, .ref l]:=An.of hT
  refine⟨_,rfl,t,_,0,_,rfl,rfl,Ry,ak (j:=0) rfl,?_⟩
  refine⟨_,rfl,t,_,2,_,rfl,rfl,Ry,ak (j:=2) rfl,?_⟩
  refine⟨_,rfl,x,c.land,dx,_,_,rfl,hL.1,L.cl,L.np,rfl,_,rfl,_,rfl,t,_,1,_,rfl,rfl,Ry,ak (j:=1) rfl,n,r.p,r.g,rfl,_,rfl,?_⟩
  cases ho:jp n (r.p,r.g) with
  | false =>
   have e:eJ n ps r=false:=by unfold eJ;rw[ho];rfl
   refine aK ?_
   have:=q H (Ab.refl H)
   rw[e]at this
   exact this
  | true =>
   refine aI ?_
   cases hc:r.c with
   | none =>
    refine⟨_,rfl,rfl,_,rfl,aI (aI ?_)⟩
    have s1:=Ab.refl H
    have e1:eJ n ps r=r.s.all fun k=>decide (k ∈ eG Prod.fst ps r.p):=by unfold eJ;rw[ho,hc];rfl
    refine⟨_,rfl,x,dx,_,rfl,s1 _ _ hL.1,rfl,_,rfl,x,dx,lt,n,Ao,ps,r.p,rfl,⟨s1 _ _ hL.1,s1 _ _ hL.2.1,AB.same s1 hL.2.2⟩,hlen,fun H2 D2 s2 Ck=>?_⟩
    have s3:=(s1.trans s2).new (o := .lst (jx Prod.fst ps r.p ps.length)) Ck
    have g2:(upd H2 D2 (.lst (jx Prod.fst ps r.p ps.length))) D2=some (.lst (jx Prod.fst ps r.p ps.length)):=ac
    generalize upd H2 D2 (.lst (jx Prod.fst ps r.p ps.length))=H3 at s3 g2 ⊢
    refine⟨_,rfl,t,_,3,_,rfl,rfl,An.of (s3 _ _ hT),ak (j:=3) rfl,l,rfl,⟨_,Ah.of (s3 _ _ hl)⟩,?_⟩
    refine fj (xs:=bL r.s) (fun _=>true) (fun v=>match v with | .int i => .bl (decide (i ∈ iz (eG Prod.fst ps r.p))) | _ => .Av) (by rw[sizeLine_eq];simp only[bL,length_map];omega) (Ah.of (s3 _ _ hl)) (fun y acc N hy h=>?_) (fun D hD=>?_)
    ·obtain⟨k',_,rfl⟩:=mem_map.mp hy
     exact⟨_,rfl,_,rfl,(k':Int),D2,iz (eG Prod.fst ps r.p),rfl,by rw[← oN];exact Ah.of g2,by simpa using h⟩
    ·rw[qx]
     refine⟨D,r.s.map fun k=>decide (k ∈ eG Prod.fst ps r.p),rfl,Ah.of ac,?_⟩
     have:=q _ (s3.new (o := .lst ((r.s.map fun k=>decide (k ∈ eG Prod.fst ps r.p)).map V.bl)) hD)
     rw[e1]at this
     rw[vc]
     exact this
   | some k =>
    refine⟨_,rfl,rfl,_,rfl,aK ?_⟩
    refine⟨_,rfl,_,rfl,x,dx,_,rfl,hL.1,rfl,_,rfl,x,dx,lt,n,Ao,ps,r.p,rfl,hL,hlen,fun H' D s' hD=>?_⟩
    have s1:=s'.new (o := .lst (jx Prod.snd ps r.p ps.length)) hD
    refine⟨(k:Int),D,iz (eG Prod.snd ps r.p),rfl,by rw[← oN];exact Ah.of ac,_,rfl,?_⟩
    rw[oM]
    cases hk:decide (k ∈ eG Prod.snd ps r.p) with
    | false =>
     refine aK ?_
     have e:eJ n ps r=false:=by unfold eJ;rw[ho,hc];dsimp only;rw[hk];rfl
     have:=q _ s1
     rw[e]at this
     exact this
    | true =>
     have e1:eJ n ps r=r.s.all fun k=>decide (k ∈ eG Prod.fst ps r.p):=by unfold eJ;rw[ho,hc];dsimp only;rw[hk];rfl
     refine aI ?_
     refine⟨_,rfl,x,dx,_,rfl,s1 _ _ hL.1,rfl,_,rfl,x,dx,lt,n,Ao,ps,r.p,rfl,⟨s1 _ _ hL.1,s1 _ _ hL.2.1,AB.same s1 hL.2.2⟩,hlen,fun H2 D2 s2 Ck=>?_⟩
     have s3:=(s1.trans s2).new (o := .lst (jx Prod.fst ps r.p ps.length)) Ck
     have g2:(upd H2 D2 (.lst (jx Prod.fst ps r.p ps.length))) D2=some (.lst (jx Prod.fst ps r.p ps.length)):=ac
     generalize upd H2 D2 (.lst (jx Prod.fst ps r.p ps.length))=H3 at s3 g2 ⊢
     refine⟨_,rfl,t,_,3,_,rfl,rfl,An.of (s3 _ _ hT),ak (j:=3) rfl,l,rfl,⟨_,Ah.of (s3 _ _ hl)⟩,?_⟩
     refine fj (xs:=bL r.s) (fun _=>true) (fun v=>match v with | .int i => .bl (decide (i ∈ iz (eG Prod.fst ps r.p))) | _ => .Av) (by rw[sizeLine_eq];simp only[bL,length_map];omega) (Ah.of (s3 _ _ hl)) (fun y acc N hy h=>?_) (fun D hD=>?_)
     ·obtain⟨k',_,rfl⟩:=mem_map.mp hy
      exact⟨_,rfl,_,rfl,(k':Int),D2,iz (eG Prod.fst ps r.p),rfl,by rw[← oN];exact Ah.of g2,by simpa using h⟩
     ·rw[qx]
      refine⟨D,r.s.map fun k=>decide (k ∈ eG Prod.fst ps r.p),rfl,Ah.of ac,?_⟩
      have:=q _ (s3.new (o := .lst ((r.s.map fun k=>decide (k ∈ eG Prod.fst ps r.p)).map V.bl)) hD)
      rw[e1]at this
      rw[vc]
      exact this
structure Ts where
 tab:Addr
 told:Addr
 ne:Addr
noncomputable def sf (K:Frag):Sp:=fun vs H Q _=>∃ (x C dx:Addr)(lv:V),vs=[.ref x,lv]/\H x=some (.ins C dx [])/\C2 K C/\Aq K C "land"/\Q .Av (upd H x (.ins C dx [("land",lv)]))
noncomputable def sM (r:Rw):V := .int (Yd.AK r.s 0:Nat)
noncomputable def sd (P:Program)(w:World)(K:Frag)(c:Cs)(ts:Ts):Sp:=fun vs H Q E=>∃ (x dx lx AF lt p:Addr)(n:Int)(Ao Aw:List V)(ps:List (Int × Int))(rs:List Rw),
 vs=[.ref x, .ref lx, .ref p]/\H x=some (.ins ts.told dx [])/\cn H c lx AF lt n Ao ps/\Ah K H p Aw/\DA H Aw rs/\Aw.length <= 100000/\ps.length <= 1000/\(∀ r ∈ rs,(∀ k ∈ r.s,k <= 1000)/\r.s.length <= 1000) /\
 (∀ i,cK n ps rs rs.length=some i->∀ H' d,Off x H H'->H' d=some (.xd [("row", .int i)])->E (.ref ts.ne) (some d) H') /\
 (cK n ps rs rs.length=none->∀ H' de kvs,Off x H H'->H' x=some (.ins ts.told dx [("land", .ref lx),("entries", .ref de)])->AW P w H' de kvs->(∀ k,bX kvs k=(dN rs k).map sM)->Q .Av H')
noncomputable def pi (P:Program)(w:World)(ts:Ts):Sp:=fun vs H Q _=>∃ (x dx de:Addr)(lv:V)(kvs:List dC)(r:Rw)(m:Nat),vs=[.ref x, .int r.p, .int r.g,cV r.c]/\H x=some (.ins ts.told dx [("land",lv),("entries", .ref de)])/\AW P w H de kvs /\
 (bX kvs (aZ r)).getD (.int 0) = .int m/\m < 2 ^ 400/\∀ H' D,Ab H H'->H' D=none->Q (.ref D) (upd H' D (.lst (wM m)))
structure Rz (K:Frag)(mg:Str->Option Value)(ts:Ts)(f1 f2:Addr)(d1 d2:FuncData):Prop where
 ct:C2 K ts.tab
 nt:Aq K ts.tab "land"
 cd:C2 K ts.told
 nd1:Aq K ts.told "land"
 Pb:Aq K ts.told "entries"
 mt:mg "Table" = some (.ref ts.tab)
 cm:vh K ts.tab "__init__" f1
 bt:Binds K d1 ["self", "land"] []
 mne:mg "NoEntry" = some (.ref ts.ne)
 W5:b7 K ts.ne (some (.ref f2))=true
 kne:keepIn K (.ref ts.ne)=true
 E2:fV K ts.ne
 W6:findIn K (.ref ts.ne) "row" = some none
 ine:isFn K (.ref f2)=true
 Fne:AA K "__init__" "NoEntry.__init__" Pa f2 d2
 bne:Binds K d2 ["self", "row"] []
noncomputable abbrev NT:List Str:=["self", "land", "rows", "number", "row", "key"]
theorem Off.land {H H':Hp}{x C dx:Addr}(o:Off x H H')(hx:H x=some (.ins C dx [])){c:Cs}{lx AF lt:Addr}{n:Int}{Ao:List V}{ps:List (Int × Int)}(h:cn H c lx AF lt n Ao ps):cn H' c lx AF lt n Ao ps :=
 ⟨o _ _ (aU h.1 hx (by intro z;cases z)) h.1,o _ _ (aU h.2.1 hx (by intro z;cases z)) h.2.1,o.DL hx h.2.2⟩
theorem R0:ao ["self", "row"] ["self", "row"] (ah Pa):=L2.AG
theorem LC {f:Addr}{fd:FuncData}(F:AA K "__init__" "NoEntry.__init__" Pa f fd):Ac P w K mg base aC 1 f fd ["self", "row"] (qD K "row"):=by
 refine F.ok R0 (fun vs H Q E h=>?_) (fun cdv A outer s H vs Q E hr h=>?_)
 ·obtain⟨e,C,tt,v,rfl,_⟩:=h
  rfl
 ·obtain⟨e,C,tt,v,rfl,h1,h2,h3,q⟩:=h
  refine⟨_,ai (kW (pv 0) (pv 1) rfl),?_⟩
  exact⟨_,rfl,_,rfl,e,C,tt,rfl,h1,h2,h3,q⟩
theorem LD:ao ["self", "land"] ["self", "land"] (ah yt):=L2.AG
theorem yS {f:Addr}{fd:FuncData}(F:AA K "__init__" "Table.__init__" yt f fd):Ac P w K mg base aC 1 f fd ["self", "land"] (sf K):=by
 refine F.ok LD (fun vs H Q E h=>?_) (fun cdv A outer s H vs Q E hr h=>?_)
 ·obtain⟨x,C,dx,lv,rfl,_⟩:=h
  rfl
 ·obtain⟨x,C,dx,lv,rfl,hx,hc,hn,q⟩:=h
  refine⟨_,ai (aT (pv 0) (pv 1) rfl),?_⟩
  exact⟨_,rfl,_,rfl,x,C,dx,_,rfl,hx,hc,hn,by show 0 < 1000;decide,q⟩
theorem vA:ao ["self", "place", "goal", "came"] ["self", "place", "goal", "came"] (ah og):=L2.AG
theorem ud {ts:Ts}{f fm f1 f2:Addr}{fd dm d1 d2:FuncData}(F:AA K "ways" "Told.ways" og f fd)(B:Rz K mg ts f1 f2 d1 d2)(mm:mg "members" = some (.ref fm))(km:keepIn K (.ref fm)=true)(bm:Binds K dm ["some"] [])
  (Gm:Ac P w K mg base aC 2 fm dm ["some"] su):Ac P w K mg base aC 3 f fd ["self", "place", "goal", "came"] (pi P w ts):=by
 refine F.ok vA (fun vs H Q E h=>?_) (fun cdv A outer s H vs Q E hr h=>?_)
 ·obtain⟨x,dx,de,lv,kvs,r,m,rfl,_⟩:=h
  rfl
 ·obtain⟨x,dx,de,lv,kvs,r,m,rfl,hx,hd,hv,hm,q⟩:=h
  have hu:=ki hr
  refine⟨_,ai (ar (au Gm hr rfl mm km bm .nil ap (aa (lY hu (al (pv 0) rfl) (aa (bJ (aa (pv 1) (aa (pv 2) (aa (pv 3) ad)))) (aa aj ad))) ad))),?_⟩
  refine⟨_,rfl,x,ts.told,dx,_,_,rfl,hx,B.cd,B.Pb,rfl,de,kvs,rfl,hd,?_⟩
  refine⟨_,rfl,_,rfl,_,rfl,by show 3 <= sizeLine;decide,fun t ht=>?_⟩
  have s1:Ab H (upd H t (.tup [.int r.p, .int r.g,cV r.c])):=(Ab.refl H).new ht
  refine⟨_,_,bX kvs (aZ r),rfl,⟨kvs,aZ r,t,hd.same s1,rfl,by rw[qd];exact ac,rfl⟩,?_⟩
  rw[hv]
  exact⟨m,rfl,hm,fun D hD=>q _ D s1 hD⟩
theorem CH:ao NT ["self", "land", "rows"] (ah sS):=L2.AG
theorem wj {c:Cs}{ts:Ts}{f ff fs f1 f2:Addr}{fd df ds d1 d2:FuncData}(F:AA K "__init__" "Told.__init__" sS f fd)(T:dE mg)(B:Rz K mg ts f1 f2 d1 d2)(G1:Ac P w K mg base aC 1 f1 d1 ["self", "land"] (sf K))
  (mf:mg "row_fits" = some (.ref ff)) (kf:keepIn K (.ref ff)=true) (bf:Binds K df ["land", "row"] []) (Gf:Ac P w K mg base aC 4 ff df ["land", "row"] (sH c))
  (ms:mg "set_of" = some (.ref fs)) (ks:keepIn K (.ref fs)=true) (bs:Binds K ds ["numbers"] []) (Gs:Ac P w K mg base aC 1 fs ds ["numbers"] (sg K)) :
  Ac P w K mg base (dR P w) 5 f fd ["self", "land", "rows"] (sd P w K c ts):=by
 have Gn:Ac P w K mg base aC 1 f2 d2 ["self", "row"] (qD K "row"):=LC B.Fne
 refine F.Fe CH (fun vs H Q E h=>?_) (fun cdv A outer s H vs Q E hr h=>?_)
 ·obtain⟨x,dx,lx,AF,lt,p,n,Ao,Aw,ps,rs,rfl,_⟩:=h
  rfl
 ·obtain⟨x,dx,lx,AF,lt,p,n,Ao,Aw,ps,rs,rfl,hx,hL,hp,hR,hlen,EG,W7,hE,hQ⟩:=h
  have Bb:Al 1 _:=hr.mono (by decide)
  have Bw:Al 2 _:=hr.mono (by decide)
  have hu:=ki hr
  refine⟨_,af (aN (lZ (eB (v := .ref ts.tab) rfl B.mt rfl) B.cm G1 Bb B.bt .nil ap (aa (pv 0) (aa (pv 1) ad))))
   (af (aT (pv 0) (show PE _ _ (rS P w) from pO) rfl)
   (ai (bI pQ rfl (lW rfl T.enum (aa (pv 2) ad)) (jk rfl (bZ (ay (i:=3) CH.nd rfl (Or.inl rfl)) (bZ (ay (i:=4) CH.nd rfl (Or.inl rfl)) gH)))
    (af (aA (i:=5) CH.nd rfl (Or.inl rfl) (bJ (aa (ax aF (pv 4) aj (fun _ _=>rfl)) (aa (ax aF (pv 4) aj (fun _ _=>rfl)) (aa (ax aF (pv 4) aj (fun _ _=>rfl)) ad)))))
    (af (aP (PW.pt (fK (bS (bF (au Gf hr rfl mf kf bf .nil ap (aa (pv 1) (aa (pv 4) ad))))) (e9 (tL (yI hu (pv 5) (al (pv 0) rfl))))))
     (ai (b9 rfl B.W5 aO (iI B.W5 B.ine B.kne Gn Bw B.bne rfl B.mne (aa (pv 3) ad)))) aH)
    (ai (pK hu (al (pv 0) rfl) (pv 5) (au Gs Bb rfl ms ks bs .nil ap (aa (ax aF (pv 4) aj (fun _ _=>rfl)) ad)) rfl))))))),?_⟩
  refine⟨rfl,_,rfl,_,rfl,x,ts.told,dx,_,rfl,hx,B.cd,B.nd1,?_⟩
  refine fun de Dv=>⟨_,rfl,x,ts.told,dx,[("land", .ref lx)],rfl,by rw[ae (ag ac Dv)];exact ac,B.cd,B.Pb,by show 1 < 1000;decide,?_⟩
  have Fl:x ≠ de:=ag ac Dv
  have EH:H de=none:=by rw[ae (Ne.symm Fl)]at Dv;exact Dv
  generalize E7:upd (upd (upd H x (.ins ts.told dx [("land", .ref lx)])) de (jE P w de [])) x (.ins ts.told dx (aJ "entries" (.ref de) [("land", .ref lx)]))=H2
  have o2:Off x H H2:=fun b o hb e=>by rw[← E7,ae hb,ae (ag e EH),ae hb];exact e
  have x2:H2 x=some (.ins ts.told dx [("land", .ref lx),("entries", .ref de)]):=by rw[← E7,ac];rfl
  have d2:AW P w H2 de []:=⟨by rw[← E7,ae (Ne.symm Fl),ac],fun y hy=>by cases hy⟩
  have LF:Aw.length=rs.length:=Paired.length hR
  refine⟨_,rfl,p,rfl,⟨_,o2.sq hx hp⟩,mP (sq:=fun H=>Ah K H p) (xs:=Aw) (fun i σ H3=>∃ (a b k:Option V)(kvs:List dC),Off x H H3/\H3 x=some (.ins ts.told dx [("land", .ref lx),("entries", .ref de)])/\AW P w H3 de kvs/\kvs.length <= i /\
    (∀ k,bX kvs k=(dN (rs.take i) k).map sM)/\(∀ j,j < i->nj n ps (rs.take j) (rs.getD j ⟨0,0,none,[]⟩)=false)/\σ=[some (.ref x),some (.ref lx),some (.ref p),a,b,k])
   ⟨none,none,none,[],o2,x2,d2,le_refl _,fun k=>rfl,fun j hj=>absurd hj (not_lt_zero _),rfl⟩ (fun i σ H3 _ Af=>by obtain⟨_,_,_,_,o3,_⟩:=Af;exact o3.sq hx hp) ?_ ?_⟩
  ·rintro i v q σ H3 hv ⟨a,b,k,kvs,o3,x3,d3,l3,v3,g3,rfl⟩ hq
   obtain⟨r,hri,t,l,rfl,hT⟩:=DA.get hR hv
   have hi:i < rs.length:=(List.getElem?_eq_some_iff.mp hri).1
   have Pc:rs.getD i ⟨0,0,none,[]⟩ = r:=by rw[getD_eq_getElem?_getD,hri];rfl
   have Iv:Ir H3 t l r:=⟨o3 _ _ (aU hT.1 hx (by intro z;cases z)) hT.1,o3 _ _ (aU hT.2 hx (by intro z;cases z)) hT.2⟩
   have CI:=o3.land hx hL
   have s4:Ab H3 (upd H3 q (.tup [.int i, .ref t])):=(Ab.refl H3).new hq
   refine⟨q,_,rfl,An.of ac,rfl,_,_,rfl,_,_,rfl,rfl,?_⟩
   generalize upd H3 q (.tup [.int i, .ref t])=H4 at s4 ⊢
   have LG:An K H4 t [.int r.p, .int r.g,cV r.c, .ref l]:=An.of (s4 _ _ Iv.1)
   refine⟨_,rfl,t,_,0,_,rfl,rfl,LG,ak (j:=0) rfl,_,rfl,t,_,1,_,rfl,rfl,LG,ak (j:=1) rfl,_,rfl,t,_,2,_,rfl,rfl,LG,ak (j:=2) rfl,by show 3 <= sizeLine;decide,fun kt R1=>?_⟩
   have s5:Ab H3 (upd H4 kt (.tup [.int r.p, .int r.g,cV r.c])):=s4.new R1
   have k5:(upd H4 kt (.tup [.int r.p, .int r.g,cV r.c])) kt=some (.tup ((aZ r).map rK)):=by rw[qd];exact ac
   generalize upd H4 kt (.tup [.int r.p, .int r.g,cV r.c])=H5 at s5 k5 ⊢
   refine⟨_,rfl,_,rfl,lx,AF,lt,t,l,n,Ao,ps,r,rfl,⟨s5 _ _ CI.1,s5 _ _ CI.2.1,AB.same s5 CI.2.2⟩,Iv.same s5,EG,(W7 r (mem_of_getElem? hri)).2,fun H6 W8=>⟨_,rfl,?_⟩⟩
   have s6:=s5.trans W8
   have k6:=W8 _ _ k5
   have x6:=s6 _ _ x3
   have d6:=d3.same s6
   have GO:nj n ps (rs.take i) r=true->∀ e tt,H6 e=none->∀ d,upd H6 e (bH e ts.ne tt none) d=none ->
     ∃ dd,(upd (upd (upd H6 e (bH e ts.ne tt none)) d (.xd [("row", .int i)])) e (bH e ts.ne tt (some d))) e=some (bH e ts.ne tt dd)/\E (.ref ts.ne) dd (uW (upd (upd (upd H6 e (bH e ts.ne tt none)) d (.xd [("row", .int i)])) e (bH e ts.ne tt (some d))) e):=by
    intro hb e tt he d hd
    obtain⟨m1,m2,m3⟩:=il (o:=bH e ts.ne tt none) (o':=bH e ts.ne tt (some d)) (x := .xd [("row", .int i)]) he hd
    exact⟨some d,m3,hE i (jJ hi g3 (by rw[Pc];exact hb)) _ d (o3.same (s6.trans m1)) m2⟩
   cases hf:eJ n ps r with
   | false =>
    refine aK (aK ⟨_,rfl,by show 1 <= sizeLine;decide,fun e tt he=>⟨e,_,tt,_,rfl,ac,B.E2,B.W6,fun d hd=>⟨rfl,?_⟩⟩⟩)
    exact GO (by rw[gU,hf];rfl) e tt he d hd
   | true =>
    refine aI ⟨_,rfl,_,rfl,x,ts.told,dx,_,_,rfl,x6,B.cd,B.Pb,rfl,de,_,rfl,⟨kvs,aZ r,kt,d6,rfl,k6,rfl⟩,_,rfl,?_⟩
    have eS:(bX kvs (aZ r)).isSome=(rs.take i).any fun a=>decide (aZ a=aZ r):=by rw[v3,Option.isSome_map,lm]
    cases hS:(bX kvs (aZ r)).isSome with
    | true =>
     refine aK ⟨_,rfl,by show 1 <= sizeLine;decide,fun e tt he=>⟨e,_,tt,_,rfl,ac,B.E2,B.W6,fun d hd=>⟨rfl,?_⟩⟩⟩
     exact GO (by rw[gU,hf,← eS,hS];rfl) e tt he d hd
    | false =>
     refine aI ?_
     have LH:=Iv.same s6
     refine⟨_,rfl,t,_,3,_,rfl,rfl,An.of LH.1,ak (j:=3) rfl,l,r.s,rfl,Ah.of LH.2,(W7 r (mem_of_getElem? hri)).1,?_⟩
     refine⟨_,rfl,x,ts.told,dx,_,_,rfl,x6,B.cd,B.Pb,rfl,_,rfl,de,kvs,aZ r,kt,rfl,d6,rfl,k6,by rw[sizeLine_eq];omega,?_⟩
     have hx6:x ≠ de:=Fl
     refine⟨_,_,_,eN kvs (aZ r) kt (sM r),fun b' o hb e=>?_,?_,⟨ac,jP (F:=fun k a=>(upd H6 de (jE P w de (eN kvs (aZ r) kt (sM r)))) a=some (.tup (k.map rK))) (fun y hy=>?_) ?_⟩,?_,fun k'=>?_,fun j hj=>?_,rfl⟩
     ·rw[ae (ag e EH)];exact s6 _ _ (o3 _ _ hb e)
     ·rw[ae Fl];exact x6
     ·rw[ae (aU (d6.2 y hy) d6.1 (by intro z;cases z))];exact d6.2 y hy
     ·rw[ae (aU k6 d6.1 (by intro z;cases z))];exact k6
     ·exact le_trans eM (Nat.succ_le_succ l3)
     ·rw[gh,take_succ,hri,Option.toList_some,oK,v3]
      by_cases hk:k' = aZ r
      ·rw[if_pos hk,if_pos hk];rfl
      ·rw[if_neg hk,if_neg hk]
     ·rcases lt_or_ge j i with h | h
      ·exact g3 j h
      ·have:j=i:=by omega
       subst this
       rw[Pc,gU,hf,← eS,hS];rfl
  ·rintro σ H3 ⟨a,b,k,kvs,o3,x3,d3,l3,v3,g3,rfl⟩
   rw[LF]at g3 v3
   rw[take_length]at v3
   exact hQ (fN g3) H3 de kvs o3 x3 d3 v3
noncomputable def nV (ps:List Nat):List V:=ps.map fun q:Nat=>V.int (q:Int)
theorem dq (ps:List Nat):(nV ps).length=ps.length:=by simp[nV]
theorem lj {ps:List Nat}{k q:Nat}(h:ps[k]? = some q):(nV ps)[k]? = some (V.int (q:Int)):=by simp[nV,h]
theorem u7 (a b:List Nat):nV (a ++ b)=nV a ++ nV b:=by unfold nV;rw[map_append]
theorem uz {ps:List Nat}{v:V}(h:v ∈ nV ps):∃ q:Nat,q ∈ ps/\v = .int (q:Int):=by
 obtain⟨q,hq,e⟩:=mem_map.mp h
 exact⟨q,hq,e.symm⟩
noncomputable def nZ (c:Cs)(sel:Int × Int->Int):Sp:=fun vs H Q _=>∃ (x dx t:Addr)(n:Int)(Ao:List V)(ps:List (Int × Int))(k:Nat)(pr:Int × Int),vs=[.ref x, .int k]/\cn H c x dx t n Ao ps/\ps[k]? = some pr/\Q (.int (sel pr)) H
structure xr (K:Frag)(c:Cs)(f:Addr)(d:FuncData):Prop where
 m:bz K c.land "end_of" f
 b:Binds K d ["self", "lane"] []
theorem bK (a b:Int):decide (V.int a=V.int b)=decide (a=b):=by
 by_cases h:a=b
 ·rw[h];simp
 ·rw[decide_eq_false h,decide_eq_false fun z=>h (by injection z)]
theorem iP {n i:Nat}(h:i < n):wT n (i:Int)=some i:=by
 unfold wT
 rw[if_pos (by omega),if_pos (by omega),toNat_natCast]
noncomputable def mN (m:Nat):List Nat:=Yd.D3 m (Builtin.Int.intBits (m:Int))
theorem u0:∀ {a b:List Nat},nV a=nV b->a=b
 | [],[],_=>rfl
 | [],_ :: _,h=>by cases h
 | _ :: _,[],h=>by cases h
 | x :: a,y :: b,h=>by
  unfold nV at h
  rw[map_cons,map_cons]at h
  injection h with h1 h2
  injection h1 with h1
  rw[u0 (a:=a) (b:=b) h2,show x=y by omega]
theorem LI:ao ["self", "lane"] ["self", "lane"] (ah yB):=L2.AG
theorem zj {c:Cs}{f:Addr}{fd:FuncData}(F:AA K "end_of" "Land.end_of" yB f fd)(L:lC K c):Ac P w K mg base aC 1 f fd ["self", "lane"] (nZ c Prod.snd):=by
 refine F.ok LI (fun vs H Q E h=>?_) (fun cdv A outer s H vs Q E hr h=>?_)
 ·obtain⟨x,dx,t,n,Ao,ps,k,pr,rfl,_⟩:=h
  rfl
 ·obtain⟨x,dx,t,n,Ao,ps,k,pr,rfl,⟨hx,ht,hl⟩,hk,q⟩:=h
  refine⟨_,ai (ar (ax aF (ax aF (al (pv 0) rfl) (pv 1) (fun _ _=>rfl)) aj (fun _ _=>rfl))),?_⟩
  obtain⟨v,hv,u,rfl,hu⟩:=AB.F6 hl hk
  refine⟨_,rfl,x,c.land,dx,_,_,rfl,hx,L.cl,L.nl,rfl,_,rfl,t,_,_,_,rfl,rfl,An.of ht,ak hv,u,_,1,_,rfl,rfl,An.of hu,ak (j:=1) rfl,q⟩
noncomputable def isI:V->Bool
 | .int _=>true
 | _=>false
noncomputable def jT:V->Int->Int->Bool
 | .int i,a,b=>decide (a <= i/\i <= b)
 | _,_,_=>false
inductive rG:V->Prop
 | int (i:Int):rG (.int i)
 | bl (b:Bool):rG (.bl b)
 | Av:rG .Av
structure vf (K:Frag):Prop where
 ii:kitOne K (.type "int") (.type "int")=some true
 ib:kitOne K (.type "int") (.type "bool")=some false
 bi:kitOne K (.type "bool") (.type "int")=some true
 bb:kitOne K (.type "bool") (.type "bool")=some true
 ni:kitOne K (.type "NoneType") (.type "int")=some false
noncomputable def gk:Sp:=fun vs H Q _=>∃ v,vs=[v]/\rG v/\Q (.bl (isI v)) H
noncomputable def fv:Sp:=fun vs H Q _=>∃ (v:V)(a b:Int),vs=[v, .int a, .int b]/\rG v/\Q (.bl (jT v a b)) H
noncomputable def nY (K:Frag):Sp:=fun vs H Q _=>∃ (a:Addr)(ns:List Int)(k:Nat),vs=[.ref a, .int k]/\Ah K H a (ns.map V.int)/\∀ d,Q (.int d) H
noncomputable def lK:Sp:=fun vs H Q _=>∃ (c:Int)(k:Nat),vs=[.int c, .int k]/\k <= 1000000/\∀ d:Int,0 <= d->Q (.int d) H
theorem AB.imp {H H':Hp}(h:∀ v p,xp H v p->xp H' v p):∀ {vs:List V}{ps:List (Int × Int)},AB H vs ps->AB H' vs ps:=fun Af=>by
 induction Af with
 | nil=>exact .nil
 | cons z r ih=>exact .cons (h _ _ z) ih
noncomputable def hV:Option Int->V
 | none => .Av
 | some z => .int z
noncomputable abbrev Fs:=List (Str × V)
noncomputable def i8 (r b:Int)(h:V)(pa:Addr):Fs:=[("rights", .int r),("returning", .int b),("holder",h),("pieces", .ref pa)]
structure Az (H:Hp)(C x dx pa:Addr)(r b:Int)(h:Option Int)(Au:List V)(qs:List (Int × Int)):Prop where
 ins:H x=some (.ins C dx (i8 r b (hV h) pa))
 lst:H pa=some (.lst Au)
 Bl:AB H Au qs
noncomputable def By (x pa:Addr)(H H':Hp):Prop:=∀ a o,a ≠ x->a ≠ pa->H a=some o->H' a=some o
theorem By.DL {C x dx pa:Addr}{fs:Fs}{Au:List V}{H H':Hp}(h:By x pa H H')(hx:H x=some (.ins C dx fs))(hp:H pa=some (.lst Au)){vs:List V}{qs:List (Int × Int)}:AB H vs qs->AB H' vs qs :=
 AB.imp fun _ _ Af=>by obtain⟨t,e,q⟩:=Af;exact⟨t,e,h _ _ (aU q hx (by intro z;cases z)) (aU q hp (by intro z;cases z)) q⟩
theorem Az.same {H H':Hp}{C x dx pa:Addr}{r b:Int}{h:Option Int}{Au:List V}{qs:List (Int × Int)}(L:Az H C x dx pa r b h Au qs)(s:Ab H H'):Az H' C x dx pa r b h Au qs:=⟨s _ _ L.ins,s _ _ L.lst,AB.same s L.Bl⟩
noncomputable def cf (r:Int)(h:Option Int)(l c:Int):Bool:=if r=0 then false else if c=0 then decide (h=none) else decide (h=some l)
theorem zD (h:Option Int):decide (hV h=V.Av)=decide (h=none):=by cases h<;>rfl
theorem zE (h:Option Int)(l:Int):decide (hV h=V.int l)=decide (h=some l):=by
 cases h with
 | none=>rfl
 | some z =>
  show decide (V.int z=V.int l)=_
  rw[bK]
  by_cases e:z=l
  ·rw[decide_eq_true e,decide_eq_true (by rw[e])]
  ·rw[decide_eq_false e,decide_eq_false fun q=>e (Option.some.inj q)]
theorem wV (h:Option Int)(l:Int):yl (hV h) (.int l)=true:=by cases h<;>rfl
structure xo (K:Frag)(C:Addr):Prop where
 cl:C2 K C
 n1:Aq K C "rights"
 n2:Aq K C "returning"
 n3:Aq K C "holder"
 n4:Aq K C "pieces"
structure LJ (K:Frag)(mg:Str->Option Value)(nm:Addr):Prop where
 m:mg "NoMove" = some (.ref nm)
 x:b7 K nm none=true
 k:keepIn K (.ref nm)=true
 e:PySem.W.exmOne K (.ref nm) (.ref nm)=some true
noncomputable def sy (C:Addr):Sp:=fun vs H Q _=>∃ (x dx:Addr)(room:Int),vs=[.ref x, .int room]/\H x=some (.ins C dx [])/\∀ (pa:Addr)(H':Hp),H pa=none->(∀ a o,a ≠ x->H a=some o->H' a=some o)->Az H' C x dx pa room 0 none [] []->Q .Av H'
noncomputable def kK (C:Addr):Sp:=fun vs H Q _=>∃ (x dx pa:Addr)(r b:Int)(h:Option Int)(l c:Int),vs=[.ref x, .int l, .int c]/\H x=some (.ins C dx (i8 r b (hV h) pa))/\Q (.bl (cf r h l c)) H
noncomputable def xy (C nm:Addr):Sp:=fun vs H Q E=>∃ (x dx pa:Addr)(r b:Int)(h:Option Int)(Au:List V)(qs:List (Int × Int))(l c:Int)(last:Bool),vs=[.ref x, .int l, .int c, .bl last]/\Az H C x dx pa r b h Au qs/\Au.length < 100000 /\
 (cf r h l c=false->∀ H',Ab H H'->E (.ref nm) none H') /\
 (cf r h l c=true->∀ (t:Addr)(H':Hp),By x pa H H'->Az H' C x dx pa (r - 1) b (if last then none else some l) (Au ++ [.ref t]) (qs ++ [(l,c)])->Q .Av H')
noncomputable def oQ:List V->V
 | [] => .Av
 | v :: _=>v
noncomputable def iF (C:Addr):Sp:=fun vs H Q _=>∃ (x dx pa:Addr)(r b:Int)(h:Option Int)(Au:List V)(qs:List (Int × Int)),vs=[.ref x]/\Az H C x dx pa r b h Au qs/\Q (oQ Au) H
noncomputable def nN (C nm:Addr):Sp:=fun vs H Q E=>∃ (x dx pa:Addr)(r b:Int)(h:Option Int)(Au:List V)(qs:List (Int × Int)),vs=[.ref x]/\Az H C x dx pa r b h Au qs /\
 (Au=[]->∀ H',Ab H H'->E (.ref nm) none H') /\
 (∀ v rest,Au=v :: rest->∀ H':Hp,By x pa H H'->Az H' C x dx pa r (b + 1) h rest qs.tail->Q v H')
noncomputable def pC (C nm:Addr):Sp:=fun vs H Q E=>∃ (x dx pa:Addr)(r b:Int)(h:Option Int)(Au:List V)(qs:List (Int × Int)),vs=[.ref x]/\Az H C x dx pa r b h Au qs /\
 (b=0->∀ H',Ab H H'->E (.ref nm) none H') /\
 (b ≠ 0->∀ H':Hp,By x pa H H'->Az H' C x dx pa (r + 1) (b - 1) h Au qs->Q .Av H')
noncomputable def xA (C:Addr):Sp:=fun vs H Q _=>∃ (x dx pa:Addr)(r b:Int)(h:Option Int)(Au:List V)(qs:List (Int × Int)),vs=[.ref x]/\Az H C x dx pa r b h Au qs /\
 ∀ (t ql:Addr)(H':Hp),Ab H H'->H ql=none->H' t=some (.tup [.int r, .int b,hV h, .ref ql])->H' ql=some (.lst Au)->Q (.ref t) H'
theorem R3 (n:Nat):seqIndex? 0 (n + 1)=some 0:=by
 unfold seqIndex?
 simp
theorem jU {f:Addr}{fd:FuncData}(F:AA K "is_whole" "is_whole" fS f fd)(T:dE mg)(Z:vf K):Ac P w K mg base aC 1 f fd ["value"] gk:=by
 refine F.ok pI (fun vs H Q E h=>?_) (fun cdv A outer s H vs Q E hr h=>?_)
 ·obtain⟨m,rfl,_⟩:=h
  rfl
 ·obtain⟨v,rfl,hv,q⟩:=h
  refine⟨_,ai (ar (cY (av fq rfl T.Iq PyProof.Rows.boot_isinstance (aa (pv 0) (aa (eC (v := .ty "int") rfl T.int PySem.Pv.boot_int rfl) ad)))
   (cX (tR (av fq rfl T.Iq PyProof.Rows.boot_isinstance (aa (pv 0) (aa (eC (v := .ty "bool") rfl T.bool PySem.Pv.boot_bool rfl) ad))))))),?_⟩
  cases hv with
  | int i=>exact⟨_,rfl, .int i,_, "int",true,rfl, .int i,Z.ii,true,rfl,aK ⟨_,rfl, .int i,_, "bool",false,rfl, .int i,Z.ib,false,rfl,q⟩⟩
  | bl b=>exact⟨_,rfl, .bl b,_, "int",true,rfl, .bl b,Z.bi,true,rfl,aK ⟨_,rfl, .bl b,_, "bool",true,rfl, .bl b,Z.bb,true,rfl,q⟩⟩
  | Av=>exact⟨_,rfl, .Av,_, "int",false,rfl, .Av,Z.ni,false,rfl,aI q⟩
theorem oB {f fh:Addr}{fd CP:FuncData}(F:AA K "is_within" "is_within" iH f fd)(T:dE mg)(Z:vf K)(mh:mg "is_whole" = some (.ref fh))(Fh:AA K "is_whole" "is_whole" fS fh CP)(bh:Binds K CP ["value"] []) :
  Ac P w K mg base aC 2 f fd ["value", "least", "most"] fv:=by
 have G:Ac P w K mg base aC 1 fh CP ["value"] gk:=jU Fh T Z
 refine F.ok lN (fun vs H Q E h=>?_) (fun cdv A outer s H vs Q E hr h=>?_)
 ·obtain⟨i,a,b,rfl,_⟩:=h
  rfl
 ·obtain⟨v,a,b,rfl,hv,q⟩:=h
  refine⟨_,ai (ar (cY (au G hr rfl mh Fh.kp bh .nil ap (aa (pv 0) ad)) (cX (mj pS pS (pv 1) (pv 0) (pv 2))))),?_⟩
  cases hv with
  | bl x=>exact⟨_,rfl,_,rfl, .bl x,false,rfl,aI q⟩
  | Av=>exact⟨_,rfl,_,rfl, .Av,false,rfl,aI q⟩
  | int i =>
   refine⟨_,rfl,_,rfl, .int i,true,rfl,aK ?_⟩
   refine⟨_,rfl,_,rfl,_,_,rfl,rfl,_,rfl,?_⟩
   have q:Q (V.bl (decide (a <= i/\i <= b))) H:=q
   by_cases h1:a <= i
   ·rw[decide_eq_true h1]
    refine aK ⟨_,rfl,_,_,rfl,rfl,?_⟩
    show Q (V.bl (decide (i <= b))) H
    by_cases h2:i <= b
    ·rw[decide_eq_true h2];rw[decide_eq_true ⟨h1,h2⟩]at q;exact q
    ·rw[decide_eq_false h2];rw[decide_eq_false fun z=>h2 z.2]at q;exact q
   ·rw[decide_eq_false h1]
    refine aI ?_
    rw[decide_eq_false fun z=>h1 z.1]at q;exact q
theorem sN:ao ["_law_script", "_law_k"] ["_law_script", "_law_k"] (ah pJ):=L2.AG
theorem wE {f:Addr}{fd:FuncData}(F:AA K "_law_cell_at" "_law_cell_at" pJ f fd)(T:dE mg):Ac P w K mg base aC 1 f fd ["_law_script", "_law_k"] (nY K):=by
 refine F.ok sN (fun vs H Q E h=>?_) (fun cdv A outer s H vs Q E hr h=>?_)
 ·obtain⟨a,ns,k,rfl,_⟩:=h
  rfl
 ·obtain⟨a,ns,k,rfl,hS,q⟩:=h
  refine⟨_,af (aP (aw jo (pv 1) (av aq rfl T.len PySem.boot_len (aa (pv 0) ad)) (aB _))
    (ai (ar (ax aL (pv 0) (pv 1) (fun _ _=>rfl)))) aH) (ai (ar aj)),?_⟩
  refine⟨_,rfl,_,rfl,a,_,rfl, .inl hS,_,_,rfl,rfl,_,rfl,?_⟩
  refine KC (fun h=>?_) fun _=>q _
  have h':(k:Int) < ((ns.map V.int).length:Nat):=of_decide_eq_true h
  rw[length_map]at h'
  have hk:k < ns.length:=by omega
  exact⟨_,rfl,_,rfl,a,_,k,V.int ns[k],rfl,rfl,hS,ak (by simp[hk]),q _⟩
theorem GQ:ao ["_law_cell", "_law_k", "_law_number"] ["_law_cell", "_law_k"] (ah y1):=L2.AG
theorem yY {f:Addr}{fd:FuncData}(F:AA K "_law_mixed" "_law_mixed" y1 f fd):Ac P w K mg base aC 1 f fd ["_law_cell", "_law_k"] lK:=by
 refine F.ok GQ (fun vs H Q E h=>?_) (fun cdv A outer s H vs Q E hr h=>?_)
 ·obtain⟨c,k,rfl,_⟩:=h
  rfl
 ·obtain⟨c,k,rfl,hk,q⟩:=h
  refine⟨_,af (aA (i:=2) GQ.nd rfl (Or.inl rfl) (aG bG (aG jn (aG bT (aG bT (aG bG (pv 0) aj) (aG jn aj (pv 1))) aj) aj) aj))
   (ai (ar (aG bG (aG jn (pv 2) (aG bT (aG fA (pv 2) aj) aj)) aj))),?_⟩
  have pos:(0:Int) < 2147483647:=by decide
  refine⟨_,rfl,_,_,rfl,rfl,pos,_,rfl,_,_,rfl,rfl, .inl ⟨by decide,by decide⟩,_,_,rfl,rfl,_,_,rfl,rfl,_,_,rfl,rfl, .inr ⟨by decide,by decide⟩,_,_,rfl,rfl,pos,?_⟩
  dsimp only
  have h1:=emod_nonneg ((c % 2147483647 + 7919 * (k:Int) + 1) * 48271) (show (2147483647:Int) ≠ 0 by decide)
  have h2:=emod_lt_of_pos ((c % 2147483647 + 7919 * (k:Int) + 1) * 48271) pos
  generalize (c % 2147483647 + 7919 * (k:Int) + 1) * 48271 % 2147483647=m at h1 h2
  refine⟨_,rfl,_,rfl,_,_,rfl,rfl,⟨by decide,by decide⟩,_,_,rfl,rfl,_,_,rfl,rfl, .inl ⟨by omega,by omega⟩,_,_,rfl,rfl,pos,?_⟩
  exact q _ (emod_nonneg _ (by decide))
theorem LK:ao ["self", "room"] ["self", "room"] (ah y4):=L2.AG
theorem ze {C f:Addr}{fd:FuncData}(F:AA K "__init__" "Lane.__init__" y4 f fd)(L:xo K C):Ac P w K mg base aC 1 f fd ["self", "room"] (sy C):=by
 refine F.ok LK (fun vs H Q E h=>?_) (fun cdv A outer s H vs Q E hr h=>?_)
 ·obtain⟨x,dx,room,rfl,_⟩:=h
  rfl
 ·obtain⟨x,dx,room,rfl,hx,q⟩:=h
  refine⟨_,af (aT (pv 0) (pv 1) rfl) (af (aT (pv 0) aj rfl) (af (aT (pv 0) cv rfl) (ai (aT (pv 0) (aX ad) rfl)))),?_⟩
  refine⟨_,rfl,_,rfl,x,C,dx,_,rfl,hx,L.cl,L.n1,by show 0 < 1000;decide,?_⟩
  refine⟨_,rfl,x,C,dx,_,rfl,ac,L.cl,L.n2,by show 1 < 1000;decide,?_⟩
  refine⟨_,rfl,x,C,dx,_,rfl,ac,L.cl,L.n3,by show 2 < 1000;decide,?_⟩
  refine⟨zero_le _,fun pa Ea=>?_⟩
  have Dp:x ≠ pa:=ag ac Ea
  refine⟨_,rfl,x,C,dx,_,rfl,by rw[ae Dp];exact ac,L.cl,L.n4,by show 3 < 1000;decide,?_⟩
  have F7:H pa=none:=by
   rw[ae (Ne.symm Dp),ae (Ne.symm Dp),ae (Ne.symm Dp)]at Ea
   exact Ea
  refine q pa _ F7 (fun a o ha e=>?_) ⟨ac,by rw[ae (Ne.symm Dp)];exact ac, .nil⟩
  have nap:a ≠ pa:=fun z=>by
   rw[z,F7]at e
   cases e
  rw[ae ha,ae nap,ae ha,ae ha,ae ha]
  exact e
theorem yp:ao ["self", "letter", "count"] ["self", "letter", "count"] (ah sY):=L2.AG
theorem wt {C f:Addr}{fd:FuncData}(F:AA K "open_to" "Lane.open_to" sY f fd)(L:xo K C):Ac P w K mg base aC 1 f fd ["self", "letter", "count"] (kK C):=by
 refine F.ok yp (fun vs H Q E h=>?_) (fun cdv A outer s H vs Q E hr h=>?_)
 ·obtain⟨x,dx,pa,r,b,h,l,c,rfl,_⟩:=h
  rfl
 ·obtain⟨x,dx,pa,r,b,h,l,c,rfl,hx,q⟩:=h
  refine⟨_,af (aP (aw bC (al (pv 0) rfl) aj (aB _)) (ai (ar jQ)) aH)
   (af (aP (aw bC (pv 2) aj (aB _)) (ai (ar (c5 lh (al (pv 0) rfl) cv (aB _)))) aH)
   (ai (ar (c5 bC (al (pv 0) rfl) (pv 1) (aB _))))),?_⟩
  refine⟨_,rfl,x,C,dx,_,_,rfl,hx,L.cl,L.n1,rfl,rfl,_,rfl,?_⟩
  rw[bK]
  unfold cf at q
  by_cases Pe:r=0
  ·rw[decide_eq_true Pe]
   rw[if_pos Pe]at q
   exact aK q
  rw[decide_eq_false Pe]
  rw[if_neg Pe]at q
  refine aI ⟨_,rfl,rfl,_,rfl,?_⟩
  rw[bK]
  by_cases hc0:c=0
  ·rw[decide_eq_true hc0]
   rw[if_pos hc0]at q
   refine aK ⟨_,rfl,x,C,dx,_,_,rfl,hx,L.cl,L.n3,rfl,rfl,?_⟩
   rw[zD]
   exact q
  ·rw[decide_eq_false hc0]
   rw[if_neg hc0]at q
   refine aI ⟨_,rfl,x,C,dx,_,_,rfl,hx,L.cl,L.n3,rfl,_,rfl,wV h l,?_⟩
   rw[zE]
   exact q
theorem LL:ao ["self", "letter", "count", "last"] ["self", "letter", "count", "last"] (ah yy):=L2.AG
theorem yV {C f nm fo:Addr}{fd CQ:FuncData}(F:AA K "put" "Lane.put" yy f fd)(L:xo K C)(Ex:LJ K mg nm)(mo:bz K C "open_to" fo)(bo:Binds K CQ ["self", "letter", "count"] [])(Go:Ac P w K mg base aC 1 fo CQ ["self", "letter", "count"] (kK C)) :
  Ac P w K mg base (dR P w) 2 f fd ["self", "letter", "count", "last"] (xy C nm):=by
 refine F.Fe LL (fun vs H Q E h=>?_) (fun cdv A outer s H vs Q E hr h=>?_)
 ·obtain⟨x,dx,pa,r,b,h,Au,qs,l,c,last,rfl,_⟩:=h
  rfl
 ·obtain⟨x,dx,pa,r,b,h,Au,qs,l,c,last,rfl,hL,hlen,h1,h2⟩:=h
  refine⟨_,af (aP (bS (bF (aD (pv 0) L.cl mo Go hr bo .nil ap (aa (pv 1) (aa (pv 2) ad))))) (ai (b9 rfl Ex.x aO (bY Ex.x Ex.k rfl rfl Ex.m (aa b8 ad)))) aH)
   (af (dI (pv 0) aj qi)
   (af (aN (cu plainAttrs_list PySem.F.slot_list_append PySem.F.type_list_append bD (al (pv 0) rfl) (aa (bJ (aa (pv 1) (aa (pv 2) ad))) ad)))
   (ai (aT (pv 0) (c9 (bF (pv 3)) cv (pv 1)) rfl)))),?_⟩
  refine⟨_,rfl,x,dx,_,rfl,hL.ins,rfl,_,rfl,_,rfl,x,dx,pa,r,b,h,l,c,rfl,hL.ins,_,rfl,?_⟩
  cases ho:cf r h l c with
  | false =>
   refine aK ⟨by show 1 <= sizeLine;decide,?_⟩
   exact h1 ho H (Ab.refl H)
  | true =>
   refine aI ?_
   refine⟨_,rfl,x,C,dx,_,_,rfl,hL.ins,L.cl,L.n1,rfl,_,_,rfl,rfl,dx,_,hL.ins,by show 4 < 1000;decide,?_⟩
   have Dp:pa ≠ x:=aU hL.lst hL.ins (by intro z;cases z)
   have BC:(upd H x (.ins C dx (aJ "rights" (.int (r - 1)) (i8 r b (hV h) pa)))) x=some (.ins C dx (i8 (r - 1) b (hV h) pa)):=ac
   have AI:(upd H x (.ins C dx (aJ "rights" (.int (r - 1)) (i8 r b (hV h) pa)))) pa=some (.lst Au):=by rw[ae Dp];exact hL.lst
   have o1:By x pa H (upd H x (.ins C dx (aJ "rights" (.int (r - 1)) (i8 r b (hV h) pa)))):=fun a o ha _ e=>by rw[ae ha];exact e
   show _
   generalize upd H x (.ins C dx (aJ "rights" (.int (r - 1)) (i8 r b (hV h) pa)))=H1 at BC AI o1 ⊢
   refine⟨_,rfl,x,C,dx,_,_,rfl,BC,L.cl,L.n4,rfl, .inl ⟨rfl,_,Ah.of AI⟩,_,rfl,_,rfl,by show 2 <= sizeLine;decide,fun t ht=>?_⟩
   have s2:=(Ab.refl H1).new (o := .tup [.int l, .int c]) ht
   have gt:(upd H1 t (.tup [.int l, .int c])) t=some (.tup [.int l, .int c]):=ac
   generalize upd H1 t (.tup [.int l, .int c])=H2 at s2 gt ⊢
   refine⟨pa,Au,_,rfl,rfl,s2 _ _ AI,by rw[sizeLine_eq];omega,?_⟩
   have Pf:(upd H2 pa (.lst (Au ++ [.ref t]))) x=some (.ins C dx (i8 (r - 1) b (hV h) pa)):=by rw[ae (Ne.symm Dp)];exact s2 _ _ BC
   have J5:(upd H2 pa (.lst (Au ++ [.ref t]))) pa=some (.lst (Au ++ [.ref t])):=ac
   have o3:By x pa H (upd H2 pa (.lst (Au ++ [.ref t]))):=fun a o ha hb e=>by rw[ae hb];exact s2 _ _ (o1 a o ha hb e)
   have ntp:t ≠ pa:=aU gt (s2 _ _ AI) (by intro z;cases z)
   have R4:(upd H2 pa (.lst (Au ++ [.ref t]))) t=some (.tup [.int l, .int c]):=by rw[ae ntp];exact gt
   generalize upd H2 pa (.lst (Au ++ [.ref t]))=H3 at Pf J5 o3 R4 ⊢
   have ntx:t ≠ x:=aU R4 Pf (by intro z;cases z)
   have fin:∀ h':Option Int,Az (upd H3 x (.ins C dx (aJ "holder" (hV h') (i8 (r - 1) b (hV h) pa)))) C x dx pa (r - 1) b h' (Au ++ [.ref t]) (qs ++ [(l,c)]):=fun h' =>
    ⟨ac,by rw[ae Dp];exact J5,AB.snoc ⟨t,rfl,by rw[ae ntx];exact R4⟩ (By.DL (fun a o ha hb e=>by rw[ae ha];exact o3 a o ha hb e) hL.ins hL.lst hL.Bl)⟩
   have off:∀ o',By x pa H (upd H3 x o'):=fun o' a o ha hb e=>by rw[ae ha];exact o3 a o ha hb e
   refine⟨_,rfl,_,rfl,?_⟩
   cases last with
   | true=>exact aK ⟨_,rfl,x,C,dx,_,rfl,Pf,L.cl,L.n3,by show 4 < 1000;decide,h2 ho t _ (off _) (fin none)⟩
   | false=>exact aI ⟨_,rfl,_,rfl,x,C,dx,_,rfl,Pf,L.cl,L.n3,by show 4 < 1000;decide,h2 ho t _ (off _) (fin (some l))⟩
theorem vC:ao ["self"] ["self"] (ah ou):=L2.AG
theorem uo {C f:Addr}{fd:FuncData}(F:AA K "front" "Lane.front" ou f fd)(L:xo K C):Ac P w K mg base aC 1 f fd ["self"] (iF C):=by
 refine F.ok vC (fun vs H Q E h=>?_) (fun cdv A outer s H vs Q E hr h=>?_)
 ·obtain⟨x,dx,pa,r,b,h,Au,qs,rfl,_⟩:=h
  rfl
 ·obtain⟨x,dx,pa,r,b,h,Au,qs,rfl,hL,q⟩:=h
  refine⟨_,ai (ar (c9 (gG (al (pv 0) rfl) (fun _=>rfl)) (ax aL (al (pv 0) rfl) aj (fun _ _=>rfl)) cv)),?_⟩
  refine⟨_,rfl,x,C,dx,_,_,rfl,hL.ins,L.cl,L.n4,rfl,_, .inl ⟨_,Ah.of hL.lst,rfl⟩,?_⟩
  cases Au with
  | nil=>exact aI q
  | cons v rest=>exact aK ⟨_,rfl,x,C,dx,_,_,rfl,hL.ins,L.cl,L.n4,rfl,pa,_,0,v,rfl,rfl,Ah.of hL.lst,ak (j:=0) rfl,q⟩
theorem ym:ao ["self"] ["self"] (ah sU):=L2.AG
theorem wl {C f nm:Addr}{fd:FuncData}(F:AA K "pull" "Lane.pull" sU f fd)(L:xo K C)(Ex:LJ K mg nm):Ac P w K mg base (dR P w) 1 f fd ["self"] (nN C nm):=by
 refine F.Fe ym (fun vs H Q E h=>?_) (fun cdv A outer s H vs Q E hr h=>?_)
 ·obtain⟨x,dx,pa,r,b,h,Au,qs,rfl,_⟩:=h
  rfl
 ·obtain⟨x,dx,pa,r,b,h,Au,qs,rfl,hL,h1,h2⟩:=h
  refine⟨_,af (aP (bS (gG (al (pv 0) rfl) (fun _=>rfl))) (ai (b9 rfl Ex.x aO (bY Ex.x Ex.k rfl rfl Ex.m (aa b8 ad)))) aH)
   (af (dI (pv 0) aj lr)
   (ai (ar (cu plainAttrs_list PySem.F.slot_list_pop PySem.F.type_list_pop u9 (al (pv 0) rfl) (aa aj ad))))),?_⟩
  refine⟨_,rfl,x,C,dx,_,_,rfl,hL.ins,L.cl,L.n4,rfl,_, .inl ⟨_,Ah.of hL.lst,rfl⟩,?_⟩
  have Dp:pa ≠ x:=aU hL.lst hL.ins (by intro z;cases z)
  cases Au with
  | nil =>
   refine aK ⟨by show 1 <= sizeLine;decide,?_⟩
   exact h1 rfl H (Ab.refl H)
  | cons v rest =>
   refine aI ?_
   refine⟨_,rfl,x,C,dx,_,_,rfl,hL.ins,L.cl,L.n2,rfl,_,_,rfl,rfl,dx,_,hL.ins,by show 4 < 1000;decide,?_⟩
   have BC:(upd H x (.ins C dx (aJ "returning" (.int (b + 1)) (i8 r b (hV h) pa)))) x=some (.ins C dx (i8 r (b + 1) (hV h) pa)):=ac
   have AI:(upd H x (.ins C dx (aJ "returning" (.int (b + 1)) (i8 r b (hV h) pa)))) pa=some (.lst (v :: rest)):=by rw[ae Dp];exact hL.lst
   have o1:By x pa H (upd H x (.ins C dx (aJ "returning" (.int (b + 1)) (i8 r b (hV h) pa)))):=fun a o ha _ e=>by rw[ae ha];exact e
   show _
   generalize upd H x (.ins C dx (aJ "returning" (.int (b + 1)) (i8 r b (hV h) pa)))=H1 at BC AI o1 ⊢
   refine⟨_,rfl,x,C,dx,_,_,rfl,BC,L.cl,L.n4,rfl, .inl ⟨rfl,_,Ah.of AI⟩,pa,v :: rest,0,0,v,rfl,rfl,AI,by decide,by decide,R3 _,rfl,?_⟩
   have o2:By x pa H (upd H1 pa (.lst rest)):=fun a o ha hb e=>by rw[ae hb];exact o1 a o ha hb e
   refine h2 v rest rfl _ o2 ⟨by rw[ae (Ne.symm Dp)];exact BC,ac,?_⟩
   have z:=By.DL o2 hL.ins hL.lst hL.Bl
   cases z with
   | cons _ t=>exact t
theorem vE:ao ["self"] ["self"] (ah oy):=L2.AG
theorem ut {C f nm:Addr}{fd:FuncData}(F:AA K "bring" "Lane.bring" oy f fd)(L:xo K C)(Ex:LJ K mg nm):Ac P w K mg base (dR P w) 1 f fd ["self"] (pC C nm):=by
 refine F.Fe vE (fun vs H Q E h=>?_) (fun cdv A outer s H vs Q E hr h=>?_)
 ·obtain⟨x,dx,pa,r,b,h,Au,qs,rfl,_⟩:=h
  rfl
 ·obtain⟨x,dx,pa,r,b,h,Au,qs,rfl,hL,h1,h2⟩:=h
  refine⟨_,af (aP (aw bC (al (pv 0) rfl) aj (aB _)) (ai (b9 rfl Ex.x aO (bY Ex.x Ex.k rfl rfl Ex.m (aa b8 ad)))) aH)
   (af (dI (pv 0) aj qi) (ai (dI (pv 0) aj lr))),?_⟩
  refine⟨_,rfl,x,C,dx,_,_,rfl,hL.ins,L.cl,L.n2,rfl,rfl,_,rfl,?_⟩
  have Dp:pa ≠ x:=aU hL.lst hL.ins (by intro z;cases z)
  rw[bK]
  by_cases Pg:b=0
  ·rw[decide_eq_true Pg]
   refine aK ⟨by show 1 <= sizeLine;decide,?_⟩
   exact h1 Pg H (Ab.refl H)
  ·rw[decide_eq_false Pg]
   refine aI ?_
   refine⟨_,rfl,x,C,dx,_,_,rfl,hL.ins,L.cl,L.n2,rfl,_,_,rfl,rfl,dx,_,hL.ins,by show 4 < 1000;decide,?_⟩
   have BC:(upd H x (.ins C dx (aJ "returning" (.int (b - 1)) (i8 r b (hV h) pa)))) x=some (.ins C dx (i8 r (b - 1) (hV h) pa)):=ac
   have o1:By x pa H (upd H x (.ins C dx (aJ "returning" (.int (b - 1)) (i8 r b (hV h) pa)))):=fun a o ha _ e=>by rw[ae ha];exact e
   have AI:(upd H x (.ins C dx (aJ "returning" (.int (b - 1)) (i8 r b (hV h) pa)))) pa=some (.lst Au):=by rw[ae Dp];exact hL.lst
   show _
   generalize upd H x (.ins C dx (aJ "returning" (.int (b - 1)) (i8 r b (hV h) pa)))=H1 at BC AI o1 ⊢
   refine⟨_,rfl,x,C,dx,_,_,rfl,BC,L.cl,L.n1,rfl,_,_,rfl,rfl,dx,_,BC,by show 4 < 1000;decide,?_⟩
   have o2:∀ o',By x pa H (upd H1 x o'):=fun o' a o ha hb e=>by rw[ae ha];exact o1 a o ha hb e
   exact h2 Pg _ (o2 _) ⟨ac,by rw[ae Dp];exact AI,By.DL (o2 _) hL.ins hL.lst hL.Bl⟩
theorem LM:ao ["self"] ["self"] (ah y3):=L2.AG
theorem zd {C f:Addr}{fd:FuncData}(F:AA K "told" "Lane.told" y3 f fd)(T:dE mg)(L:xo K C):Ac P w K mg base aC 1 f fd ["self"] (xA C):=by
 refine F.ok LM (fun vs H Q E h=>?_) (fun cdv A outer s H vs Q E hr h=>?_)
 ·obtain⟨x,dx,pa,r,b,h,Au,qs,rfl,_⟩:=h
  rfl
 ·obtain⟨x,dx,pa,r,b,h,Au,qs,rfl,hL,q⟩:=h
  refine⟨_,ai (ar (bJ (aa (al (pv 0) rfl) (aa (al (pv 0) rfl) (aa (al (pv 0) rfl) (aa (aY aS rfl T.list PySem.Pv.boot_list (aa (al (pv 0) rfl) ad)) ad)))))),?_⟩
  refine⟨_,rfl,x,C,dx,_,_,rfl,hL.ins,L.cl,L.n1,rfl,_,rfl,x,C,dx,_,_,rfl,hL.ins,L.cl,L.n2,rfl,_,rfl,x,C,dx,_,_,rfl,hL.ins,L.cl,L.n3,rfl,_,rfl,x,C,dx,_,_,rfl,hL.ins,L.cl,L.n4,rfl,pa,_,rfl, .inl (Ah.of hL.lst),fun ql F8=>?_⟩
  have s1:=(Ab.refl H).new (o := .lst Au) F8
  have g1:(upd H ql (.lst Au)) ql=some (.lst Au):=ac
  generalize upd H ql (.lst Au)=H1 at s1 g1 ⊢
  refine⟨by show 4 <= sizeLine;decide,fun t ht=>?_⟩
  have s2:=s1.new (o := .tup [.int r, .int b,hV h, .ref ql]) ht
  exact q t ql _ s2 F8 ac (by rw[ae (ag g1 ht)];exact g1)
noncomputable def mz (m:Nat)(Aw:List V):Bool:=decide (Aw.length=m) && Aw.all fun v=>jT v 1 60
noncomputable def Sq (K:Frag)(H:Hp)(a:Addr)(xs:List V):Prop:=Ah K H a xs∨An K H a xs
noncomputable def p0 (K:Frag)(c:Cs)(nr:Addr):Sp:=fun vs H Q E=>∃ (lx AF lt:Addr)(n:Int)(Ao:List V)(ps:List (Int × Int))(rv:V),vs=[.ref lx,rv]/\cn H c lx AF lt n Ao ps/\ps.length <= 1000 /\
 ((rv = .Av/\∀ t H',Ab H H'->H' t=some (.tup (List.replicate ps.length (.int 1)))->Q (.ref t) H') ∨
  (∃ ra Aw,rv = .ref ra/\Sq K H ra Aw/\Aw.length <= 1000/\(∀ v ∈ Aw,rG v)/\(mz ps.length Aw=false->∀ H',Ab H H'->E (.ref nr) none H')/\(mz ps.length Aw=true->∀ t H',Ab H H'->An K H' t Aw->Q (.ref t) H')))
noncomputable def zC (s:Stmt):Scope:=match s with
 | .If _ (.Return (some (.Call _ [.ListComp _ _ sc _] _ _)) _ :: _) _ _=>sc
 | _=>{ kind := .function,names:=[],isGenerator:=false,isCoroutine:=false }
noncomputable def yL (s:Stmt):Scope:=match s with
 | .If (.BoolOp _ [_, .UnaryOp _ (.Call _ [.ListComp _ _ sc _] _ _) _] _) _ _ _=>sc
 | _=>{ kind := .function,names:=[],isGenerator:=false,isCoroutine:=false }
noncomputable def J6:V->Bool
 | .int i=>decide ((if i < 0 then -i else i) < 10 ^ (60:Int).toNat)
 | _=>false
noncomputable def rW:Sp:=fun vs H Q _=>∃ v,vs=[v]/\rG v/\Q (.bl (J6 v)) H
noncomputable def xx (K:Frag)(f1 f2:Str):Sp:=fun vs H Q _=>∃ e C tt v1 v2,vs=[.ref e,v1,v2]/\H e=some (bH e C tt none)/\fV K C/\findIn K (.ref C) f1=some none/\findIn K (.ref C) f2=some none/\∀ d H',H d=none->(∀ b o,b ≠ e->H b=some o->H' b=some o)->H' e=some (bH e C tt (some d))->H' d=some (.xd [(f1,v1),(f2,v2)])->Q .Av H'
theorem bq {K:Frag}{H H':Hp}{a:Addr}{xs:List V}(e:Ab H H')(h:An K H a xs):An K H' a xs:=by
 rcases h with h | h
 ·refine .inl ?_
  rcases h with h | ⟨o,h⟩
  ·exact .inl (e _ _ h)
  ·exact .inr ⟨o,e _ _ h⟩
 ·exact .inr h
theorem LN {X:Cx}{tg it:Expr}{a b:TI}(h1:PI X tg it a)(h2:PI X tg it b):PI X tg it (fun σ H R=>a σ H R∨b σ H R):=fun pins s σ H R I h=>h.elim (h1 pins s σ H R I) (h2 pins s σ H R I)
theorem mY {J:It}{xs:List V}{g:TG}{te:TE}{σ0:St}{H:Hp}{Q:VK}(f:V->V)(hn:xs.length < sizeLine)(hgo:∀ i,i < xs.length->J.go i H)(CV:J.stop xs.length H)(hy:∀ i x H',J.EY i H x H'->H' = H/\xs[i]? = some x)
  (hs:∀ (x:V)(N:V->Hp->Prop),x ∈ xs->N (f x) H->g x σ0 H fun σ2 H2=>te σ2 H2 N)
  (hq:∀ D,H D=none->Q (.ref D) (upd H D (.lst (xs.map f)))):dQ J g nI te σ0 Q H:=by
 refine bQ xs.length hn (fun i acc H'=>H' = H/\acc=(xs.take i).map f) ⟨rfl,rfl⟩ (fun i acc H' h=>by rw[h.2,length_map];exact length_take_le _ _) (fun i acc H' hi h=>?_) (fun acc H' h=>?_)
 ·obtain⟨rfl,rfl⟩:=h
  refine⟨hgo i hi,fun v H2 y=>?_⟩
  obtain⟨e,hx⟩:=hy i v H2 y
  subst e
  exact hs v (fun y H4=>H4=H2/\(xs.take i).map f ++ [y]=(xs.take (i + 1)).map f) (mem_of_getElem? hx) ⟨rfl,by rw[take_succ,hx,map_append];rfl⟩
 ·obtain⟨rfl,rfl⟩:=h
  rw[take_length]
  exact⟨CV,hq⟩
theorem zM {K:Frag}{a:Addr}{xs:List V}{g:TG}{te:TE}{σ0:St}{H:Hp}{Q:VK}(f:V->V)(hn:xs.length < sizeLine)(ha:Ah K H a xs)(hs:∀ (x:V) (N:V->Hp->Prop),x ∈ xs->N (f x) H->g x σ0 H fun σ2 H2=>te σ2 H2 N)
  (hq:∀ D,H D=none->Q (.ref D) (upd H D (.lst (xs.map f)))):dQ (xq K a) g nI te σ0 Q H :=
 mY f hn (fun i hi=>⟨xs,xs[i],ha,by simp[hi]⟩) ⟨xs,ha,le_refl _⟩ (fun i x H' y=>⟨y.1,y.2 xs ha⟩) hs hq
theorem uY {K:Frag}{a:Addr}{xs:List V}{g:TG}{te:TE}{σ0:St}{H:Hp}{Q:VK}(f:V->V)(hn:xs.length < sizeLine)(ha:An K H a xs)(hs:∀ (x:V) (N:V->Hp->Prop),x ∈ xs->N (f x) H->g x σ0 H fun σ2 H2=>te σ2 H2 N)
  (hq:∀ D,H D=none->Q (.ref D) (upd H D (.lst (xs.map f)))):dQ (OD K a) g nI te σ0 Q H :=
 mY f hn (fun i hi=>⟨xs,xs[i],ha,by simp[hi]⟩) ⟨xs,ha,le_refl _⟩ (fun i x H' y=>⟨y.1,y.2 xs ha⟩) hs hq
structure vo (K:Frag)(mg:Str->Option Value)(x:Str)(C:Addr):Prop where
 m:mg x=some (.ref C)
 x:b7 K C none=true
 k:keepIn K (.ref C)=true
theorem R5:ao ["land", "rooms"] ["land", "rooms"] (ah fT):=L2.AG
theorem R6:Bv ["land", "rooms"] (ah fT) (zC ((aE fT).getD 0 (.Pass ⟨0,0,0,0⟩))) [] []:=L2.Cu
theorem R7:Bv ["land", "rooms"] (ah fT) (yL ((aE fT).getD 1 (.Pass ⟨0,0,0,0⟩))) [] []:=L2.Cu
theorem R8:(["lane"]:List Str).Nodup:=by decide +kernel
theorem LO:(["room"]:List Str).Nodup:=by decide +kernel
theorem ug {c:Cs}{f fw nr:Addr}{fd dw:FuncData}{t1:Tok}(F:AA K "rooms_of" "rooms_of" fT f fd)(T:dE mg)(L:lC K c)(X:vo K mg "NoRooms" nr)
  (mw:mg "is_within" = some (.ref fw)) (kw:keepIn K (.ref fw)=true) (bw:Binds K dw ["value", "least", "most"] []) (Gw:Ac P w K mg base aC 2 fw dw ["value", "least", "most"] fv) (mp:mg "MOST_ROOM" = some (.int 60 t1)) :
  Ac P w K mg base (dR P w) 3 f fd ["land", "rooms"] (p0 K c nr):=by
 refine F.Fe R5 (fun vs H Q E h=>?_) (fun cdv A outer s H vs Q E hr h=>?_)
 ·obtain⟨lx,AF,lt,n,Ao,ps,rv,rfl,_⟩:=h
  rfl
 ·obtain⟨lx,AF,lt,n,Ao,ps,rv,rfl,hL,B4,hh⟩:=h
  refine⟨_,af (aP (aw lh (pv 1) cv (aB _)) (ai (ar (aY dB rfl T.tuple PySem.Pv.boot_tuple (aa (bA (own:=["lane"]) (capN:=[]) (cap:=[]) R6 rfl (kZ (al (pv 0) rfl))
     (fun C s' H' fp=>⟨ay (i:=0) R8 rfl (Or.inl rfl),ca,aj⟩)) ad)))) aH)
   (af (aP (iK (PW.pt (fK (aw jS (av aq rfl T.len PySem.boot_len (aa (pv 1) ad)) (av aq rfl T.len PySem.boot_len (aa (al (pv 0) rfl) ad)) (aB _))
     (e9 (bS (bF (av (jA rfl) rfl T.all PyProof.Rows.boot_all (aa (bA (own:=["room"]) (capN:=[]) (cap:=[]) R7 rfl (LN (cb (pv 1)) (kZ (pv 1)))
      (fun C s' H' fp=>⟨ay (i:=0) LO rfl (Or.inl rfl),ca,au Gw hr rfl mw kw bw .nil ap (aa (pv 0) (aa aj (aa (eB (v := .int 60) rfl mp ⟨_,rfl⟩) ad)))⟩)) ad))))))))
    (ai (b9 rfl X.x aO (bY X.x X.k rfl rfl X.m (aa b8 ad)))) aH)
   (ai (ar (aY dB rfl T.tuple PySem.Pv.boot_tuple (aa (pv 1) ad))))),?_⟩
  have Fm:Ao.length=ps.length:=Paired.length hL.2.2
  refine⟨_,rfl,rfl,_,rfl,?_⟩
  rcases hh with ⟨rfl,q⟩ | ⟨ra,Aw,rfl,hR,DB,Dq,qE,q⟩
  ·refine aK ⟨_,rfl,lx,c.land,AF,_,_,rfl,hL.1,L.cl,L.nl,rfl,lt,rfl,⟨_,An.of hL.2.1⟩,?_⟩
   refine uY (fun _ => .int 1) (by rw[sizeLine_eq];omega) (An.of hL.2.1) (fun x N hx h=>h) (fun D hD=>?_)
   have s1:=(Ab.refl H).new (o := .lst (Ao.map fun _=>V.int 1)) hD
   refine⟨D,_,rfl, .inl ⟨Ah.of ac,fun t ht=>q t _ (s1.new ht) ?_⟩⟩
   rw[ac,List.map_const',Fm]
  ·refine aI ?_
   have len1:∀ {H:Hp},Sq K H ra Aw->(Ah K H ra Aw∨An K H ra Aw):=fun h=>h
   refine⟨fun b H'=>Ab H H'/\b = !mz ps.length Aw,?_,?_⟩
   ·refine⟨_,rfl,ra,Aw,rfl,hR,_,rfl,lx,c.land,AF,_,_,rfl,hL.1,L.cl,L.nl,rfl,lt,_,rfl, .inr (An.of hL.2.1),rfl,_,rfl,?_⟩
    rw[bK,Fm]
    by_cases LP:Aw.length=ps.length
    rotate_left
    ·rw[decide_eq_false (show ¬ ((Aw.length:Nat):Int)=(ps.length:Nat) by omega)]
     refine aK ⟨Ab.refl H,?_⟩
     unfold mz
     rw[decide_eq_false LP];rfl
    rw[decide_eq_true (show((Aw.length:Nat):Int)=(ps.length:Nat) by omega)]
    have step:∀ (x:V)(N:V->Hp->Prop),x ∈ Aw->N (.bl (jT x 1 60)) H->rG x:=fun x _ hx _=>Dq x hx
    have fin:∀ D,H D=none->∃ (p:Addr)(bs:List Bool),[V.ref D]=[.ref p]/\Ah K (upd H D (.lst (Aw.map fun v=>V.bl (jT v 1 60)))) p (bs.map V.bl)/\∃ cc,V.bl (bs.all id) = .bl cc/\(Ab H (upd H D (.lst (Aw.map fun v=>V.bl (jT v 1 60))))/\(!cc) = !mz ps.length Aw):=fun D hD=>by
     refine⟨D,Aw.map fun v=>jT v 1 60,rfl,Ah.of (by rw[ac,map_map];rfl),_,rfl,(Ab.refl H).new hD,?_⟩
     unfold mz
     rw[decide_eq_true LP,Bool.true_and,all_map];rfl
    refine aI ?_
    rcases hR with hR | hR
    ·refine .inl ⟨_,rfl,ra,rfl,⟨_,hR⟩,?_⟩
     exact zM (fun v => .bl (jT v 1 60)) (by rw[sizeLine_eq];omega) hR (fun x N hx h=>⟨_,rfl,x,1,60,rfl,Dq x hx,h⟩) fin
    ·refine .inr ⟨_,rfl,ra,rfl,⟨_,hR⟩,?_⟩
     exact uY (fun v => .bl (jT v 1 60)) (by rw[sizeLine_eq];omega) hR (fun x N hx h=>⟨_,rfl,x,1,60,rfl,Dq x hx,h⟩) fin
   rintro b H' ⟨s',rfl⟩
   cases Aj:mz ps.length Aw with
   | false=>exact aK ⟨by show 1 <= sizeLine;decide,qE Aj H' s'⟩
   | true =>
    refine aI ⟨_,rfl,ra,Aw,rfl,?_⟩
    rcases hR with hR | hR
    ·exact .inl ⟨s'.seq hR,fun t ht=>q Aj t _ (s'.new ht) (An.of ac)⟩
    ·exact .inr ⟨bq s' hR,q Aj ra _ s' (bq s' hR)⟩
theorem R9:ao ["word"] ["word"] (ah sP):=L2.AG
theorem wf {f fh:Addr}{fd dh:FuncData}(F:AA K "is_word" "is_word" sP f fd)(T:dE mg)(mh:mg "is_whole" = some (.ref fh))(kh:keepIn K (.ref fh)=true)(bh:Binds K dh ["value"] [])(G:Ac P w K mg base aC 1 fh dh ["value"] gk) :
  Ac P w K mg base aC 2 f fd ["word"] rW:=by
 refine F.ok R9 (fun vs H Q E h=>?_) (fun cdv A outer s H vs Q E hr h=>?_)
 ·obtain⟨v,rfl,_⟩:=h
  rfl
 ·obtain⟨v,rfl,hv,q⟩:=h
  refine⟨_,ai (ar (cY (au G hr rfl mh kh bh .nil ap (aa (pv 0) ad)) (cX (c5 jo (av uZ rfl T.abs PyProof.Rows.boot_abs (aa (pv 0) ad)) (aG tY aj aj) (aB _))))),?_⟩
  cases hv with
  | int i=>exact⟨_,rfl,_,rfl, .int i,true,rfl,aK ⟨_,rfl,i,rfl,_,_,rfl,rfl,⟨by decide,by decide,by decide⟩,_,_,rfl,rfl,q⟩⟩
  | bl b=>exact⟨_,rfl,_,rfl, .bl b,false,rfl,aI q⟩
  | Av=>exact⟨_,rfl,_,rfl, .Av,false,rfl,aI q⟩
theorem RA:ao ["self", "start", "goal"] ["self", "start", "goal"] (ah vF):=L2.AG
theorem LQ {f:Addr}{fd:FuncData}(F:AA K "__init__" "NoWay.__init__" vF f fd):Ac P w K mg base aC 1 f fd ["self", "start", "goal"] (xx K "start" "goal"):=by
 refine F.ok RA (fun vs H Q E h=>?_) (fun cdv A outer s H vs Q E hr h=>?_)
 ·obtain⟨e,C,tt,v1,v2,rfl,_⟩:=h
  rfl
 ·obtain⟨e,C,tt,v1,v2,rfl,he,hx,n1,n2,q⟩:=h
  refine⟨_,af (tO (pv 0) (pv 1) rfl) (ai (tN (pv 0) (pv 2) rfl)),?_⟩
  refine⟨_,rfl,_,rfl,e,C,tt,rfl,he,hx,n1,fun d hd=>?_⟩
  have W9:e ≠ d:=ag he hd
  refine⟨_,rfl,_,rfl,e,C,tt,d,[("start",v1)],rfl,ac,by rw[ae (Ne.symm W9)];exact ac,by show 1 < 1000;decide,hx,n2,?_⟩
  refine q d _ hd (fun b o nb eb=>?_) (by rw[ae W9];exact ac) (by rw[ac];rfl)
  have WA:b ≠ d:=ag eb hd
  rw[ae WA,ae nb,ae WA]
  exact eb
noncomputable abbrev Wf:=Nat->Nat->Option Nat->List Nat
noncomputable abbrev TJ:=Hp->Addr->Nat->Wf->Prop
noncomputable def NL:HO->Prop
 | .lst _=>False
 | .ins _ _ []=>False
 | .BE _=>False
 | _=>True
noncomputable def Ax (H H':Hp):Prop:=∀ b o,H b=some o->NL o->H' b=some o
theorem Ab.Am {H H':Hp}(s:Ab H H'):Ax H H':=fun b o e _=>s b o e
theorem Ax.trans {H H1 H2:Hp}(a:Ax H H1)(b:Ax H1 H2):Ax H H2:=fun x o e n=>b x o (a x o e n) n
theorem Ax.DL {H H':Hp}(k:Ax H H'){vs:List V}{ps:List (Int × Int)}(h:AB H vs ps):AB H' vs ps:=AB.imp (fun _ _ ⟨t,e,q⟩=>⟨t,e,k _ _ q True.intro⟩) h
structure AO (c:Cs)(C:Addr)(J:TJ)(H:Hp)(x lx AF lt:Addr)(n:Nat)(Ao:List V)(ps:List (Int × Int))(wy:Wf):Prop where
 j:J H x n wy
 i:∃ dx fs,H x=some (.ins C dx fs)/\fs.lookup ("land":Str)=some (.ref lx)/\fs.lookup ("ways":Str)=none
 l:cn H c lx AF lt (n:Int) Ao ps
 RB:n <= 12
 Bd:ps.length <= 40
 ok:∀ p g k,p < n->g < n->∀ z ∈ wy p g k,z < ps.length
structure Wy (K:Frag)(C fw:Addr)(dw:FuncData)(J:TJ):Prop where
 cl:C2 K C
 nl:Aq K C "land"
 m:bz K C "ways" fw
 b:Binds K dw ["self", "place", "goal", "came"] []
 BF:∀ H H' x n wy,J H x n wy->Ax H H'->J H' x n wy
theorem AO.keep {K:Frag}{c:Cs}{C fw:Addr}{dw:FuncData}{J:TJ}{H H':Hp}{x lx AF lt:Addr}{n:Nat}{Ao:List V}{ps:List (Int × Int)}{wy:Wf}(W:Wy K C fw dw J)(h:AO c C J H x lx AF lt n Ao ps wy)(k:Ax H H'):AO c C J H' x lx AF lt n Ao ps wy :=
 ⟨W.BF _ _ _ _ _ h.j k,let ⟨dx,fs,h1,h2⟩:=h.i; ⟨dx,fs,k _ _ h1 (by cases fs with | nil=>cases h2.1 | cons _ _=>exact True.intro),h2⟩,⟨k _ _ h.l.1 True.intro,k _ _ h.l.2.1 True.intro,k.DL h.l.2.2⟩,h.RB,h.Bd,h.ok⟩
noncomputable def dY (J:TJ):Sp:=fun vs H Q _=>∃ (x:Addr)(n:Nat)(wy:Wf)(p g:Nat)(k:Option Nat),vs=[.ref x, .int p, .int g,cV k]/\J H x n wy/\p < n/\g < n/\∀ (D:Addr)(H':Hp),Ab H H'->H D=none->H' D=some (.lst (nV (wy p g k)))->Q (.ref D) H'
structure ck where
 r:Int
 b:Int
 h:Option Int
 qs:List (Int × Int)
structure cj where
 start:Int
 goal:Int
 len:Int
 word:Int
 gone:Int
 way:List Nat
structure YS where
 rooms:List V
 lanes:List ck
 U:List cj
 lies:List (List (Int × Int))
 done:List (List V)
structure Ys where
 Ad:Addr
 AD:Addr
 Ae:Addr
 ex:List Addr
noncomputable def Cm (H:Hp)(C:Addr)(ex:List Addr)(v:V)(s:ck):Prop:=∃ x dx pa Au,v = .ref x/\Az H C x dx pa s.r s.b s.h Au s.qs/\pa ∉ ex
noncomputable def oH (s:cj)(wa:Addr):Fs:=[("start", .int s.start),("goal", .int s.goal),("length", .int s.len),("word", .int s.word),("gone", .int s.gone),("way", .ref wa)]
noncomputable def CJ (H:Hp)(C:Addr)(ex:List Addr)(v:V)(s:cj):Prop:=∃ x dx wa,v = .ref x/\H x=some (.ins C dx (oH s wa))/\H wa=some (.lst (nV s.way))/\wa ∉ ex
noncomputable def B3 (H:Hp)(v:V)(qs:List (Int × Int)):Prop:=∃ t vs,v = .ref t/\H t=some (.tup vs)/\AB H vs qs
noncomputable def Bc (H:Hp)(v:V)(m:List V):Prop:=∃ t,v = .ref t/\H t=some (.tup m)
theorem Paired.mono {α β:Type}{R R':α->β->Prop}(h:∀ a b,R a b->R' a b):∀ {as:List α}{bs:List β},Paired R as bs->Paired R' as bs:=fun Af=>by
 induction Af with
 | nil=>exact .nil
 | cons x r ih=>exact .cons (h _ _ x) ih
theorem Paired.snoc {α β:Type}{R:α->β->Prop}{a:α}{b:β}(h:R a b):∀ {as:List α}{bs:List β},Paired R as bs->Paired R (as ++ [a]) (bs ++ [b]):=fun Af=>by
 induction Af with
 | nil=>exact .cons h .nil
 | cons x r ih=>exact .cons x ih
theorem Paired.at {α β:Type}{R:α->β->Prop}:∀ {as:List α}{bs:List β}{i:Nat}{a:α},Paired R as bs->as[i]? = some a->∃ b,bs[i]? = some b/\R a b:=by
 intro _ _ i _ Af
 induction Af generalizing i with
 | nil=>intro h;cases h
 | cons x r ih =>
  intro h
  cases i with
  | zero=>cases h;exact⟨_,rfl,x⟩
  | succ i=>exact ih (i:=i) h
theorem Paired.at2 {α β:Type}{R:α->β->Prop}:∀ {as:List α}{bs:List β}{i:Nat}{b:β},Paired R as bs->bs[i]? = some b->∃ a,as[i]? = some a/\R a b:=by
 intro _ _ i _ Af
 induction Af generalizing i with
 | nil=>intro h;cases h
 | cons x r ih =>
  intro h
  cases i with
  | zero=>cases h;exact⟨_,rfl,x⟩
  | succ i=>exact ih (i:=i) h
noncomputable def Ai (ex:List Addr)(H H':Hp):Prop:=∀ b o,b ∉ ex->H b=some o->H' b=some o
theorem Ab.AJ {ex:List Addr}{H H':Hp}(s:Ab H H'):Ai ex H H':=fun b o _ e=>s b o e
theorem Ai.trans {ex:List Addr}{H H1 H2:Hp}(a:Ai ex H H1)(b:Ai ex H1 H2):Ai ex H H2:=fun x o n e=>b x o n (a x o n e)
theorem AB.AJ {ex:List Addr}{H H':Hp}(hx:∀ b ∈ ex,∃ xs,H b=some (.lst xs))(o:Ai ex H H'){vs:List V}{ps:List (Int × Int)}(h:AB H vs ps):AB H' vs ps :=
 AB.imp (fun _ _ Af=>by obtain⟨t,e,q⟩:=Af;exact⟨t,e,o _ _ (fun z=>by obtain⟨xs,hz⟩:=hx _ z;rw[q]at hz;cases hz) q⟩) h
theorem Ai.GU {ex:List Addr}{H H':Hp}(hx:∀ b ∈ ex,∃ o,H b=some o/\¬ NL o)(o:Ai ex H H'):Ax H H':=fun b u e n=>o b u (fun z=>by obtain⟨o',hz,hn⟩:=hx _ z;rw[e]at hz;cases hz;exact hn n) e
theorem Ai.Am {ex:List Addr}{H H':Hp}(hx:∀ b ∈ ex,∃ xs,H b=some (.lst xs))(o:Ai ex H H'):Ax H H':=o.GU fun b hb=>let ⟨xs,hz⟩:=hx b hb; ⟨_,hz,id⟩
theorem Cm.AJ {ex:List Addr}{H H':Hp}{C:Addr}{v:V}{s:ck}(hx:∀ b ∈ ex,∃ xs,H b=some (.lst xs))(o:Ai ex H H')(h:Cm H C ex v s):Cm H' C ex v s:=by
 obtain⟨x,dx,pa,Au,e,L,n⟩:=h
 have k:=o.Am hx
 exact⟨x,dx,pa,Au,e,⟨k _ _ L.ins True.intro,o _ _ n L.lst,AB.AJ hx o L.Bl⟩,n⟩
theorem CJ.AJ {ex:List Addr}{H H':Hp}{C:Addr}{v:V}{s:cj}(hx:∀ b ∈ ex,∃ xs,H b=some (.lst xs))(o:Ai ex H H')(h:CJ H C ex v s):CJ H' C ex v s:=by
 obtain⟨x,dx,wa,e,h1,h2,n⟩:=h
 exact⟨x,dx,wa,e,o.Am hx _ _ h1 True.intro,o _ _ n h2,n⟩
theorem B3.keep {H H':Hp}{v:V}{qs:List (Int × Int)}(k:Ax H H')(h:B3 H v qs):B3 H' v qs:=by
 obtain⟨t,vs,e,h1,h2⟩:=h
 exact⟨t,vs,e,k _ _ h1 True.intro,k.DL h2⟩
theorem Bc.keep {H H':Hp}{v:V}{m:List V}(k:Ax H H')(h:Bc H v m):Bc H' v m:=by
 obtain⟨t,e,h1⟩:=h
 exact⟨t,e,k _ _ h1 True.intro⟩
noncomputable def pc (tb ro la le li dn:Addr):Fs:=[("table", .ref tb),("rooms", .ref ro),("lanes", .ref la),("letters", .ref le),("lies", .ref li),("done", .ref dn)]
structure Ak (K:Frag)(ys:Ys)(H:Hp)(y dy tb ro la le li dn:Addr)(s:YS):Prop where
 ins:H y=some (.ins ys.Ad dy (pc tb ro la le li dn))
 GV:An K H ro s.rooms
 AZ:∃ vs,H la=some (.lst vs)/\Paired (Cm H ys.AD (la :: le :: li :: dn :: ys.ex)) vs s.lanes
 hle:∃ vs,H le=some (.lst vs)/\Paired (CJ H ys.Ae (la :: le :: li :: dn :: ys.ex)) vs s.U
 Ca:∃ vs,H li=some (.lst vs)/\Paired (B3 H) vs s.lies
 BD:∃ vs,H dn=some (.lst vs)/\Paired (Bc H) vs s.done
 ne:[la,le,li,dn].Nodup
 hex:∀ b ∈ ys.ex,∃ xs,H b=some (.lst xs)
theorem Ak.Ba {K:Frag}{ys:Ys}{H:Hp}{y dy tb ro la le li dn:Addr}{s:YS}(h:Ak K ys H y dy tb ro la le li dn s):∀ b ∈ [la,le,li,dn],∃ xs,H b=some (.lst xs):=by
 intro b hb
 obtain⟨v1,h1,_⟩:=h.AZ
 obtain⟨v2,h2,_⟩:=h.hle
 obtain⟨v3,h3,_⟩:=h.Ca
 obtain⟨v4,h4,_⟩:=h.BD
 simp only[mem_cons,not_mem_nil,or_false]at hb
 rcases hb with rfl | rfl | rfl | rfl
 ·exact⟨_,h1⟩
 ·exact⟨_,h2⟩
 ·exact⟨_,h3⟩
 ·exact⟨_,h4⟩
theorem Ak.Dr {K:Frag}{ys:Ys}{H:Hp}{y dy tb ro la le li dn:Addr}{s:YS}(h:Ak K ys H y dy tb ro la le li dn s):∀ b ∈ la :: le :: li :: dn :: ys.ex,∃ xs,H b=some (.lst xs):=by
 intro b hb
 have e:la :: le :: li :: dn :: ys.ex=[la,le,li,dn] ++ ys.ex:=rfl
 rw[e]at hb
 rcases mem_append.mp hb with hb | hb
 ·exact h.Ba b hb
 ·exact h.hex b hb
theorem Ak.same {K:Frag}{ys:Ys}{H H':Hp}{y dy tb ro la le li dn:Addr}{s:YS}(h:Ak K ys H y dy tb ro la le li dn s)(e:Ab H H'):Ak K ys H' y dy tb ro la le li dn s:=by
 have hx:=h.Dr
 obtain⟨v1,h1,p1⟩:=h.AZ
 obtain⟨v2,h2,p2⟩:=h.hle
 obtain⟨v3,h3,p3⟩:=h.Ca
 obtain⟨v4,h4,p4⟩:=h.BD
 have o:Ai (la :: le :: li :: dn :: ys.ex) H H':=Ab.AJ e
 exact⟨e _ _ h.ins,bq e h.GV,⟨v1,e _ _ h1,Paired.mono (fun _ _ z=>z.AJ hx o) p1⟩,⟨v2,e _ _ h2,Paired.mono (fun _ _ z=>z.AJ hx o) p2⟩,⟨v3,e _ _ h3,Paired.mono (fun _ _ z=>z.keep (Ab.Am e)) p3⟩,⟨v4,e _ _ h4,Paired.mono (fun _ _ z=>z.keep (Ab.Am e)) p4⟩,h.ne,fun b hb=>let ⟨xs,hz⟩:=h.hex b hb; ⟨xs,e _ _ hz⟩⟩
structure hU (K:Frag)(ys:Ys):Prop where
 cl:C2 K ys.Ad
 n1:Aq K ys.Ad "table"
 n2:Aq K ys.Ad "rooms"
 n3:Aq K ys.Ad "lanes"
 n4:Aq K ys.Ad "letters"
 n5:Aq K ys.Ad "lies"
 n6:Aq K ys.Ad "done"
 ct:C2 K ys.Ae
 t1:Aq K ys.Ae "start"
 t2:Aq K ys.Ae "goal"
 t3:Aq K ys.Ae "length"
 t4:Aq K ys.Ae "word"
 t5:Aq K ys.Ae "gone"
 t6:Aq K ys.Ae "way"
 L:xo K ys.AD
noncomputable def sw (C:Addr):Sp:=fun vs H Q _=>∃ (x dx:Addr)(a b l u:Int),vs=[.ref x, .int a, .int b, .int l, .int u]/\H x=some (.ins C dx [])/\∀ (wa:Addr)(H':Hp),H wa=none->(∀ z o,z ≠ x->H z=some o->H' z=some o)->H' x=some (.ins C dx (oH ⟨a,b,l,u,0,[]⟩ wa))->H' wa=some (.lst (nV []))->Q .Av H'
theorem LR:ao ["self", "start", "goal", "length", "word"] ["self", "start", "goal", "length", "word"] (ah tw):=L2.AG
theorem zb {ys:Ys}{f:Addr}{fd:FuncData}(F:AA K "__init__" "Letter.__init__" tw f fd)(Y:hU K ys):Ac P w K mg base aC 1 f fd ["self", "start", "goal", "length", "word"] (sw ys.Ae):=by
 refine F.ok LR (fun vs H Q E h=>?_) (fun cdv A outer s H vs Q E hr h=>?_)
 ·obtain⟨x,dx,a,b,l,u,rfl,_⟩:=h
  rfl
 ·obtain⟨x,dx,a,b,l,u,rfl,hx,q⟩:=h
  refine⟨_,af (aT (pv 0) (pv 1) rfl) (af (aT (pv 0) (pv 2) rfl) (af (aT (pv 0) (pv 3) rfl) (af (aT (pv 0) (pv 4) rfl) (af (aT (pv 0) aj rfl) (ai (aT (pv 0) (aX ad) rfl)))))),?_⟩
  refine⟨_,rfl,_,rfl,x,ys.Ae,dx,_,rfl,hx,Y.ct,Y.t1,by show 0 < 1000;decide,?_⟩
  refine⟨_,rfl,_,rfl,x,ys.Ae,dx,_,rfl,ac,Y.ct,Y.t2,by show 1 < 1000;decide,?_⟩
  refine⟨_,rfl,_,rfl,x,ys.Ae,dx,_,rfl,ac,Y.ct,Y.t3,by show 2 < 1000;decide,?_⟩
  refine⟨_,rfl,_,rfl,x,ys.Ae,dx,_,rfl,ac,Y.ct,Y.t4,by show 3 < 1000;decide,?_⟩
  refine⟨_,rfl,x,ys.Ae,dx,_,rfl,ac,Y.ct,Y.t5,by show 4 < 1000;decide,?_⟩
  refine⟨zero_le _,fun wa Eb=>?_⟩
  have F9:x ≠ wa:=ag ac Eb
  refine⟨_,rfl,x,ys.Ae,dx,_,rfl,by rw[ae F9];exact ac,Y.ct,Y.t6,by show 5 < 1000;decide,?_⟩
  have LS:H wa=none:=by
   rw[ae (Ne.symm F9),ae (Ne.symm F9),ae (Ne.symm F9),ae (Ne.symm F9),ae (Ne.symm F9)]at Eb
   exact Eb
  refine q wa _ LS (fun z o nz e=>?_) ac (by rw[ae (Ne.symm F9)];exact ac)
  have nzw:z ≠ wa:=ag e LS
  rw[ae nz,ae nzw,ae nz,ae nz,ae nz,ae nz,ae nz]
  exact e
noncomputable def vI:V->Int
 | .int i=>i
 | _=>0
noncomputable def rf (v:V):ck:=⟨vI v,0,none,[]⟩
noncomputable def Y0 (rooms:List V)(n:Nat):YS:=⟨rooms,rooms.map rf,[],List.replicate n [],[]⟩
noncomputable def BP (H0 H:Hp)(C:Addr)(v:V)(s:ck):Prop:=∃ x dx pa,v = .ref x/\Az H C x dx pa s.r s.b s.h [] []/\s.qs=[]/\H0 x=none/\H0 pa=none
theorem BP.same {H0 H H':Hp}{C:Addr}{v:V}{s:ck}(h:BP H0 H C v s)(e:Ab H H'):BP H0 H' C v s:=by
 obtain⟨x,dx,pa,h1,h2,h3⟩:=h
 exact⟨x,dx,pa,h1,h2.same e,h3⟩
noncomputable def AR (y:Addr)(ex:List Addr)(H:Hp)(C:Addr)(v:V)(s:ck):Prop:=∃ x dx pa,v = .ref x/\Az H C x dx pa s.r s.b s.h [] []/\s.qs=[]/\x ≠ y/\pa ≠ y/\pa ∉ ex
theorem BP.LU {H0 H:Hp}{C y:Addr}{v:V}{s:ck}{u:HO}(h:BP H0 H C v s){ex:List Addr}(hy:H0 y=some u)(hx:∀ b ∈ ex,∃ o,H0 b=some o):AR y ex H C v s:=by
 obtain⟨x,dx,pa,h1,h2,h3,h4,h5⟩:=h
 exact⟨x,dx,pa,h1,h2,h3,(fun z=>by rw[z,hy]at h4;cases h4),(fun z=>by rw[z,hy]at h5;cases h5),fun z=>by obtain⟨o,ho⟩:=hx _ z;rw[h5]at ho;cases ho⟩
theorem AR.same {y:Addr}{ex:List Addr}{H H':Hp}{C:Addr}{v:V}{s:ck}(h:AR y ex H C v s)(e:Ab H H'):AR y ex H' C v s:=by
 obtain⟨x,dx,pa,h1,h2,h3⟩:=h
 exact⟨x,dx,pa,h1,h2.same e,h3⟩
theorem AR.upd {y:Addr}{ex:List Addr}{H:Hp}{C:Addr}{v:V}{s:ck}{o:HO}(h:AR y ex H C v s):AR y ex (upd H y o) C v s:=by
 obtain⟨x,dx,pa,h1,h2,h3,h4,h5,h6⟩:=h
 exact⟨x,dx,pa,h1,⟨by rw[ae h4];exact h2.ins,by rw[ae h5];exact h2.lst, .nil⟩,h3,h4,h5,h6⟩
theorem AR.new {y a:Addr}{ex:List Addr}{H:Hp}{C:Addr}{v:V}{s:ck}{o:HO}(h:AR y ex H C v s)(ha:H a=none):AR y (a :: ex) (L2.upd H a o) C v s:=by
 obtain⟨x,dx,pa,h1,h2,h3,h4,h5,h6⟩:=h
 exact⟨x,dx,pa,h1,h2.same ((Ab.refl H).new ha),h3,h4,h5,fun z=>(mem_cons.mp z).elim (fun z=>by rw[z]at h2;rw[h2.lst]at ha;cases ha) h6⟩
theorem AR.LV {y:Addr}{ex Jo:List Addr}{H:Hp}{C:Addr}{v:V}{s:ck}(h:AR y ex H C v s)(hs:∀ a ∈ Jo,a ∈ ex):Cm H C Jo v s:=by
 obtain⟨x,dx,pa,h1,h2,h3,h4,h5,h6⟩:=h
 exact⟨x,dx,pa,[],h1,by rw[h3];exact h2,fun z=>h6 (hs _ z)⟩
theorem oU {K:Frag}{ro C:Addr}{Aw:List V}{g:TG}{te:TE}{σ0:St}{H:Hp}{Q:VK}(hn:Aw.length < sizeLine)(ha:An K H ro Aw)(hint:∀ v ∈ Aw,∃ r,v = .int r)
  (hs:∀ (r:Int)(H1:Hp)(N:V->Hp->Prop),Ab H H1->(∀ x dx pa H2,H1 x=none->H1 pa=none->Ab H1 H2->Az H2 C x dx pa r 0 none [] []->N (.ref x) H2)->g (.int r) σ0 H1 fun σ2 H2=>te σ2 H2 N)
  (hq:∀ D vs H1,Ab H H1->H1 D=none->Paired (BP H H1 C) vs (Aw.map rf)->Q (.ref D) (upd H1 D (.lst vs))):dQ (OD K ro) g nI te σ0 Q H:=by
 refine bQ Aw.length hn (fun i acc H'=>Ab H H'/\Paired (BP H H' C) acc ((Aw.take i).map rf)) ⟨Ab.refl _, .nil⟩ (fun i acc H' h=>by have:=Paired.length h.2;rw[this,length_map];exact length_take_le _ _) (fun i acc H' hi h=>?_) (fun acc H' h=>?_)
 ·obtain⟨s,hL⟩:=h
  refine⟨⟨Aw,Aw[i],bq s ha,by simp[hi]⟩,fun v H2 y=>?_⟩
  obtain⟨e,y⟩:=y
  subst e
  have hv:=y _ (bq s ha)
  obtain⟨r,rfl⟩:=hint v (mem_of_getElem? hv)
  refine hs r H2 (fun y H4=>Ab H H4/\Paired (BP H H4 C) (acc ++ [y]) ((Aw.take (i + 1)).map rf)) s fun x dx pa H3 nx FA s3 CI=>⟨s.trans s3,?_⟩
  rw[take_succ,hv,Option.toList_some,map_append]
  exact Paired.snoc (b:=rf (.int r)) ⟨x,dx,pa,rfl,CI,rfl,s.free nx,s.free FA⟩ (Paired.mono (fun _ _ z=>z.same s3) hL)
 ·obtain⟨s,hL⟩:=h
  rw[take_length]at hL
  exact⟨⟨Aw,bq s ha,le_refl _⟩,fun D hD=>hq D acc H' s hD hL⟩
theorem rD {n:Nat}{g:TG}{te:TE}{σ0:St}{H:Hp}{Q:VK}(hn:n <= 1000)
  (hs:∀ (i:Nat)(H1:Hp)(N:V->Hp->Prop),Ab H H1->(∀ t,H1 t=none->N (.ref t) (upd H1 t (.tup [])))->g (.int (0 + i)) σ0 H1 fun σ2 H2=>te σ2 H2 N)
  (hq:∀ D vs H1,Ab H H1->H1 D=none->Paired (B3 H1) vs (List.replicate n [])->Q (.ref D) (upd H1 D (.lst vs))):dQ (vn 0 n) g nI te σ0 Q H:=by
 refine bQ n (by rw[sizeLine_eq];omega) (fun i acc H'=>Ab H H'/\Paired (B3 H') acc (List.replicate i [])) ⟨Ab.refl _, .nil⟩ (fun i acc H' h=>by have:=Paired.length h.2;rw[this,length_replicate];exact le_refl _) (fun i acc H' hi h=>?_) (fun acc H' h=>?_)
 ·obtain⟨s,hL⟩:=h
  refine⟨hi,fun v H2 y=>?_⟩
  obtain⟨e1,e2⟩:=y
  subst e1 e2
  refine hs i H2 (fun y H4=>Ab H H4/\Paired (B3 H4) (acc ++ [y]) (List.replicate (i + 1) [])) s fun t ht=>⟨s.new ht,?_⟩
  rw[List.replicate_succ']
  exact Paired.snoc ⟨t,[],rfl,ac, .nil⟩ (Paired.mono (fun _ _ z=>z.keep (Ab.Am ((Ab.refl H2).new ht))) hL)
 ·obtain⟨s,hL⟩:=h
  exact⟨le_refl n,fun D hD=>hq D acc H' s hD hL⟩
theorem dX {K:Frag}{H:Hp}{a y C d:Addr}{fs:Fs}{o:HO}{xs:List V}(hy:H y=some (.ins C d fs))(h:An K H a xs):An K (upd H y o) a xs:=by
 rcases h with h | h
 ·refine .inl ?_
  rcases h with h | ⟨u,h⟩
  ·exact .inl (by rw[ae (aU h hy (by intro z;cases z))];exact h)
  ·exact .inr ⟨u,by rw[ae (aU h hy (by intro z;cases z))];exact h⟩
 ·exact .inr h
theorem vy {K:Frag}{H:Hp}{a y C d:Addr}{fs:Fs}{o:HO}{xs:List V}(hy:H y=some (.ins C d fs))(h:Ah K H a xs):Ah K (upd H y o) a xs:=by
 rcases h with h | h
 ·refine .inl ?_
  rcases h with h | ⟨u,h⟩
  ·exact .inl (by rw[ae (aU h hy (by intro z;cases z))];exact h)
  ·exact .inr ⟨u,by rw[ae (aU h hy (by intro z;cases z))];exact h⟩
 ·exact .inr h
noncomputable def ph (K:Frag)(c:Cs)(TC:Addr)(J:TJ)(ys:Ys)(nr:Addr):Sp:=fun vs H Q E=>∃ (y dy tb lx AF lt:Addr)(n:Nat)(Ao:List V)(ps:List (Int × Int))(wy:Wf)(rv:V)(Aw:List V),vs=[.ref y, .ref tb,rv]/\H y=some (.ins ys.Ad dy [])/\AO c TC J H tb lx AF lt n Ao ps wy/\(∀ b ∈ ys.ex,∃ xs,H b=some (.lst xs)) /\
 ((rv = .Av/\Aw=List.replicate ps.length (.int 1))∨(∃ ra,rv = .ref ra/\Sq K H ra Aw/\Aw.length <= 1000/\(∀ v ∈ Aw,rG v)/\(mz ps.length Aw=false->∀ H',Ai [y] H H'->E (.ref nr) none H'))) /\
 (mz ps.length Aw=true->∀ (ro la le li dn:Addr)(H':Hp),Ai [y] H H'->H la=none->H le=none->H li=none->H dn=none->Ak K ys H' y dy tb ro la le li dn (Y0 Aw n)->Q .Av H')
noncomputable def LW (s:Stmt):Scope:=match s with
 | .Assign _ (.ListComp _ _ sc _) _=>sc
 | _=>{ kind := .function,names:=[],isGenerator:=false,isCoroutine:=false }
theorem gJ {v:V}{a b:Int}(h:jT v a b=true):∃ r,v = .int r:=by
 cases v<;>first | exact⟨_,rfl⟩ | cases h
theorem RC:ao ["self", "table", "rooms"] ["self", "table", "rooms"] (ah ie):=L2.AG
theorem LX:Bv ["self", "table", "rooms"] (ah ie) (LW ((aE ie).getD 2 (.Pass ⟨0,0,0,0⟩))) [] []:=L2.Cu
theorem LY:Bv ["self", "table", "rooms"] (ah ie) (LW ((aE ie).getD 4 (.Pass ⟨0,0,0,0⟩))) [] []:=L2.Cu
theorem LZ:(["place"]:List Str).Nodup:=by decide +kernel
theorem yQ {c:Cs}{ys:Ys}{J:TJ}{TC f GX fr fl nr:Addr}{fd GZ dr dl:FuncData}(F:DZ K "__init__" "Yard.__init__" ie f fd)(T:dE mg)(L:lC K c)(Y:hU K ys)(W:Wy K TC GX GZ J)
  (mr:mg "rooms_of" = some (.ref fr)) (kr:keepIn K (.ref fr)=true) (br:Binds K dr ["land", "rooms"] []) (Gr:Ac P w K mg base (dR P w) 3 fr dr ["land", "rooms"] (p0 K c nr))
  (ml:mg "Lane" = some (.ref ys.AD)) (Ml:Mk K ys.AD fl) (bl:Binds K dl ["self", "room"] []) (Gl:Ac P w K mg base aC 1 fl dl ["self", "room"] (sy ys.AD)) :
  Ac P w K mg base (dR P w) 4 f fd ["self", "table", "rooms"] (ph K c TC J ys nr):=by
 refine F.Fe RC (fun vs H Q E h=>?_) (fun cdv A outer s H vs Q E hr h=>?_)
 ·obtain⟨y,dy,tb,lx,AF,lt,n,Ao,ps,wy,rv,Aw,rfl,_⟩:=h
  rfl
 ·obtain⟨y,dy,tb,lx,AF,lt,n,Ao,ps,wy,rv,Aw,rfl,hy,hT,hex,hrv,q⟩:=h
  have Hg:∀ b ∈ ys.ex,b ∉ [y]:=fun b hb z=>by obtain⟨xs,hz⟩:=hex b hb;rw[mem_singleton.mp z,hy]at hz;cases hz
  have Bw:Al 2 _:=hr.mono (by decide)
  refine⟨_,af (aT (pv 0) (pv 1) rfl)
   (af (aT (pv 0) (lb (au Gr hr rfl mr kr br .nil (BM.passes aO rfl) (aa (al (pv 1) rfl) (aa (pv 2) ad)))) rfl)
   (af (aT (pv 0) (bA (own:=["room"]) (capN:=[]) (cap:=[]) LX rfl (kZ (al (pv 0) rfl)) (fun C s' H' fp=>⟨ay (i:=0) LO rfl (Or.inl rfl),ca,c4 Ml Gl Bw rfl ml bl .nil ap (aa (pv 0) ad)⟩)) rfl)
   (af (aT (pv 0) (aX ad) rfl)
   (af (aT (pv 0) (bA (own:=["place"]) (capN:=[]) (cap:=[]) LY rfl (aM rfl T.range (aa (al (al (pv 1) rfl) rfl) ad)) (fun C s' H' fp=>⟨ay (i:=0) LZ rfl (Or.inl rfl),ca,bJ ad⟩)) rfl)
   (ai (aT (pv 0) (aX ad) rfl)))))),?_⟩
  have hm40:=hT.Bd
  have RD:=hT.RB
  obtain⟨C5,fst,Cj,AM,_⟩:=hT.i
  have kp:∀ {H':Hp},Ai [y] H H'->Ax H H':=fun o=>o.GU fun b hb=>by rw[mem_singleton.mp hb];exact⟨_,hy,id⟩
  have RE:tb ≠ y:=aU Cj hy (fun z=>by injection z with _ _ z3;rw[z3]at AM;cases AM)
  refine⟨_,rfl,_,rfl,y,ys.Ad,dy,_,rfl,hy,Y.cl,Y.n1,by show 0 < 1000;decide,?_⟩
  have o1:Ai [y] H (upd H y (.ins ys.Ad dy (aJ "table" (.ref tb) []))):=fun b o nb e=>by rw[ae (fun z=>nb (by rw[z];exact mem_singleton.mpr rfl))];exact e
  have g1:(upd H y (.ins ys.Ad dy (aJ "table" (.ref tb) []))) y=some (.ins ys.Ad dy [("table", .ref tb)]):=ac
  have WB:∀ ra,Sq K H ra Aw->Sq K (upd H y (.ins ys.Ad dy (aJ "table" (.ref tb) []))) ra Aw:=fun ra h=>h.elim (fun h => .inl (vy hy h)) fun h => .inr (dX hy h)
  show _
  generalize upd H y (.ins ys.Ad dy (aJ "table" (.ref tb) []))=A1 at o1 g1 WB ⊢
  have hT1:=hT.keep W (kp o1)
  have J7:∀ {Ha Hb:Hp}{o:HO},Ai [y] Ha Hb->Ai [y] Ha (upd Hb y o):=fun {Ha Hb o} h b u nb e=>by rw[ae (fun z=>nb (by rw[z];exact mem_singleton.mpr rfl))];exact h b u nb e
  refine⟨fun v A2=>∃ ro,v = .ref ro/\Ab A1 A2/\An K A2 ro Aw/\mz ps.length Aw=true,?_,?_⟩
  ·refine⟨_,rfl,tb,TC,C5,fst,_,rfl,o1 _ _ (fun z=>RE (mem_singleton.mp z)) Cj,W.cl,W.nl,AM,_,rfl,lx,AF,lt,(n:Int),Ao,ps,rv,rfl,hT1.l,by omega,?_⟩
   rcases hrv with ⟨rfl,rfl⟩ | ⟨ra,rfl,hR,DB,Dq,qE⟩
   ·refine .inl ⟨rfl,fun t A2 s2 ht=>⟨t,rfl,s2,An.of ht,?_⟩⟩
    unfold mz
    rw[length_replicate,decide_eq_true rfl,Bool.true_and,all_eq_true]
    intro v hv
    rw[eq_of_mem_replicate hv];rfl
   ·have hR1:Sq K A1 ra Aw:=WB ra hR
    exact .inr ⟨ra,Aw,rfl,hR1,DB,Dq,fun Aj A2 s2=>qE Aj A2 (o1.trans (Ab.AJ s2)),fun Aj t A2 s2 ht=>⟨t,rfl,s2,ht,Aj⟩⟩
  rintro v A2 ⟨ro,rfl,s2,GV,Aj⟩
  have B1:Aw.length=ps.length/\∀ v ∈ Aw,∃ r,v = .int r:=by
   unfold mz at Aj
   rw[Bool.and_eq_true,decide_eq_true_eq,all_eq_true]at Aj
   exact⟨Aj.1,fun v hv=>gJ (Aj.2 v hv)⟩
  have o2:Ai [y] H A2:=o1.trans (Ab.AJ s2)
  have g2:=s2 _ _ g1
  refine⟨_,rfl,y,ys.Ad,dy,_,rfl,g2,Y.cl,Y.n2,by show 1 < 1000;decide,?_⟩
  have o3:=J7 (o := .ins ys.Ad dy (aJ "rooms" (.ref ro) [("table", .ref tb)])) o2
  have g3:(upd A2 y (.ins ys.Ad dy (aJ "rooms" (.ref ro) [("table", .ref tb)]))) y=some (.ins ys.Ad dy [("table", .ref tb),("rooms", .ref ro)]):=ac
  have FC:An K (upd A2 y (.ins ys.Ad dy (aJ "rooms" (.ref ro) [("table", .ref tb)]))) ro Aw:=dX g2 GV
  show _
  generalize upd A2 y (.ins ys.Ad dy (aJ "rooms" (.ref ro) [("table", .ref tb)]))=A3 at o3 g3 FC ⊢
  have RF:∀ b ∈ ys.ex,∃ o,A3 b=some o:=fun b hb=>let ⟨xs,hz⟩:=hex b hb; ⟨_,o3 b _ (Hg b hb) hz⟩
  refine⟨_,rfl,y,ys.Ad,dy,_,_,rfl,g3,Y.cl,Y.n2,rfl,ro,rfl,⟨_,FC⟩,?_⟩
  refine oU (C:=ys.AD) (by rw[sizeLine_eq];omega) FC B1.2 (fun r B N sB hN=>?_) (fun la Ap A4 s4 AZ FD=>?_)
  ·refine⟨_,rfl,fun x dx nx Mb Hg=>⟨x,dx,r,rfl,ac,fun pa B2 Ea off hL=>⟨rfl,?_⟩⟩⟩
   have Dp:B pa=none:=by
    by_cases e1:pa=x
    ·rw[e1,ac]at Ea;cases Ea
    ·by_cases e2:pa=dx
     ·rw[e2,ae Hg,ac]at Ea;cases Ea
     ·rw[ae e1,ae e2]at Ea;exact Ea
   refine hN x dx pa B2 nx Dp (fun b o e=>off b o (ag e nx) ?_) hL
   rw[ae (ag e nx),ae (ag e Mb)]
   exact e
  have o4:Ai [y] H A4:=o3.trans (Ab.AJ s4)
  have g4:=s4 _ _ g3
  have FE:la ≠ y:=Ne.symm (ag g4 AZ)
  have RG:H la=none:=by
   cases e:H la with
   | none=>rfl
   | some u=>rw[o4 _ _ (fun z=>FE (mem_singleton.mp z)) e]at AZ;cases AZ
  have WC:Paired (AR y (la :: ys.ex) (upd A4 la (.lst Ap)) ys.AD) Ap (Aw.map rf):=Paired.mono (fun _ _ z=>(z.LU g3 RF).new AZ) FD
  have o5:Ai [y] H (upd A4 la (.lst Ap)):=o4.trans (Ab.AJ ((Ab.refl A4).new AZ))
  have g5:(upd A4 la (.lst Ap)) y=some (.ins ys.Ad dy [("table", .ref tb),("rooms", .ref ro)]):=by rw[ae (Ne.symm FE)];exact g4
  have Mc:(upd A4 la (.lst Ap)) la=some (.lst Ap):=ac
  have Md:An K (upd A4 la (.lst Ap)) ro Aw:=bq ((Ab.refl A4).new AZ) (bq s4 FC)
  refine⟨_,rfl,y,ys.Ad,dy,_,rfl,g5,Y.cl,Y.n3,by show 2 < 1000;decide,?_⟩
  generalize upd A4 la (.lst Ap)=A5 at WC o5 g5 Mc Md ⊢
  have WD:Paired (AR y (la :: ys.ex) (upd A5 y (.ins ys.Ad dy (aJ "lanes" (.ref la) [("table", .ref tb),("rooms", .ref ro)]))) ys.AD) Ap (Aw.map rf):=Paired.mono (fun _ _ z=>z.upd) WC
  have o6:=J7 (o := .ins ys.Ad dy (aJ "lanes" (.ref la) [("table", .ref tb),("rooms", .ref ro)])) o5
  have g6:(upd A5 y (.ins ys.Ad dy (aJ "lanes" (.ref la) [("table", .ref tb),("rooms", .ref ro)]))) y=some (.ins ys.Ad dy [("table", .ref tb),("rooms", .ref ro),("lanes", .ref la)]):=ac
  have Iw:(upd A5 y (.ins ys.Ad dy (aJ "lanes" (.ref la) [("table", .ref tb),("rooms", .ref ro)]))) la=some (.lst Ap):=by rw[ae FE];exact Mc
  have Mf:=dX (o := .ins ys.Ad dy (aJ "lanes" (.ref la) [("table", .ref tb),("rooms", .ref ro)])) g5 Md
  generalize upd A5 y (.ins ys.Ad dy (aJ "lanes" (.ref la) [("table", .ref tb),("rooms", .ref ro)]))=A6 at WD o6 g6 Iw Mf ⊢
  refine⟨zero_le _,fun le hle=>?_⟩
  have Hh:le ≠ y:=Ne.symm (ag g6 hle)
  have Hi:la ≠ le:=ag Iw hle
  have Mg:H le=none:=by
   cases e:H le with
   | none=>rfl
   | some u=>rw[o6 _ _ (fun z=>Hh (mem_singleton.mp z)) e]at hle;cases hle
  have WE:Paired (AR y (le :: la :: ys.ex) (upd A6 le (.lst [])) ys.AD) Ap (Aw.map rf):=Paired.mono (fun _ _ z=>z.new hle) WD
  have o7:Ai [y] H (upd A6 le (.lst [])):=o6.trans (Ab.AJ ((Ab.refl A6).new hle))
  have g7:(upd A6 le (.lst [])) y=some (.ins ys.Ad dy [("table", .ref tb),("rooms", .ref ro),("lanes", .ref la)]):=by rw[ae (Ne.symm Hh)];exact g6
  have Mj:(upd A6 le (.lst [])) la=some (.lst Ap):=by rw[ae Hi];exact Iw
  have Mm:(upd A6 le (.lst [])) le=some (.lst []):=ac
  have Mo:An K (upd A6 le (.lst [])) ro Aw:=bq ((Ab.refl A6).new hle) Mf
  refine⟨_,rfl,y,ys.Ad,dy,_,rfl,g7,Y.cl,Y.n4,by show 3 < 1000;decide,?_⟩
  generalize upd A6 le (.lst [])=A7 at WE o7 g7 Mj Mm Mo ⊢
  have WH:Paired (AR y (le :: la :: ys.ex) (upd A7 y (.ins ys.Ad dy (aJ "letters" (.ref le) [("table", .ref tb),("rooms", .ref ro),("lanes", .ref la)]))) ys.AD) Ap (Aw.map rf):=Paired.mono (fun _ _ z=>z.upd) WE
  have o8:=J7 (o := .ins ys.Ad dy (aJ "letters" (.ref le) [("table", .ref tb),("rooms", .ref ro),("lanes", .ref la)])) o7
  have g8:(upd A7 y (.ins ys.Ad dy (aJ "letters" (.ref le) [("table", .ref tb),("rooms", .ref ro),("lanes", .ref la)]))) y=some (.ins ys.Ad dy [("table", .ref tb),("rooms", .ref ro),("lanes", .ref la),("letters", .ref le)]):=ac
  have Iy:(upd A7 y (.ins ys.Ad dy (aJ "letters" (.ref le) [("table", .ref tb),("rooms", .ref ro),("lanes", .ref la)]))) la=some (.lst Ap):=by rw[ae FE];exact Mj
  have Iz:(upd A7 y (.ins ys.Ad dy (aJ "letters" (.ref le) [("table", .ref tb),("rooms", .ref ro),("lanes", .ref la)]))) le=some (.lst []):=by rw[ae Hh];exact Mm
  have Mp:=dX (o := .ins ys.Ad dy (aJ "letters" (.ref le) [("table", .ref tb),("rooms", .ref ro),("lanes", .ref la)])) g7 Mo
  generalize upd A7 y (.ins ys.Ad dy (aJ "letters" (.ref le) [("table", .ref tb),("rooms", .ref ro),("lanes", .ref la)]))=A8 at WH o8 g8 Iy Iz Mp ⊢
  have hT8:=hT.keep W (kp o8)
  refine⟨_,rfl,tb,TC,C5,fst,_,rfl,o8 _ _ (fun z=>RE (mem_singleton.mp z)) Cj,W.cl,W.nl,AM,lx,c.land,AF,_,_,rfl,hT8.l.1,L.cl,L.np,rfl,(n:Int),rfl,by omega,by omega,?_⟩
  rw[toNat_natCast]
  refine rD (by omega) (fun i B N sB hN=>⟨zero_le _,fun t ht=>hN t ht⟩) (fun li EI A9 s9 Ca hLi=>?_)
  have g9:=s9 _ _ g8
  have o9:Ai [y] H A9:=o8.trans (Ab.AJ s9)
  have J8:li ≠ y:=Ne.symm (ag g9 Ca)
  have Mq:la ≠ li:=ag (s9 _ _ Iy) Ca
  have Mr:le ≠ li:=ag (s9 _ _ Iz) Ca
  have I0:H li=none:=by
   cases e:H li with
   | none=>rfl
   | some u=>rw[o9 _ _ (fun z=>J8 (mem_singleton.mp z)) e]at Ca;cases Ca
  have J9:=(Ab.refl A9).new (o := .lst EI) Ca
  have Ms:Paired (AR y (li :: le :: la :: ys.ex) (upd A9 li (.lst EI)) ys.AD) Ap (Aw.map rf):=Paired.mono (fun _ _ z=>(z.same s9).new Ca) WH
  have Hj:Paired (B3 (upd A9 li (.lst EI))) EI (List.replicate n []):=Paired.mono (fun _ _ z=>z.keep (Ab.Am J9)) hLi
  have Hk:(upd A9 li (.lst EI)) li=some (.lst EI):=ac
  have WI:Ai [y] H (upd A9 li (.lst EI)):=o9.trans (Ab.AJ J9)
  have Ph:=J9 _ _ g9
  have Hl:=J9 _ _ (s9 _ _ Iy)
  have Hm:=J9 _ _ (s9 _ _ Iz)
  have Hn:=bq J9 (bq s9 Mp)
  refine⟨_,rfl,y,ys.Ad,dy,_,rfl,Ph,Y.cl,Y.n5,by show 4 < 1000;decide,?_⟩
  generalize upd A9 li (.lst EI)=IA at Ms Hj Hk WI Ph Hl Hm Hn ⊢
  have Mu:∀ {B:Hp}{o:HO}{C d:Addr}{fs:Fs}{v:V}{qs:List (Int × Int)},B y=some (.ins C d fs)->B3 B v qs->B3 (upd B y o) v qs:=fun {B o C d fs v qs} hB h=>by
   obtain⟨t,ws,e,h1,h2⟩:=h
   exact⟨t,ws,e,by rw[ae (aU h1 hB (by intro z;cases z))];exact h1,AB.imp (fun _ _ Af=>by obtain⟨t',e',q'⟩:=Af;exact⟨t',e',by rw[ae (aU q' hB (by intro z;cases z))];exact q'⟩) h2⟩
  have Mw:Paired (AR y (li :: le :: la :: ys.ex) (upd IA y (.ins ys.Ad dy (aJ "lies" (.ref li) [("table", .ref tb),("rooms", .ref ro),("lanes", .ref la),("letters", .ref le)]))) ys.AD) Ap (Aw.map rf):=Paired.mono (fun _ _ z=>z.upd) Ms
  have Ho:Paired (B3 (upd IA y (.ins ys.Ad dy (aJ "lies" (.ref li) [("table", .ref tb),("rooms", .ref ro),("lanes", .ref la),("letters", .ref le)])))) EI (List.replicate n []):=Paired.mono (fun _ _ z=>Mu Ph z) Hj
  have Pj:=J7 (o := .ins ys.Ad dy (aJ "lies" (.ref li) [("table", .ref tb),("rooms", .ref ro),("lanes", .ref la),("letters", .ref le)])) WI
  have RH:(upd IA y (.ins ys.Ad dy (aJ "lies" (.ref li) [("table", .ref tb),("rooms", .ref ro),("lanes", .ref la),("letters", .ref le)]))) y=some (.ins ys.Ad dy [("table", .ref tb),("rooms", .ref ro),("lanes", .ref la),("letters", .ref le),("lies", .ref li)]):=ac
  have EJ:(upd IA y (.ins ys.Ad dy (aJ "lies" (.ref li) [("table", .ref tb),("rooms", .ref ro),("lanes", .ref la),("letters", .ref le)]))) la=some (.lst Ap):=by rw[ae FE];exact Hl
  have EK:(upd IA y (.ins ys.Ad dy (aJ "lies" (.ref li) [("table", .ref tb),("rooms", .ref ro),("lanes", .ref la),("letters", .ref le)]))) le=some (.lst []):=by rw[ae Hh];exact Hm
  have EL:(upd IA y (.ins ys.Ad dy (aJ "lies" (.ref li) [("table", .ref tb),("rooms", .ref ro),("lanes", .ref la),("letters", .ref le)]))) li=some (.lst EI):=by rw[ae J8];exact Hk
  have Hq:=dX (o := .ins ys.Ad dy (aJ "lies" (.ref li) [("table", .ref tb),("rooms", .ref ro),("lanes", .ref la),("letters", .ref le)])) Ph Hn
  generalize upd IA y (.ins ys.Ad dy (aJ "lies" (.ref li) [("table", .ref tb),("rooms", .ref ro),("lanes", .ref la),("letters", .ref le)]))=A11 at Mw Ho Pj RH EJ EK EL Hq ⊢
  refine⟨zero_le _,fun dn BD=>?_⟩
  have JA:dn ≠ y:=Ne.symm (ag RH BD)
  have Mx:la ≠ dn:=ag EJ BD
  have Mz:le ≠ dn:=ag EK BD
  have M0:li ≠ dn:=ag EL BD
  have RI:H dn=none:=by
   cases e:H dn with
   | none=>rfl
   | some u=>rw[Pj _ _ (fun z=>JA (mem_singleton.mp z)) e]at BD;cases BD
  have Hr:=(Ab.refl A11).new (o := .lst []) BD
  have RJ:=Hr _ _ RH
  refine⟨_,rfl,y,ys.Ad,dy,_,rfl,RJ,Y.cl,Y.n6,by show 5 < 1000;decide,?_⟩
  refine q Aj ro la le li dn _ (J7 (Pj.trans (Ab.AJ Hr))) RG Mg I0 RI ⟨ac,dX RJ (bq Hr Hq),⟨Ap,by rw[ae FE];exact Hr _ _ EJ,?_⟩,⟨[],by rw[ae Hh];exact Hr _ _ EK, .nil⟩,⟨EI,by rw[ae J8];exact Hr _ _ EL,Paired.mono (fun _ _ z=>Mu RJ (z.keep (Ab.Am Hr))) Ho⟩,⟨[],by rw[ae JA];exact ac, .nil⟩,?_,(fun b hb=>let ⟨xs,hz⟩:=hex b hb; ⟨xs,(J7 (Pj.trans (Ab.AJ Hr))) b _ (Hg b hb) hz⟩)⟩
  ·refine Paired.mono (fun _ _ z=>((z.new BD).upd).LV fun a ha=>?_) Mw
   simp only[mem_cons]at ha ⊢
   rcases ha with rfl | rfl | rfl | rfl | h
   ·exact .inr (.inr (.inr (.inl rfl)))
   ·exact .inr (.inr (.inl rfl))
   ·exact .inr (.inl rfl)
   ·exact .inl rfl
   ·exact .inr (.inr (.inr (.inr h)))
  ·simp only[nodup_cons,mem_cons,not_mem_nil,or_false,not_or,not_false_eq_true,and_true,nodup_nil]
   exact⟨⟨Hi,Mq,Mx⟩,⟨Mr,Mz⟩,M0⟩
theorem Ak.off {K:Frag}{ys:Ys}{H H':Hp}{y dy tb ro la le li dn:Addr}{s:YS}(h:Ak K ys H y dy tb ro la le li dn s)(o:Ai (la :: le :: li :: dn :: ys.ex) H H'):H' y=some (.ins ys.Ad dy (pc tb ro la le li dn))/\An K H' ro s.rooms/\(∀ vs ss,Paired (Cm H ys.AD (la :: le :: li :: dn :: ys.ex)) vs ss->Paired (Cm H' ys.AD (la :: le :: li :: dn :: ys.ex)) vs ss)/\(∀ vs ss,Paired (CJ H ys.Ae (la :: le :: li :: dn :: ys.ex)) vs ss->Paired (CJ H' ys.Ae (la :: le :: li :: dn :: ys.ex)) vs ss)/\(∀ vs ss,Paired (B3 H) vs ss->Paired (B3 H') vs ss)/\∀ vs ss,Paired (Bc H) vs ss->Paired (Bc H') vs ss:=by
 have hx:=h.Dr
 have k:=o.Am hx
 refine⟨k _ _ h.ins True.intro,?_,fun vs ss=>Paired.mono fun _ _ z=>z.AJ hx o,fun vs ss=>Paired.mono fun _ _ z=>z.AJ hx o,fun vs ss=>Paired.mono fun _ _ z=>z.keep k,fun vs ss=>Paired.mono fun _ _ z=>z.keep k⟩
 rcases h.GV with r | r
 ·refine .inl ?_
  rcases r with r | ⟨u,r⟩
  ·exact .inl (k _ _ r True.intro)
  ·exact .inr ⟨u,k _ _ r True.intro⟩
 ·exact .inr r
theorem cp {ex:List Addr}{a:Addr}{H:Hp}{o:HO}(ha:a ∈ ex):Ai ex H (upd H a o):=fun b u nb e=>by rw[ae (fun z=>nb (by rw[z];exact ha))];exact e
theorem qj {H:Hp}{x b:Addr}{zs:List V}(h:∃ xs,H b=some (.lst xs)):∃ xs,(upd H x (.lst zs)) b=some (.lst xs):=by
 by_cases e:b=x
 ·exact⟨zs,by rw[e,ac]⟩
 ·obtain⟨xs,hz⟩:=h
  exact⟨xs,by rw[ae e];exact hz⟩
theorem Ak.M3 {K:Frag}{ys:Ys}{H:Hp}{y dy tb ro la le li dn:Addr}{s:YS}(h:Ak K ys H y dy tb ro la le li dn s){vs:List V}{v:V}{t:cj}(hv:H le=some (.lst vs))(hL:CJ H ys.Ae (la :: le :: li :: dn :: ys.ex) v t):Ak K ys (upd H le (.lst (vs ++ [v]))) y dy tb ro la le li dn { s with U:=s.U ++ [t] }:=by
 obtain⟨h1,h2,f1,f2,f3,f4⟩:=h.off (cp (a:=le) (o := .lst (vs ++ [v])) (by simp))
 obtain⟨v1,a1,p1⟩:=h.AZ
 obtain⟨v2,a2,p2⟩:=h.hle
 obtain⟨v3,a3,p3⟩:=h.Ca
 obtain⟨v4,a4,p4⟩:=h.BD
 rw[hv]at a2
 cases a2
 have ne:=h.ne
 simp only[nodup_cons,mem_cons,not_mem_nil,or_false,not_or,not_false_eq_true,and_true,nodup_nil]at ne
 have RK:Paired (CJ (upd H le (.lst (vs ++ [v]))) ys.Ae (la :: le :: li :: dn :: ys.ex)) [v] [t]:=f2 [v] [t] (.cons hL .nil)
 exact⟨h1,h2,⟨v1,by rw[ae ne.1.1];exact a1,f1 _ _ p1⟩,⟨vs ++ [v],ac,Paired.snoc (by cases RK with | cons z _=>exact z) (f2 _ _ p2)⟩,⟨v3,by rw[ae (Ne.symm ne.2.1.1)];exact a3,f3 _ _ p3⟩,⟨v4,by rw[ae (Ne.symm ne.2.1.2)];exact a4,f4 _ _ p4⟩,h.ne,fun b hb=>qj (h.hex b hb)⟩
theorem Ak.Hs {K:Frag}{ys:Ys}{H:Hp}{y dy tb ro la le li dn:Addr}{s:YS}(h:Ak K ys H y dy tb ro la le li dn s){vs:List V}{v:V}{t:List V}(hv:H dn=some (.lst vs))(hL:Bc H v t):Ak K ys (upd H dn (.lst (vs ++ [v]))) y dy tb ro la le li dn { s with done:=s.done ++ [t] }:=by
 obtain⟨h1,h2,f1,f2,f3,f4⟩:=h.off (cp (a:=dn) (o := .lst (vs ++ [v])) (by simp))
 obtain⟨v1,a1,p1⟩:=h.AZ
 obtain⟨v2,a2,p2⟩:=h.hle
 obtain⟨v3,a3,p3⟩:=h.Ca
 obtain⟨v4,a4,p4⟩:=h.BD
 rw[hv]at a4
 cases a4
 have ne:=h.ne
 simp only[nodup_cons,mem_cons,not_mem_nil,or_false,not_or,not_false_eq_true,and_true,nodup_nil]at ne
 have RK:Paired (Bc (upd H dn (.lst (vs ++ [v])))) [v] [t]:=f4 [v] [t] (.cons hL .nil)
 exact⟨h1,h2,⟨v1,by rw[ae ne.1.2.2];exact a1,f1 _ _ p1⟩,⟨v2,by rw[ae ne.2.1.2];exact a2,f2 _ _ p2⟩,⟨v3,by rw[ae ne.2.2];exact a3,f3 _ _ p3⟩,⟨vs ++ [v],ac,Paired.snoc (by cases RK with | cons z _=>exact z) (f4 _ _ p4)⟩,h.ne,fun b hb=>qj (h.hex b hb)⟩
inductive Pd
 | place | length | word | way | full | good
noncomputable def ld (n:Nat)(wy:Wf)(m:Nat)(sv gv lv wv:V):Pd :=
 if (jT sv 0 ((n:Int) - 1) && jT gv 0 ((n:Int) - 1))=false then .place else if jT lv 1 60=false then .length else if J6 wv=false then .word
 else if vI sv=vI gv∨wy (vI sv).toNat (vI gv).toNat none=[] then .way else if 60 <= m then .full else .good
structure Xs where
 place:Addr
 length:Addr
 word:Addr
 way:Addr
 full:Addr
noncomputable def i3 (s:YS)(a b l u:Int):YS:={ s with U:=s.U ++ [⟨a,b,l,u,0,[]⟩],done:=s.done ++ [[.str "post", .int a, .int b, .int l, .int u]] }
noncomputable def nQ (K:Frag)(c:Cs)(TC:Addr)(J:TJ)(ys:Ys)(x:Xs):Sp:=fun vs H Q E=>∃ (y dy tb ro la le li dn lx AF lt:Addr)(n:Nat)(Ao:List V)(ps:List (Int × Int))(wy:Wf)(s:YS)(sv gv lv wv:V),vs=[.ref y,sv,gv,lv,wv]/\Ak K ys H y dy tb ro la le li dn s/\AO c TC J H tb lx AF lt n Ao ps wy/\rG sv/\rG gv/\rG lv/\rG wv/\s.U.length <= 900/\s.done.length <= 10000 /\
 (ld n wy s.U.length sv gv lv wv = .place->∀ H',Ab H H'->E (.ref x.place) none H') /\
 (ld n wy s.U.length sv gv lv wv = .length->∀ H',Ab H H'->E (.ref x.length) none H') /\
 (ld n wy s.U.length sv gv lv wv = .word->∀ H',Ab H H'->E (.ref x.word) none H') /\
 (ld n wy s.U.length sv gv lv wv = .way->∀ H' d,Ab H H'->H' d=some (.xd [("start",sv),("goal",gv)])->E (.ref x.way) (some d) H') /\
 (ld n wy s.U.length sv gv lv wv = .full->∀ H',Ab H H'->E (.ref x.full) none H') /\
 (ld n wy s.U.length sv gv lv wv = .good->∀ H',Ai [le,dn] H H'->Ak K ys H' y dy tb ro la le li dn (i3 s (vI sv) (vI gv) (vI lv) (vI wv))->Q (.int s.U.length) H')
structure WJ (K:Frag)(mg:Str->Option Value)(C f:Addr)(d:FuncData):Prop where
 m:mg "NoWay" = some (.ref C)
 x:b7 K C (some (.ref f))=true
 k:keepIn K (.ref C)=true
 c:fV K C
 n1:findIn K (.ref C) "start" = some none
 n2:findIn K (.ref C) "goal" = some none
 i:isFn K (.ref f)=true
 F:AA K "__init__" "NoWay.__init__" vF f d
 b:Binds K d ["self", "start", "goal"] []
noncomputable abbrev NPo:List Str:=["self", "start", "goal", "length", "word", "last_place"]
noncomputable abbrev M4:List Str:=["self", "start", "goal", "length", "word"]
theorem M5:ao NPo M4 (ah gA):=L2.AG
theorem wn {c:Cs}{ys:Ys}{x:Xs}{J:TJ}{TC f GX fw RL fl WK:Addr}{fd GZ dw WL dl WM:FuncData}{t1 t2:Tok}(F:DZ K "post" "Yard.post" gA f fd)(T:dE mg)(L:lC K c)(Y:hU K ys)(W:Wy K TC GX GZ J)(IB:Ac P w K mg base aC 3 GX GZ ["self", "place", "goal", "came"] (dY J))
  (mw:mg "is_within" = some (.ref fw)) (kw:keepIn K (.ref fw)=true) (bw:Binds K dw ["value", "least", "most"] []) (Gw:Ac P w K mg base aC 2 fw dw ["value", "least", "most"] fv)
  (mwo:mg "is_word" = some (.ref RL)) (kwo:keepIn K (.ref RL)=true) (bwo:Binds K WL ["word"] []) (RM:Ac P w K mg base aC 2 RL WL ["word"] rW)
  (ml:mg "Letter" = some (.ref ys.Ae)) (Ml:Mk K ys.Ae fl) (bl:Binds K dl ["self", "start", "goal", "length", "word"] []) (Gl:Ac P w K mg base aC 1 fl dl ["self", "start", "goal", "length", "word"] (sw ys.Ae))
  (mL:mg "MOST_LENGTH" = some (.int 60 t1)) (mM:mg "MOST_LETTERS" = some (.int 60 t2)) (X1:vo K mg "NoPlace" x.place) (X2:vo K mg "NoLength" x.length) (X3:vo K mg "NoWord" x.word) (X4:WJ K mg x.way WK WM) (X5:vo K mg "Full" x.full) :
  Ac P w K mg base (dR P w) 4 f fd M4 (nQ K c TC J ys x):=by
 have Gnw:Ac P w K mg base aC 1 WK WM ["self", "start", "goal"] (xx K "start" "goal"):=LQ X4.F
 refine F.Fe M5 (fun vs H Q E h=>?_) (fun cdv A outer s H vs Q E hr h=>?_)
 ·obtain⟨y,dy,tb,ro,la,le,li,dn,lx,AF,lt,n,Ao,ps,wy,s,sv,gv,lv,wv,rfl,_⟩:=h
  rfl
 ·obtain⟨y,dy,tb,ro,la,le,li,dn,lx,AF,lt,n,Ao,ps,wy,st,sv,gv,lv,wv,rfl,hY,hT,cs,cg,cl,cw,hl9,hd9,e1,e2,e3,e4,e5,q⟩:=h
  have Bw:Al 2 _:=hr.mono (by decide)
  refine⟨_,af (aA (i:=5) M5.nd rfl (Or.inl rfl) (aG cx (al (al (al (pv 0) rfl) rfl) rfl) aj))
   (af (aP (PW.pt (fK (bS (bF (au Gw Bw rfl mw kw bw .nil ap (aa (pv 1) (aa aj (aa (pv 5) ad)))))) (e9 (bS (bF (au Gw Bw rfl mw kw bw .nil ap (aa (pv 2) (aa aj (aa (pv 5) ad)))))))))
    (ai (b9 rfl X1.x aO (bY X1.x X1.k rfl rfl X1.m (aa b8 ad)))) aH)
   (af (aP (bS (bF (au Gw Bw rfl mw kw bw .nil ap (aa (pv 3) (aa aj (aa (eB (v := .int 60) rfl mL ⟨_,rfl⟩) ad))))))
    (ai (b9 rfl X2.x aO (bY X2.x X2.k rfl rfl X2.m (aa b8 ad)))) aH)
   (af (aP (bS (bF (au RM Bw rfl mwo kwo bwo .nil ap (aa (pv 4) ad))))
    (ai (b9 rfl X3.x aO (bY X3.x X3.k rfl rfl X3.m (aa b8 ad)))) aH)
   (af (aP (iK (PW.pt (fK (aw bC (pv 1) (pv 2) (aB _)) (e9 (bS (gG (aD (al (pv 0) rfl) W.cl W.m IB hr W.b .nil ap (aa (pv 1) (aa (pv 2) (aa cv ad)))) (fun _=>rfl)))))))
    (ai (b9 rfl X4.x aO (iI X4.x X4.i X4.k Gnw Bw X4.b rfl X4.m (aa (pv 1) (aa (pv 2) ad))))) aH)
   (af (aP (aw xG (av aq rfl T.len PySem.boot_len (aa (al (pv 0) rfl) ad)) (eB (v := .int 60) rfl mM ⟨_,rfl⟩) (aB _))
    (ai (b9 rfl X5.x aO (bY X5.x X5.k rfl rfl X5.m (aa b8 ad)))) aH)
   (af (aN (cu plainAttrs_list PySem.F.slot_list_append PySem.F.type_list_append bD (al (pv 0) rfl) (aa (c4 Ml Gl Bw rfl ml bl .nil ap (aa (pv 1) (aa (pv 2) (aa (pv 3) (aa (pv 4) ad))))) ad)))
   (af (aN (cu plainAttrs_list PySem.F.slot_list_append PySem.F.type_list_append bD (al (pv 0) rfl) (aa (bJ (aa b8 (aa (pv 1) (aa (pv 2) (aa (pv 3) (aa (pv 4) ad)))))) ad)))
   (ai (ar (aG cx (av aq rfl T.len PySem.boot_len (aa (al (pv 0) rfl) ad)) aj)))))))))),?_⟩
  obtain⟨C5,fst,Cj,AM,B7⟩:=hT.i
  unfold ld at e1 e2 e3 e4 e5 q
  refine⟨_,rfl,y,ys.Ad,dy,_,_,rfl,hY.ins,Y.cl,Y.n1,rfl,tb,TC,C5,fst,_,rfl,Cj,W.cl,W.nl,AM,lx,c.land,AF,_,_,rfl,hT.l.1,L.cl,L.np,rfl,_,_,rfl,rfl,?_⟩
  refine⟨_,rfl,_,rfl,sv,0,(n:Int) - 1,rfl,cs,_,rfl,?_⟩
  cases h1:jT sv 0 ((n:Int) - 1) with
  | false =>
   refine aK (aK ⟨by show 1 <= sizeLine;decide,?_⟩)
   exact e1 (by rw[h1,Bool.false_and,if_pos rfl]) H (Ab.refl H)
  | true =>
  refine aI ⟨_,rfl,_,rfl,gv,0,(n:Int) - 1,rfl,cg,_,rfl,?_⟩
  cases h2:jT gv 0 ((n:Int) - 1) with
  | false =>
   refine aK ⟨by show 1 <= sizeLine;decide,?_⟩
   exact e1 (by rw[h1,h2,Bool.and_false,if_pos rfl]) H (Ab.refl H)
  | true =>
  rw[h1,h2,Bool.true_and,if_neg (by decide)]at e2 e3 e4 e5 q
  refine aI ⟨_,rfl,lv,1,60,rfl,cl,_,rfl,?_⟩
  cases h3:jT lv 1 60 with
  | false =>
   refine aK ⟨by show 1 <= sizeLine;decide,?_⟩
   exact e2 (by rw[h3,if_pos rfl]) H (Ab.refl H)
  | true =>
  rw[h3,if_neg (by decide)]at e3 e4 e5 q
  refine aI ⟨_,rfl,wv,rfl,cw,_,rfl,?_⟩
  cases h4:J6 wv with
  | false =>
   refine aK ⟨by show 1 <= sizeLine;decide,?_⟩
   exact e3 (by rw[h4,if_pos rfl]) H (Ab.refl H)
  | true =>
  rw[h4,if_neg (by decide)]at e4 e5 q
  refine aI ?_
  obtain⟨a,rfl⟩:=gJ h1
  obtain⟨b,rfl⟩:=gJ h2
  obtain⟨l,rfl⟩:=gJ h3
  obtain⟨u,rfl⟩:∃ u,wv = .int u:=by
   cases wv<;>first | exact⟨_,rfl⟩ | cases h4
  have ha:0 <= a/\a <= (n:Int) - 1:=of_decide_eq_true h1
  have hb:0 <= b/\b <= (n:Int) - 1:=of_decide_eq_true h2
  obtain⟨a',rfl⟩:∃ a':Nat,a=(a':Int):=⟨a.toNat,by omega⟩
  obtain⟨b',rfl⟩:∃ b':Nat,b=(b':Int):=⟨b.toNat,by omega⟩
  have ev:∀ z:Int,vI (.int z)=z:=fun _=>rfl
  rw[ev,ev,toNat_natCast,toNat_natCast]at e4 e5 q
  refine⟨fun k H1=>Ab H H1/\k=decide ((a':Int)=(b':Int)∨wy a' b' none=[]),?_,?_⟩
  ·refine⟨_,rfl,_,rfl,rfl,_,rfl,?_⟩
   rw[bK]
   by_cases Ht:(a':Int)=(b':Int)
   ·rw[decide_eq_true Ht]
    exact aK ⟨Ab.refl H,by rw[decide_eq_true (Or.inl Ht)]⟩
   ·rw[decide_eq_false Ht]
    refine aI ⟨_,rfl,y,ys.Ad,dy,_,_,rfl,hY.ins,Y.cl,Y.n1,rfl,tb,C5,fst,rfl,Cj,B7,_,rfl,_,rfl,tb,n,wy,a',b',none,rfl,hT.j,by omega,by omega,fun D H1 s1 hD gD=>⟨_, .inl ⟨_,Ah.of gD,rfl⟩,s1,?_⟩⟩
    cases hw:wy a' b' none with
    | nil=>rw[decide_eq_true (Or.inr rfl)];rfl
    | cons z zs=>rw[decide_eq_false (fun z=>z.elim Ht fun z=>by cases z)];rfl
  rintro k H1 ⟨s1,rfl⟩
  have Cg:=hY.same s1
  by_cases FF:(a':Int)=(b':Int)∨wy a' b' none=[]
  ·rw[decide_eq_true FF]
   refine aK ⟨_,rfl,_,rfl,by show 2 <= sizeLine;decide,fun e tt he=>⟨e,_,tt,_,_,rfl,ac,X4.c,X4.n1,X4.n2,fun d H2 hd off Ff hd2=>⟨rfl,some d,Ff,?_⟩⟩⟩
   have Fl:d ≠ e:=fun z=>by rw[z,ac]at hd;cases hd
   refine e4 (by rw[if_pos FF]) _ d (fun z o ez=>?_) (by rw[dz Fl];exact hd2)
   have RN:z ≠ e:=ag (s1 _ _ ez) he
   rw[dz RN]
   exact off z o RN (by rw[ae RN];exact s1 _ _ ez)
  rw[decide_eq_false FF]
  rw[if_neg FF]at e5 q
  refine aI ?_
  obtain⟨Ec,B0,pl⟩:=Cg.hle
  have Fm:Ec.length=st.U.length:=Paired.length pl
  refine⟨_,rfl,y,ys.Ad,dy,_,_,rfl,Cg.ins,Y.cl,Y.n4,rfl,le,_,rfl, .inl (Ah.of B0),_,_,rfl,rfl,_,rfl,?_⟩
  by_cases Hu:60 <= st.U.length
  ·rw[decide_eq_true (show (60:Int) <= (Ec.length:Nat) by omega)]
   refine aK ⟨by show 1 <= sizeLine;decide,?_⟩
   exact e5 (by rw[if_pos Hu]) H1 s1
  rw[decide_eq_false (show ¬ (60:Int) <= (Ec.length:Nat) by omega)]
  rw[if_neg Hu]at q
  refine aI ?_
  refine⟨_,rfl,y,ys.Ad,dy,_,_,rfl,Cg.ins,Y.cl,Y.n4,rfl, .inl ⟨rfl,_,Ah.of B0⟩,_,rfl,_,rfl,_,rfl,_,rfl,fun xl Cb nx Mb Hg=>⟨xl,Cb,(a':Int),(b':Int),l,u,rfl,ac,fun wa H2 Eb off Fj Pk=>⟨rfl,?_⟩⟩⟩
  have JB:Ab H1 H2:=fun z o ez=>off z o (ag ez nx) (by rw[ae (ag ez nx),ae (ag ez Mb)];exact ez)
  have RO:H1 wa=none:=by
   by_cases z1:wa=xl
   ·rw[z1,ac]at Eb;cases Eb
   ·by_cases z2:wa=Cb
    ·rw[z2,ae Hg,ac]at Eb;cases Eb
    ·rw[ae z1,ae z2]at Eb;exact Eb
  have C6:=Cg.same JB
  have M6:=JB _ _ B0
  have hlv:CJ H2 ys.Ae (la :: le :: li :: dn :: ys.ex) (.ref xl) ⟨(a':Int),(b':Int),l,u,0,[]⟩:=⟨xl,Cb,wa,rfl,Fj,Pk,fun z=>by obtain⟨xs,hz⟩:=Cg.Dr wa z;rw[RO]at hz;cases hz⟩
  refine⟨le,_,_,rfl,rfl,M6,by rw[sizeLine_eq];omega,?_⟩
  have Cn:=C6.M3 M6 hlv
  have o3:Ai [le,dn] H (upd H2 le (.lst (Ec ++ [.ref xl]))):=(Ab.AJ (s1.trans JB)).trans (cp (by simp))
  generalize upd H2 le (.lst (Ec ++ [.ref xl]))=H3 at Cn o3 ⊢
  obtain⟨AE,Hv,pd⟩:=Cn.BD
  have DJ:AE.length=st.done.length:=Paired.length pd
  refine⟨_,rfl,y,ys.Ad,dy,_,_,rfl,Cn.ins,Y.cl,Y.n6,rfl, .inl ⟨rfl,_,Ah.of Hv⟩,_,rfl,_,rfl,_,rfl,_,rfl,by show 5 <= sizeLine;decide,fun t ht=>?_⟩
  have Pl:=(Ab.refl H3).new (o := .tup [.str "post", .int (a':Int), .int (b':Int), .int l, .int u]) ht
  have WN:(upd H3 t (.tup [.str "post", .int (a':Int), .int (b':Int), .int l, .int u])) t=some (.tup [.str "post", .int (a':Int), .int (b':Int), .int l, .int u]):=ac
  generalize upd H3 t (.tup [.str "post", .int (a':Int), .int (b':Int), .int l, .int u])=H4 at Pl WN ⊢
  have M7:=Cn.same Pl
  have M9:=Pl _ _ Hv
  refine⟨dn,_,_,rfl,rfl,M9,by rw[sizeLine_eq];omega,?_⟩
  have Fn:=M7.Hs M9 ⟨t,rfl,WN⟩
  have o5:Ai [le,dn] H (upd H4 dn (.lst (AE ++ [.ref t]))):=(o3.trans (Ab.AJ Pl)).trans (cp (by simp))
  generalize upd H4 dn (.lst (AE ++ [.ref t]))=H5 at Fn o5 ⊢
  obtain⟨WO,RP,pl5⟩:=Fn.hle
  have hl5:WO.length=st.U.length + 1:=by rw[Paired.length pl5,length_append];rfl
  refine⟨_,rfl,y,ys.Ad,dy,_,_,rfl,Fn.ins,Y.cl,Y.n4,rfl,le,_,rfl, .inl (Ah.of RP),_,_,rfl,rfl,?_⟩
  have er:((WO.length:Nat):Int) - 1=(st.U.length:Int):=by omega
  dsimp only
  rw[er]
  exact q rfl H5 o5 Fn
noncomputable def pA (K:Frag)(ys:Ys):Sp:=fun vs H Q _=>∃ (y dy tb ro la le li dn:Addr)(s:YS)(k:Nat)(ln:ck),vs=[.ref y, .int k]/\Ak K ys H y dy tb ro la le li dn s/\s.lanes[k]? = some ln/\∀ (t ql:Addr)(Au:List V)(H':Hp),Ab H H'->H ql=none->H' t=some (.tup [.int ln.r, .int ln.b,hV ln.h, .ref ql])->H' ql=some (.lst Au)->AB H' Au ln.qs->Q (.ref t) H'
noncomputable def rX (K:Frag)(ys:Ys):Sp:=fun vs H Q _=>∃ (y dy tb ro la le li dn:Addr)(s:YS)(k:Nat)(lt:cj),vs=[.ref y, .int k]/\Ak K ys H y dy tb ro la le li dn s/\s.U[k]? = some lt/\∀ (t:Addr)(H':Hp),Ab H H'->H t=none->H' t=some (.lst (nV lt.way))->Q (.ref t) H'
noncomputable def lJ (K:Frag)(ys:Ys):Sp:=fun vs H Q _=>∃ (y dy tb ro la le li dn:Addr)(s:YS),vs=[.ref y]/\Ak K ys H y dy tb ro la le li dn s/\Q (.int s.U.length) H
noncomputable def sF (K:Frag)(ys:Ys):Sp:=fun vs H Q _=>∃ (y dy tb ro la le li dn:Addr)(s:YS),vs=[.ref y]/\Ak K ys H y dy tb ro la le li dn s/\∀ (t:Addr)(vs:List V)(H':Hp),Ab H H'->H t=none->H' t=some (.lst vs)->Paired (Bc H') vs s.done->Q (.ref t) H'
theorem RQ:ao ["self", "lane"] ["self", "lane"] (ah ot):=L2.AG
theorem um {ys:Ys}{f ft:Addr}{fd dt:FuncData}(F:AA K "lane_told" "Yard.lane_told" ot f fd)(Y:hU K ys)(mt:bz K ys.AD "told" ft)(bt:Binds K dt ["self"] [])(Gt:Ac P w K mg base aC 1 ft dt ["self"] (xA ys.AD)) :
  Ac P w K mg base aC 2 f fd ["self", "lane"] (pA K ys):=by
 refine F.ok RQ (fun vs H Q E h=>?_) (fun cdv A outer s H vs Q E hr h=>?_)
 ·obtain⟨y,dy,tb,ro,la,le,li,dn,st,k,ln,rfl,_⟩:=h
  rfl
 ·obtain⟨y,dy,tb,ro,la,le,li,dn,st,k,ln,rfl,hY,hk,q⟩:=h
  refine⟨_,ai (ar (aW (ax aL (al (pv 0) rfl) (pv 1) (fun _ _=>rfl)) Y.L.cl mt Gt hr bt .nil ap)),?_⟩
  obtain⟨Ap,AU,pl⟩:=hY.AZ
  obtain⟨v,hv,x,dx,pa,Au,rfl,hL,_⟩:=Paired.at2 pl hk
  refine⟨_,rfl,y,ys.Ad,dy,_,_,rfl,hY.ins,Y.cl,Y.n3,rfl,_,rfl,la,Ap,(k:Int),_,rfl,rfl,Ah.of AU,ak hv,x,dx,_,rfl,hL.ins,rfl,?_⟩
  exact⟨x,dx,pa,ln.r,ln.b,ln.h,Au,ln.qs,rfl,hL,fun t ql H' s' F8 gt RS=>q t ql Au H' s' F8 gt RS (AB.same s' hL.Bl)⟩
theorem RT:ao ["self", "number"] ["self", "number"] (ah sR):=L2.AG
theorem wg {ys:Ys}{f:Addr}{fd:FuncData}(F:AA K "way_told" "Yard.way_told" sR f fd)(T:dE mg)(Y:hU K ys):Ac P w K mg base aC 1 f fd ["self", "number"] (rX K ys):=by
 refine F.ok RT (fun vs H Q E h=>?_) (fun cdv A outer s H vs Q E hr h=>?_)
 ·obtain⟨y,dy,tb,ro,la,le,li,dn,st,k,ln,rfl,_⟩:=h
  rfl
 ·obtain⟨y,dy,tb,ro,la,le,li,dn,st,k,lt,rfl,hY,hk,q⟩:=h
  refine⟨_,ai (ar (aY aS rfl T.list PySem.Pv.boot_list (aa (al (ax aL (al (pv 0) rfl) (pv 1) (fun _ _=>rfl)) rfl) ad))),?_⟩
  obtain⟨Ao,B0,pl⟩:=hY.hle
  obtain⟨v,hv,x,dx,wa,rfl,hx,hw,_⟩:=Paired.at2 pl hk
  refine⟨_,rfl,y,ys.Ad,dy,_,_,rfl,hY.ins,Y.cl,Y.n4,rfl,_,rfl,le,Ao,(k:Int),_,rfl,rfl,Ah.of B0,ak hv,x,ys.Ae,dx,_,_,rfl,hx,Y.ct,Y.t6,rfl,wa,_,rfl, .inl (Ah.of hw),fun t ht=>?_⟩
  exact q t _ ((Ab.refl H).new ht) ht ac
theorem RU:ao ["self"] ["self"] (ah kO):=L2.AG
theorem qT {ys:Ys}{f:Addr}{fd:FuncData}(F:AA K "posted" "Yard.posted" kO f fd)(T:dE mg)(Y:hU K ys):Ac P w K mg base aC 1 f fd ["self"] (lJ K ys):=by
 refine F.ok RU (fun vs H Q E h=>?_) (fun cdv A outer s H vs Q E hr h=>?_)
 ·obtain⟨y,dy,tb,ro,la,le,li,dn,st,rfl,_⟩:=h
  rfl
 ·obtain⟨y,dy,tb,ro,la,le,li,dn,st,rfl,hY,q⟩:=h
  refine⟨_,ai (ar (av aq rfl T.len PySem.boot_len (aa (al (pv 0) rfl) ad))),?_⟩
  obtain⟨Ao,B0,pl⟩:=hY.hle
  refine⟨_,rfl,y,ys.Ad,dy,_,_,rfl,hY.ins,Y.cl,Y.n4,rfl,le,_,rfl, .inl (Ah.of B0),?_⟩
  rw[Paired.length pl]
  exact q
theorem RV:ao ["self"] ["self"] (ah t8):=L2.AG
theorem wB {ys:Ys}{f:Addr}{fd:FuncData}(F:AA K "history" "Yard.history" t8 f fd)(T:dE mg)(Y:hU K ys):Ac P w K mg base aC 1 f fd ["self"] (sF K ys):=by
 refine F.ok RV (fun vs H Q E h=>?_) (fun cdv A outer s H vs Q E hr h=>?_)
 ·obtain⟨y,dy,tb,ro,la,le,li,dn,st,rfl,_⟩:=h
  rfl
 ·obtain⟨y,dy,tb,ro,la,le,li,dn,st,rfl,hY,q⟩:=h
  refine⟨_,ai (ar (aY aS rfl T.list PySem.Pv.boot_list (aa (al (pv 0) rfl) ad))),?_⟩
  obtain⟨AE,Hv,pd⟩:=hY.BD
  refine⟨_,rfl,y,ys.Ad,dy,_,_,rfl,hY.ins,Y.cl,Y.n6,rfl,dn,_,rfl, .inl (Ah.of Hv),fun t ht=>?_⟩
  exact q t AE _ ((Ab.refl H).new ht) ht ac (Paired.mono (fun _ _ z=>z.keep (Ab.Am ((Ab.refl H).new ht))) pd)
theorem oX {K:Frag}{T:Addr}{o:Obj}{n:Nat}{kV doc pm cdv ct:Value}{an:Option Addr}(ho:K.lookup T=some o)(hs:o.data = .seq #[Value.none] n) :
  Binds K (fnOf "__init__" "Yard.__init__" (bv ie) (aE ie) (ah ie) (.ref T) kV doc pm an cdv ct) ["self", "table", "rooms"] []:=fun s us CM hl=>by
 have hl:us.length=3:=by rw[append_nil]at hl;exact hl
 obtain⟨a,us0,rfl,Pm⟩:=L2.Gv hl
 obtain⟨b,us1,rfl,Pn⟩:=L2.Gv Pm
 obtain⟨c,us2,rfl,Fb⟩:=L2.Gv Pn
 obtain rfl:=List.eq_nil_of_length_eq_zero Fb
 exact BindsTo.of_defaults rfl (CM _ _ ho) hs rfl rfl
theorem nh {K:Frag}{T:Addr}{o:Obj}{n:Nat}{tk:Tok}{kV doc pm cdv ct:Value}{an:Option Addr}(ho:K.lookup T=some o)(hs:o.data = .seq #[Value.int 0 tk] n) :
  Binds K (fnOf "post" "Yard.post" (bv gA) (aE gA) (ah gA) (.ref T) kV doc pm an cdv ct) M4 []:=fun s us CM hl=>by
 have hl:us.length=5:=by rw[append_nil]at hl;exact hl
 obtain⟨a,us0,rfl,Pm⟩:=L2.Gv hl
 obtain⟨b,us1,rfl,Pn⟩:=L2.Gv Pm
 obtain⟨c,us2,rfl,Fb⟩:=L2.Gv Pn
 obtain⟨d,us3,rfl,WQ⟩:=L2.Gv Fb
 obtain⟨e,us4,rfl,Po⟩:=L2.Gv WQ
 obtain rfl:=List.eq_nil_of_length_eq_zero Po
 exact BindsTo.of_defaults rfl (CM _ _ ho) hs rfl rfl
noncomputable def x9 (C:Addr):Sp:=fun vs H Q _=>∃ (x dx pa:Addr)(r b:Int)(h:Option Int)(Au:List V)(qs:List (Int × Int)),vs=[.ref x]/\Az H C x dx pa r b h Au qs/\∀ (x' DU Ew:Addr)(H':Hp),Ab H H'->H x' = none->H Ew = none->Az H' C x' DU Ew r b h Au qs->Q (.ref x') H'
noncomputable def x8 (C:Addr):Sp:=fun vs H Q _=>∃ (x dx wa:Addr)(s:cj),vs=[.ref x]/\H x=some (.ins C dx (oH s wa))/\H wa=some (.lst (nV s.way))/\∀ (x' DU DO:Addr)(H':Hp),Ab H H'->H x' = none->H DO = none->H' x' = some (.ins C DU (oH s DO))->H' DO = some (.lst (nV s.way))->Q (.ref x') H'
theorem Hw:ao ["self", "other"] ["self"] (ah y2):=L2.AG
theorem zc {C f fl:Addr}{fd dl:FuncData}(F:AA K "twin" "Lane.twin" y2 f fd)(T:dE mg)(L:xo K C)(ml:mg "Lane" = some (.ref C))(Ml:Mk K C fl)(bl:Binds K dl ["self", "room"] [])(Gl:Ac P w K mg base aC 1 fl dl ["self", "room"] (sy C)) :
  Ac P w K mg base aC 3 f fd ["self"] (x9 C):=by
 refine F.ok Hw (fun vs H Q E h=>?_) (fun cdv A outer s H vs Q E hr h=>?_)
 ·obtain⟨x,dx,pa,r,b,h,Au,qs,rfl,_⟩:=h
  rfl
 ·obtain⟨x,dx,pa,r,b,h,Au,qs,rfl,hL,q⟩:=h
  refine⟨_,af (aA (i:=1) Hw.nd rfl (Or.inl rfl) (c4 Ml Gl hr rfl ml bl .nil ap (aa (al (pv 0) rfl) ad)))
   (af (aT (pv 1) (al (pv 0) rfl) rfl)
   (af (aT (pv 1) (al (pv 0) rfl) rfl)
   (af (aT (pv 1) (aY aS rfl T.list PySem.Pv.boot_list (aa (al (pv 0) rfl) ad)) rfl)
   (ai (ar (pv 1)))))),?_⟩
  refine⟨_,rfl,x,C,dx,_,_,rfl,hL.ins,L.cl,L.n1,rfl,fun x' d' nx nd ne=>⟨x',d',r,rfl,ac,fun IC H1 F7 off ID=>⟨rfl,?_⟩⟩⟩
  have s1:Ab H H1:=fun z o ez=>off z o (ag ez nx) (by rw[ae (ag ez nx),ae (ag ez nd)];exact ez)
  have hi1:=ID.ins
  clear F7 off ID
  refine⟨_,rfl,x,C,dx,_,_,rfl,s1 _ _ hL.ins,L.cl,L.n2,rfl,_,rfl,x',C,d',_,rfl,hi1,L.cl,L.n2,by show 4 < 1000;decide,?_⟩
  have o2:∀ o',Ab H (upd H1 x' o'):=fun o' z o ez=>by rw[ae (ag ez nx)];exact s1 _ _ ez
  refine⟨_,rfl,x,C,dx,_,_,rfl,o2 _ _ _ hL.ins,L.cl,L.n3,rfl,_,rfl,x',C,d',_,rfl,ac,L.cl,L.n3,by show 4 < 1000;decide,?_⟩
  have o3:∀ o' WR,Ab H (upd (upd H1 x' o') x' WR):=fun o' WR z o ez=>by rw[ae (ag ez nx)];exact o2 _ _ _ ez
  have s3:=o3 (.ins C d' (aJ "returning" (.int b) (i8 r 0 (hV none) IC))) (.ins C d' (aJ "holder" (hV h) (aJ "returning" (.int b) (i8 r 0 (hV none) IC))))
  have IE:(upd (upd H1 x' (.ins C d' (aJ "returning" (.int b) (i8 r 0 (hV none) IC)))) x' (.ins C d' (aJ "holder" (hV h) (aJ "returning" (.int b) (i8 r 0 (hV none) IC))))) x' = some (.ins C d' (i8 r b (hV h) IC)):=ac
  generalize upd (upd H1 x' (.ins C d' (aJ "returning" (.int b) (i8 r 0 (hV none) IC)))) x' (.ins C d' (aJ "holder" (hV h) (aJ "returning" (.int b) (i8 r 0 (hV none) IC))))=H3 at s3 IE ⊢
  refine⟨_,rfl,x,C,dx,_,_,rfl,s3 _ _ hL.ins,L.cl,L.n4,rfl,pa,_,rfl, .inl (Ah.of (s3 _ _ hL.lst)),fun Ew IF=>?_⟩
  have Ea:H Ew = none:=by
   cases e:H Ew with
   | none=>rfl
   | some o=>rw[s3 _ _ e]at IF;cases IF
  have MA:x' ≠ Ew:=ag IE IF
  refine⟨_,rfl,x',C,d',_,rfl,by rw[ae MA];exact IE,L.cl,L.n4,by show 4 < 1000;decide,_,rfl,?_⟩
  have s4:∀ o',Ab H (upd (upd H3 Ew (.lst Au)) x' o'):=fun o' z o ez=>by rw[ae (ag ez nx),ae (ag ez Ea)];exact s3 _ _ ez
  exact q x' d' Ew _ (s4 _) nx Ea ⟨ac,by rw[ae (Ne.symm MA)];exact ac,AB.same (s4 _) hL.Bl⟩
theorem Hy:ao ["self", "other"] ["self"] (ah tu):=L2.AG
theorem za {ys:Ys}{f fl:Addr}{fd dl:FuncData}(F:AA K "twin" "Letter.twin" tu f fd)(T:dE mg)(Y:hU K ys)(ml:mg "Letter" = some (.ref ys.Ae))(Ml:Mk K ys.Ae fl)(bl:Binds K dl ["self", "start", "goal", "length", "word"] [])(Gl:Ac P w K mg base aC 1 fl dl ["self", "start", "goal", "length", "word"] (sw ys.Ae)) :
  Ac P w K mg base aC 3 f fd ["self"] (x8 ys.Ae):=by
 refine F.ok Hy (fun vs H Q E h=>?_) (fun cdv A outer s H vs Q E hr h=>?_)
 ·obtain⟨x,dx,wa,s,rfl,_⟩:=h
  rfl
 ·obtain⟨x,dx,wa,t,rfl,hx,hw,q⟩:=h
  refine⟨_,af (aA (i:=1) Hy.nd rfl (Or.inl rfl) (c4 Ml Gl hr rfl ml bl .nil ap (aa (al (pv 0) rfl) (aa (al (pv 0) rfl) (aa (al (pv 0) rfl) (aa (al (pv 0) rfl) ad))))))
   (af (aT (pv 1) (al (pv 0) rfl) rfl)
   (af (aT (pv 1) (aY aS rfl T.list PySem.Pv.boot_list (aa (al (pv 0) rfl) ad)) rfl)
   (ai (ar (pv 1))))),?_⟩
  refine⟨_,rfl,x,ys.Ae,dx,_,_,rfl,hx,Y.ct,Y.t1,rfl,_,rfl,x,ys.Ae,dx,_,_,rfl,hx,Y.ct,Y.t2,rfl,_,rfl,x,ys.Ae,dx,_,_,rfl,hx,Y.ct,Y.t3,rfl,_,rfl,x,ys.Ae,dx,_,_,rfl,hx,Y.ct,Y.t4,rfl,fun x' d' nx nd ne=>⟨x',d',t.start,t.goal,t.len,t.word,rfl,ac,fun w0 H1 hw0 off BC Fo=>⟨rfl,?_⟩⟩⟩
  have s1:Ab H H1:=fun z o ez=>off z o (ag ez nx) (by rw[ae (ag ez nx),ae (ag ez nd)];exact ez)
  clear hw0 off Fo
  refine⟨_,rfl,x,ys.Ae,dx,_,_,rfl,s1 _ _ hx,Y.ct,Y.t5,rfl,_,rfl,x',ys.Ae,d',_,rfl,BC,Y.ct,Y.t5,by show 6 < 1000;decide,?_⟩
  have s3:Ab H (upd H1 x' (.ins ys.Ae d' (aJ "gone" (.int t.gone) (oH ⟨t.start,t.goal,t.len,t.word,0,[]⟩ w0)))):=fun z o ez=>by rw[ae (ag ez nx)];exact s1 _ _ ez
  have IE:(upd H1 x' (.ins ys.Ae d' (aJ "gone" (.int t.gone) (oH ⟨t.start,t.goal,t.len,t.word,0,[]⟩ w0)))) x' = some (.ins ys.Ae d' (oH ⟨t.start,t.goal,t.len,t.word,t.gone,[]⟩ w0)):=ac
  show _
  generalize upd H1 x' (.ins ys.Ae d' (aJ "gone" (.int t.gone) (oH ⟨t.start,t.goal,t.len,t.word,0,[]⟩ w0)))=H3 at s3 IE ⊢
  refine⟨_,rfl,x,ys.Ae,dx,_,_,rfl,s3 _ _ hx,Y.ct,Y.t6,rfl,wa,_,rfl, .inl (Ah.of (s3 _ _ hw)),fun DO IG=>?_⟩
  have Eb:H DO = none:=by
   cases e:H DO with
   | none=>rfl
   | some o=>rw[s3 _ _ e]at IG;cases IG
  have MA:x' ≠ DO:=ag IE IG
  refine⟨_,rfl,x',ys.Ae,d',_,rfl,by rw[ae MA];exact IE,Y.ct,Y.t6,by show 6 < 1000;decide,_,rfl,?_⟩
  have s4:∀ o',Ab H (upd (upd H3 DO (.lst (nV t.way))) x' o'):=fun o' z o ez=>by rw[ae (ag ez nx),ae (ag ez Eb)];exact s3 _ _ ez
  exact q x' d' DO _ (s4 _) nx Eb ac (by rw[ae (Ne.symm MA)];exact ac)
structure YA where
 y:Addr
 dy:Addr
 tb:Addr
 ro:Addr
 la:Addr
 le:Addr
 li:Addr
 dn:Addr
 lx:Addr
 AF:Addr
 lt:Addr
 n:Nat
 Ao:List V
 ps:List (Int × Int)
 wy:Wf
noncomputable abbrev AH (K:Frag)(ys:Ys)(H:Hp)(a:YA)(s:YS):Prop:=Ak K ys H a.y a.dy a.tb a.ro a.la a.le a.li a.dn s
noncomputable abbrev vk (c:Cs)(TC:Addr)(J:TJ)(H:Hp)(a:YA):Prop:=AO c TC J H a.tb a.lx a.AF a.lt a.n a.Ao a.ps a.wy
noncomputable abbrev YA.four (a:YA):List Addr:=[a.la,a.le,a.li,a.dn]
theorem Paired.set {α β:Type}{R:α->β->Prop}{v:α}{r:β}(h:R v r):∀ {vs:List α}{rs:List β}(i:Nat),Paired R vs rs->Paired R (vs.set i v) (rs.set i r)
 | _,_,_, .nil => .nil
 | _,_,0, .cons _ t => .cons h t
 | _,_,i + 1, .cons x t => .cons x (Paired.set h i t)
theorem Ai.mono {ex Jo:List Addr}{H H':Hp}(h:∀ b ∈ ex,b ∈ Jo)(o:Ai ex H H'):Ai Jo H H':=fun b u nb e=>o b u (fun z=>nb (h b z)) e
theorem jW {K:Frag}{ys:Ys}{H:Hp}{a:YA}{s:YS}(h:AH K ys H a s){p:Addr}(hp:H p=none):p ∉ a.la :: a.le :: a.li :: a.dn :: ys.ex:=fun z=>by obtain⟨xs,hz⟩:=Ak.Dr h p z;rw[hp]at hz;cases hz
theorem lu {H H2:Hp}{x b:Addr}{zs:List V}(o:Ai [x] H H2)(hx:H2 x=some (.lst zs))(h:∃ xs,H b=some (.lst xs)):∃ xs,H2 b=some (.lst xs):=by
 by_cases e:b=x
 ·exact⟨zs,by rw[e];exact hx⟩
 ·obtain⟨xs,hz⟩:=h
  exact⟨xs,o _ _ (by simpa using e) hz⟩
theorem AH.CK {K:Frag}{ys:Ys}{H H2:Hp}{a:YA}{s:YS}(h:AH K ys H a s){vs:List V}(hv:H a.la=some (.lst vs))(o:Ai [a.la] H H2){k:Nat}{x dx pa:Addr}(hl:H2 a.la=some (.lst (vs.set k (.ref x)))){ln:ck}{Au:List V}
  (L:Az H2 ys.AD x dx pa ln.r ln.b ln.h Au ln.qs) (np:H pa=none):AH K ys H2 a { s with lanes:=s.lanes.set k ln }:=by
 obtain⟨h1,h2,f1,f2,f3,f4⟩:=Ak.off h (o.mono (by simp))
 obtain⟨v1,a1,p1⟩:=h.AZ
 obtain⟨v2,a2,p2⟩:=h.hle
 obtain⟨v3,a3,p3⟩:=h.Ca
 obtain⟨v4,a4,p4⟩:=h.BD
 rw[hv]at a1
 cases a1
 have ne:=h.ne
 simp only[nodup_cons,mem_cons,not_mem_nil,or_false,not_or,not_false_eq_true,and_true,nodup_nil]at ne
 exact⟨h1,h2,⟨_,hl,Paired.set ⟨x,dx,pa,Au,rfl,L,jW h np⟩ k (f1 _ _ p1)⟩,⟨v2,o _ _ (by simp;exact Ne.symm ne.1.1) a2,f2 _ _ p2⟩,⟨v3,o _ _ (by simp;exact Ne.symm ne.1.2.1) a3,f3 _ _ p3⟩,⟨v4,o _ _ (by simp;exact Ne.symm ne.1.2.2) a4,f4 _ _ p4⟩,h.ne,fun b hb=>lu o hl (h.hex b hb)⟩
theorem AH.EM {K:Frag}{ys:Ys}{H H2:Hp}{a:YA}{s:YS}(h:AH K ys H a s){vs:List V}(hv:H a.le=some (.lst vs))(o:Ai [a.le] H H2){k:Nat}{x dx wa:Addr}(hl:H2 a.le=some (.lst (vs.set k (.ref x)))){t:cj}
  (hx:H2 x=some (.ins ys.Ae dx (oH t wa))) (hw:H2 wa=some (.lst (nV t.way))) (np:H wa=none):AH K ys H2 a { s with U:=s.U.set k t }:=by
 obtain⟨h1,h2,f1,f2,f3,f4⟩:=Ak.off h (o.mono (by simp))
 obtain⟨v1,a1,p1⟩:=h.AZ
 obtain⟨v2,a2,p2⟩:=h.hle
 obtain⟨v3,a3,p3⟩:=h.Ca
 obtain⟨v4,a4,p4⟩:=h.BD
 rw[hv]at a2
 cases a2
 have ne:=h.ne
 simp only[nodup_cons,mem_cons,not_mem_nil,or_false,not_or,not_false_eq_true,and_true,nodup_nil]at ne
 exact⟨h1,h2,⟨v1,o _ _ (by simp;exact ne.1.1) a1,f1 _ _ p1⟩,⟨_,hl,Paired.set ⟨x,dx,wa,rfl,hx,hw,jW h np⟩ k (f2 _ _ p2)⟩,⟨v3,o _ _ (by simp;exact Ne.symm ne.2.1.1) a3,f3 _ _ p3⟩,⟨v4,o _ _ (by simp;exact Ne.symm ne.2.1.2) a4,f4 _ _ p4⟩,h.ne,fun b hb=>lu o hl (h.hex b hb)⟩
theorem AH.IH {K:Frag}{ys:Ys}{H H2:Hp}{a:YA}{s:YS}(h:AH K ys H a s){vs:List V}(hv:H a.li=some (.lst vs))(o:Ai [a.li] H H2){k:Nat}{v:V}(hl:H2 a.li=some (.lst (vs.set k v))){qs:List (Int × Int)}
  (L:B3 H2 v qs):AH K ys H2 a { s with lies:=s.lies.set k qs }:=by
 obtain⟨h1,h2,f1,f2,f3,f4⟩:=Ak.off h (o.mono (by simp))
 obtain⟨v1,a1,p1⟩:=h.AZ
 obtain⟨v2,a2,p2⟩:=h.hle
 obtain⟨v3,a3,p3⟩:=h.Ca
 obtain⟨v4,a4,p4⟩:=h.BD
 rw[hv]at a3
 cases a3
 have ne:=h.ne
 simp only[nodup_cons,mem_cons,not_mem_nil,or_false,not_or,not_false_eq_true,and_true,nodup_nil]at ne
 exact⟨h1,h2,⟨v1,o _ _ (by simp;exact ne.1.2.1) a1,f1 _ _ p1⟩,⟨v2,o _ _ (by simp;exact ne.2.1.1) a2,f2 _ _ p2⟩,⟨_,hl,Paired.set L k (f3 _ _ p3)⟩,⟨v4,o _ _ (by simp;exact Ne.symm ne.2.2) a4,f4 _ _ p4⟩,h.ne,fun b hb=>lu o hl (h.hex b hb)⟩
noncomputable def so (K:Frag)(ys:Ys):Sp:=fun vs H Q _=>∃ (a:YA)(s:YS)(k:Nat)(ln:ck)(Ap:List V),vs=[.ref a.y, .int k]/\AH K ys H a s/\s.lanes[k]? = some ln/\H a.la=some (.lst Ap) /\
 ∀ (x dx pa:Addr)(Au:List V)(H':Hp),Ai [a.la] H H'->H x=none->H pa=none->H' a.la=some (.lst (Ap.set k (.ref x)))->Az H' ys.AD x dx pa ln.r ln.b ln.h Au ln.qs->Q (.ref x) H'
noncomputable def sm (K:Frag)(ys:Ys):Sp:=fun vs H Q _=>∃ (a:YA)(s:YS)(k:Nat)(t:cj)(Ao:List V),vs=[.ref a.y, .int k]/\AH K ys H a s/\s.U[k]? = some t/\H a.le=some (.lst Ao) /\
 ∀ (x dx wa:Addr)(H':Hp),Ai [a.le] H H'->H x=none->H wa=none->H' a.le=some (.lst (Ao.set k (.ref x)))->H' x=some (.ins ys.Ae dx (oH t wa))->H' wa=some (.lst (nV t.way))->Q (.ref x) H'
noncomputable def xB (K:Frag)(ys:Ys):Sp:=fun vs H Q _=>∃ (a:YA)(s:YS)(v:V)(q:Int × Int)(p:Nat)(qs:List (Int × Int)),vs=[.ref a.y,v, .int p]/\AH K ys H a s/\xp H v q/\s.lies[p]? = some qs/\qs.length <= 100000 /\
 ∀ H',Ai [a.li] H H'->AH K ys H' a { s with lies:=s.lies.set p (qs ++ [q]) }->Q .Av H'
noncomputable def p7 (K:Frag)(ys:Ys):Sp:=fun vs H Q _=>∃ (a:YA)(s:YS)(p:Nat)(qs:List (Int × Int)),vs=[.ref a.y, .int p]/\AH K ys H a s/\s.lies[p]? = some qs /\
 ∀ (D:Addr)(Au:List V)(H':Hp),Ab H H'->H D=none->H' D=some (.lst Au)->AB H' Au qs->Q (.ref D) H'
theorem yo:ao ["self", "lane"] ["self", "lane"] (ah sW):=L2.AG
theorem wr {ys:Ys}{f ft:Addr}{fd dt:FuncData}(F:AA K "own_lane" "Yard.own_lane" sW f fd)(Y:hU K ys)(mt:bz K ys.AD "twin" ft)(bt:Binds K dt ["self"] [])(Gt:Ac P w K mg base aC 3 ft dt ["self"] (x9 ys.AD)) :
  Ac P w K mg base aC 4 f fd ["self", "lane"] (so K ys):=by
 refine F.ok yo (fun vs H Q E h=>?_) (fun cdv A outer s H vs Q E hr h=>?_)
 ·obtain⟨a,s,k,ln,Ap,rfl,_⟩:=h
  rfl
 ·obtain⟨a,st,k,ln,Ap,rfl,hY,hk,AU,q⟩:=h
  refine⟨_,af (kX (aW (ax aL (al (pv 0) rfl) (pv 1) (fun _ _=>rfl)) Y.L.cl mt Gt hr bt .nil ap) (oA (al (pv 0) rfl) (pv 1) je))
   (ai (ar (ax aL (al (pv 0) rfl) (pv 1) (fun _ _=>rfl)))),?_⟩
  obtain⟨lvs',Ed,pl⟩:=hY.AZ
  rw[AU]at Ed
  cases Ed
  obtain⟨v,hv,x,dx,pa,Au,rfl,hL,_⟩:=Paired.at2 pl hk
  have Ee:k < Ap.length:=(List.getElem?_eq_some_iff.mp hv).1
  refine⟨_,rfl,a.y,ys.Ad,a.dy,_,_,rfl,hY.ins,Y.cl,Y.n3,rfl,_,rfl,a.la,Ap,(k:Int),_,rfl,rfl,Ah.of AU,ak hv,x,dx,_,rfl,hL.ins,rfl,?_⟩
  refine⟨x,dx,pa,ln.r,ln.b,ln.h,Au,ln.qs,rfl,hL,fun x' DU Ew H1 s1 nx FA ID=>?_⟩
  refine⟨_,rfl,a.y,ys.Ad,a.dy,_,_,rfl,s1 _ _ hY.ins,Y.cl,Y.n3,rfl,_,rfl,a.la,Ap,(k:Int),k,rfl,rfl,s1 _ _ AU,iP Ee,?_⟩
  have o1:Ai [a.la] H (upd H1 a.la (.lst (Ap.set k (.ref x')))):=(Ab.AJ s1).trans (cp (by simp))
  have g1:(upd H1 a.la (.lst (Ap.set k (.ref x')))) a.la=some (.lst (Ap.set k (.ref x'))):=ac
  have Co:Az (upd H1 a.la (.lst (Ap.set k (.ref x')))) ys.AD x' DU Ew ln.r ln.b ln.h Au ln.qs:=by
   have n1:x' ≠ a.la:=aU ID.ins (s1 _ _ AU) (by intro z;cases z)
   have n2:Ew ≠ a.la:=fun z=>by rw[z,AU]at FA;cases FA
   exact⟨by rw[ae n1];exact ID.ins,by rw[ae n2];exact ID.lst,AB.AJ (ex:=[a.la]) (fun b hb=>by simp at hb;subst hb;exact⟨_,s1 _ _ AU⟩) (cp (by simp)) ID.Bl⟩
  generalize upd H1 a.la (.lst (Ap.set k (.ref x')))=H2 at o1 g1 Co ⊢
  have RW:H2 a.y=some (.ins ys.Ad a.dy (pc a.tb a.ro a.la a.le a.li a.dn)):=o1 _ _ (by simp;exact aU hY.ins AU (by intro z;cases z)) hY.ins
  exact⟨_,rfl,a.y,ys.Ad,a.dy,_,_,rfl,RW,Y.cl,Y.n3,rfl,_,rfl,a.la,_,(k:Int), .ref x',rfl,rfl,Ah.of g1,ak (by simp[Ee]),q x' DU Ew Au H2 o1 nx FA g1 Co⟩
theorem yn:ao ["self", "number"] ["self", "number"] (ah sV):=L2.AG
theorem wq {ys:Ys}{f ft:Addr}{fd dt:FuncData}(F:AA K "own_letter" "Yard.own_letter" sV f fd)(Y:hU K ys)(mt:bz K ys.Ae "twin" ft)(bt:Binds K dt ["self"] [])(Gt:Ac P w K mg base aC 3 ft dt ["self"] (x8 ys.Ae)) :
  Ac P w K mg base aC 4 f fd ["self", "number"] (sm K ys):=by
 refine F.ok yn (fun vs H Q E h=>?_) (fun cdv A outer s H vs Q E hr h=>?_)
 ·obtain⟨a,s,k,ln,Ap,rfl,_⟩:=h
  rfl
 ·obtain⟨a,st,k,t,Ao,rfl,hY,hk,B0,q⟩:=h
  refine⟨_,af (kX (aW (ax aL (al (pv 0) rfl) (pv 1) (fun _ _=>rfl)) Y.ct mt Gt hr bt .nil ap) (oA (al (pv 0) rfl) (pv 1) je))
   (ai (ar (ax aL (al (pv 0) rfl) (pv 1) (fun _ _=>rfl)))),?_⟩
  obtain⟨Ec,MB,pl⟩:=hY.hle
  rw[B0]at MB
  cases MB
  obtain⟨v,hv,x,dx,wa,rfl,hx,hw,_⟩:=Paired.at2 pl hk
  have Ee:k < Ao.length:=(List.getElem?_eq_some_iff.mp hv).1
  refine⟨_,rfl,a.y,ys.Ad,a.dy,_,_,rfl,hY.ins,Y.cl,Y.n4,rfl,_,rfl,a.le,Ao,(k:Int),_,rfl,rfl,Ah.of B0,ak hv,x,dx,_,rfl,hx,rfl,?_⟩
  refine⟨x,dx,wa,t,rfl,hx,hw,fun x' DU DO H1 s1 nx FA BC Fo=>?_⟩
  refine⟨_,rfl,a.y,ys.Ad,a.dy,_,_,rfl,s1 _ _ hY.ins,Y.cl,Y.n4,rfl,_,rfl,a.le,Ao,(k:Int),k,rfl,rfl,s1 _ _ B0,iP Ee,?_⟩
  have o1:Ai [a.le] H (upd H1 a.le (.lst (Ao.set k (.ref x')))):=(Ab.AJ s1).trans (cp (by simp))
  have g1:(upd H1 a.le (.lst (Ao.set k (.ref x')))) a.le=some (.lst (Ao.set k (.ref x'))):=ac
  have n1:x' ≠ a.le:=aU BC (s1 _ _ B0) (by intro z;cases z)
  have n2:DO ≠ a.le:=fun z=>by rw[z,B0]at FA;cases FA
  have Fj:(upd H1 a.le (.lst (Ao.set k (.ref x')))) x' = some (.ins ys.Ae DU (oH t DO)):=by rw[ae n1];exact BC
  have Pk:(upd H1 a.le (.lst (Ao.set k (.ref x')))) DO = some (.lst (nV t.way)):=by rw[ae n2];exact Fo
  generalize upd H1 a.le (.lst (Ao.set k (.ref x')))=H2 at o1 g1 Fj Pk ⊢
  have RW:H2 a.y=some (.ins ys.Ad a.dy (pc a.tb a.ro a.la a.le a.li a.dn)):=o1 _ _ (by simp;exact aU hY.ins B0 (by intro z;cases z)) hY.ins
  exact⟨_,rfl,a.y,ys.Ad,a.dy,_,_,rfl,RW,Y.cl,Y.n4,rfl,_,rfl,a.le,_,(k:Int), .ref x',rfl,rfl,Ah.of g1,ak (by simp[Ee]),q x' DU DO H2 o1 nx FA g1 Fj Pk⟩
theorem MC:ao ["self", "piece", "place"] ["self", "piece", "place"] (ah y6):=L2.AG
theorem zf {ys:Ys}{f:Addr}{fd:FuncData}(F:AA K "lay" "Yard.lay" y6 f fd)(Y:hU K ys):Ac P w K mg base aC 1 f fd ["self", "piece", "place"] (xB K ys):=by
 refine F.ok MC (fun vs H Q E h=>?_) (fun cdv A outer s H vs Q E hr h=>?_)
 ·obtain⟨a,s,v,q,p,qs,rfl,_⟩:=h
  rfl
 ·obtain⟨a,st,v,qp,p,qs,rfl,hY,hv,hp,hlen,q⟩:=h
  refine⟨_,ai (kX (aG wc (ax aL (al (pv 0) rfl) (pv 2) (fun _ _=>rfl)) (bJ (aa (pv 1) ad))) (oA (al (pv 0) rfl) (pv 2) je)),?_⟩
  obtain⟨Ap,Hz,pl⟩:=hY.Ca
  obtain⟨v0,hv0,t0,Er,rfl,HA,MD⟩:=Paired.at2 pl hp
  have Ee:p < Ap.length:=(List.getElem?_eq_some_iff.mp hv0).1
  have Pm:Er.length=qs.length:=Paired.length MD
  refine⟨_,rfl,a.y,ys.Ad,a.dy,_,_,rfl,hY.ins,Y.cl,Y.n5,rfl,_,rfl,a.li,Ap,(p:Int),_,rfl,rfl,Ah.of Hz,ak hv0,_,rfl,by show 1 <= sizeLine;decide,fun t ht=>?_⟩
  have s1:=(Ab.refl H).new (o := .tup [v]) ht
  have g1:(upd H t (.tup [v])) t=some (.tup [v]):=ac
  generalize upd H t (.tup [v])=H1 at s1 g1 ⊢
  have fin:∀ (z:Addr)(H2:Hp),Ab H H2->B3 H2 (.ref z) (qs ++ [qp])->Q .Av (upd H2 a.li (.lst (Ap.set p (.ref z)))):=fun z H2 s2 hz=>by
   have o2:Ai [a.li] H (upd H2 a.li (.lst (Ap.set p (.ref z)))):=(Ab.AJ s2).trans (cp (by simp))
   refine q _ o2 (AH.IH hY Hz o2 ac ?_)
   obtain⟨tz,vz,ez,WS,hz2⟩:=hz
   cases ez
   have nz:z ≠ a.li:=aU WS (s2 _ _ Hz) (by intro y;cases y)
   exact⟨z,vz,rfl,by rw[ae nz];exact WS,AB.AJ (ex:=[a.li]) (fun b hb=>by simp at hb;subst hb;exact⟨_,s2 _ _ Hz⟩) (cp (by simp)) hz2⟩
  refine⟨t0,t,Er,[v],rfl,rfl,An.of (s1 _ _ HA),An.of g1,by simp,by rw[sizeLine_eq];simp;omega,fun e0=>?_,fun e0 p2 Li=>?_⟩
  ·subst e0
   cases MD
   refine⟨_,rfl,a.y,ys.Ad,a.dy,_,_,rfl,s1 _ _ hY.ins,Y.cl,Y.n5,rfl,_,rfl,a.li,Ap,(p:Int),p,rfl,rfl,s1 _ _ Hz,iP Ee,?_⟩
   exact fin t H1 s1 ⟨t,[v],rfl,g1, .cons (let ⟨u,e,hu⟩:=hv; ⟨u,e,s1 _ _ hu⟩) .nil⟩
  ·have s2:=s1.new (o := .tup (Er ++ [v])) Li
   have g2:(upd H1 p2 (.tup (Er ++ [v]))) p2=some (.tup (Er ++ [v])):=ac
   generalize upd H1 p2 (.tup (Er ++ [v]))=H2 at s2 g2 ⊢
   refine⟨_,rfl,a.y,ys.Ad,a.dy,_,_,rfl,s2 _ _ hY.ins,Y.cl,Y.n5,rfl,_,rfl,a.li,Ap,(p:Int),p,rfl,rfl,s2 _ _ Hz,iP Ee,?_⟩
   exact fin p2 H2 s2 ⟨p2,_,rfl,g2,AB.snoc (let ⟨u,e,hu⟩:=hv; ⟨u,e,s2 _ _ hu⟩) (AB.same s2 MD)⟩
theorem MF:ao ["self", "place"] ["self", "place"] (ah om):=L2.AG
theorem uk {ys:Ys}{f:Addr}{fd:FuncData}(F:AA K "lying" "Yard.lying" om f fd)(T:dE mg)(Y:hU K ys):Ac P w K mg base aC 1 f fd ["self", "place"] (p7 K ys):=by
 refine F.ok MF (fun vs H Q E h=>?_) (fun cdv A outer s H vs Q E hr h=>?_)
 ·obtain⟨a,s,p,qs,rfl,_⟩:=h
  rfl
 ·obtain⟨a,st,p,qs,rfl,hY,hp,q⟩:=h
  refine⟨_,ai (ar (aY aS rfl T.list PySem.Pv.boot_list (aa (ax aL (al (pv 0) rfl) (pv 1) (fun _ _=>rfl)) ad))),?_⟩
  obtain⟨Ap,Hz,pl⟩:=hY.Ca
  obtain⟨v0,hv0,t0,Er,rfl,HA,MD⟩:=Paired.at2 pl hp
  refine⟨_,rfl,a.y,ys.Ad,a.dy,_,_,rfl,hY.ins,Y.cl,Y.n5,rfl,_,rfl,a.li,Ap,(p:Int),_,rfl,rfl,Ah.of Hz,ak hv0,t0,_,rfl, .inr (An.of HA),fun D hD=>?_⟩
  have s1:=(Ab.refl H).new (o := .lst Er) hD
  exact q D Er _ s1 hD ac (AB.same s1 MD)
noncomputable def ju (ln:ck)(m c len:Int):ck:={ ln with r:=ln.r - 1,h:=if decide (c=len - 1)=true then none else some m,qs:=ln.qs ++ [(m,c)] }
noncomputable def dv (s:YS)(m:Nat)(c:Int)(l:Nat)(t:cj)(ln:ck):YS:={ s with U:=if c=0 then s.U.set m { t with way:=t.way ++ [l] } else s.U,lanes:=s.lanes.set l (ju ln m c t.len) }
noncomputable def kL (K:Frag)(ys:Ys):Sp:=fun vs H Q _=>∃ (a:YA)(s:YS)(v:V)(m:Nat)(c:Int)(l:Nat)(t:cj)(ln:ck),vs=[.ref a.y,v, .int l]/\AH K ys H a s/\xp H v ((m:Int),c)/\s.U[m]? = some t/\s.lanes[l]? = some ln/\cf ln.r ln.h m c=true/\t.way.length <= 1000/\ln.qs.length < 100000 /\
 ∀ H',Ai [a.la,a.le] H H'->AH K ys H' a (dv s m c l t ln)->Q .Av H'
noncomputable def mK (s:YS)(m:Nat)(t:cj):YS:={ s with U:=s.U.set m { t with gone:=t.gone + 1 } }
noncomputable def sG (K:Frag)(ys:Ys):Sp:=fun vs H Q _=>∃ (a:YA)(s:YS)(m l:Nat)(t:cj)(ln:ck),vs=[.ref a.y, .int m, .int l]/\AH K ys H a s/\s.U[m]? = some t/\s.lanes[l]? = some ln/\cf ln.r ln.h m t.gone=true/\t.way.length <= 1000/\ln.qs.length < 100000 /\
 ∀ H',Ai [a.la,a.le] H H'->AH K ys H' a (dv (mK s m t) m t.gone l { t with gone:=t.gone + 1 } ln)->Q .Av H'
structure Own (P:Program)(w:World)(K:Frag)(mg:Str->Option Value)(base:Heap)(ys:Ys)(nm:Addr)(fl ft fp:Addr)(dl dt dp:FuncData):Prop where
 ml:bz K ys.Ad "own_lane" fl
 bl:Binds K dl ["self", "lane"] []
 Gl:Ac P w K mg base aC 4 fl dl ["self", "lane"] (so K ys)
 mt:bz K ys.Ad "own_letter" ft
 bt:Binds K dt ["self", "number"] []
 Gt:Ac P w K mg base aC 4 ft dt ["self", "number"] (sm K ys)
 mp:bz K ys.AD "put" fp
 bp:Binds K dp ["self", "letter", "count", "last"] []
 Gp:Ac P w K mg base (dR P w) 2 fp dp ["self", "letter", "count", "last"] (xy ys.AD nm)
noncomputable abbrev WT:List Str:=["self", "piece", "lane", "last"]
noncomputable abbrev NGi:List Str:=["self", "number", "lane", "letter"]
theorem MG:ao WT ["self", "piece", "lane"] (ah ow):=L2.AG
theorem uq {ys:Ys}{nm f fl ft fp:Addr}{fd dl dt dp:FuncData}(F:AA K "enter" "Yard.enter" ow f fd)(Y:hU K ys)(O:Own P w K mg base ys nm fl ft fp dl dt dp) :
  Ac P w K mg base aC 5 f fd ["self", "piece", "lane"] (kL K ys):=by
 refine F.ok MG (fun vs H Q E h=>?_) (fun cdv A outer s H vs Q E hr h=>?_)
 ·obtain⟨a,s,v,m,c,l,t,ln,rfl,_⟩:=h
  rfl
 ·obtain⟨a,st,v,m,c,l,t,ln,rfl,hY,⟨pt,rfl,Ds⟩,hm,hl,Kz,Eo,F8,q⟩:=h
  have Bw:Al 2 _:=hr.mono (by decide)
  refine⟨_,af (kU (aP (aw bC (ax aF (pv 1) aj (fun _ _=>rfl)) aj (aB _))
    (ai (aN (cu plainAttrs_list PySem.F.slot_list_append PySem.F.type_list_append bD (al (aD (pv 0) Y.cl O.mt O.Gt hr O.bt .nil ap (aa (ax aF (pv 1) aj (fun _ _=>rfl)) ad)) rfl) (aa (pv 2) ad)))) aH))
   (af (aA (i:=3) MG.nd rfl (Or.inl rfl) (c5 bC (ax aF (pv 1) aj (fun _ _=>rfl)) (aG cx (al (ax aL (al (pv 0) rfl) (ax aF (pv 1) aj (fun _ _=>rfl)) (fun _ _=>rfl)) rfl) aj) (aB _)))
   (ai (aN (aD (aD (pv 0) Y.cl O.ml O.Gl hr O.bl .nil ap (aa (pv 2) ad)) Y.L.cl O.mp O.Gp Bw O.bp .nil eO (aa (ax aF (pv 1) aj (fun _ _=>rfl)) (aa (ax aF (pv 1) aj (fun _ _=>rfl)) (aa (pv 3) ad))))))),?_⟩
  refine⟨fun σ' H'=>σ' = start WT [.ref a.y, .ref pt, .int l]/\Ai [a.le] H H'/\∃ t1:cj,t1.len=t.len/\AH K ys H' a { st with U:=if c=0 then st.U.set m { t with way:=t.way ++ [l] } else st.U }/\(if c=0 then st.U.set m { t with way:=t.way ++ [l] } else st.U)[m]? = some t1,?_,?_⟩
  ·refine⟨_,rfl,pt,_,1,_,rfl,rfl,An.of Ds,ak (j:=1) rfl,rfl,_,rfl,?_⟩
   rw[bK]
   by_cases hc:c=0
   ·rw[decide_eq_true hc]
    obtain⟨Ao,B0,pl⟩:=hY.hle
    refine aK ⟨_,rfl,a.y,a.dy,_,rfl,hY.ins,rfl,_,rfl,pt,_,0,_,rfl,rfl,An.of Ds,ak (j:=0) rfl,a,st,m,t,Ao,rfl,hY,hm,B0,fun x dx wa H1 o1 nx nw g1 BC Fo=>?_⟩
    refine⟨x,ys.Ae,dx,_,_,rfl,BC,Y.ct,Y.t6,rfl, .inl ⟨rfl,_,Ah.of Fo⟩,_,rfl,wa,_,_,rfl,rfl,Fo,by rw[dq,sizeLine_eq];omega,?_⟩
    have nxw:x ≠ wa:=aU BC Fo (by intro z;cases z)
    have nlw:a.le ≠ wa:=ag B0 nw
    have o2:Ai [a.le] H (upd H1 wa (.lst (nV t.way ++ [.int l]))):=fun b o nb e=>by rw[ae (ag e nw)];exact o1 b o nb e
    have C6:=AH.EM hY B0 o2 (k:=m) (x:=x) (dx:=dx) (wa:=wa) (by rw[ae nlw];exact g1) (t:={ t with way:=t.way ++ [l] }) (by rw[ae nxw];exact BC) (by rw[ac,u7];rfl) nw
    have Fp:m < st.U.length:=(List.getElem?_eq_some_iff.mp hm).1
    refine⟨rfl,o2,{ t with way:=t.way ++ [l] },rfl,?_,?_⟩
    ·rw[if_pos hc];exact C6
    ·rw[if_pos hc];simp[Fp]
   ·rw[decide_eq_false hc]
    refine aI ⟨rfl,Ab.AJ (Ab.refl H),t,rfl,?_,?_⟩
    ·rw[if_neg hc];exact hY
    ·rw[if_neg hc];exact hm
  ·rintro σ' H1 ⟨rfl,o1,t1,hlen,Cg,hm1⟩
   have FG:H1 pt=some (.tup [.int m, .int c]):=by
    obtain⟨Ao,B0,_⟩:=hY.hle
    exact o1 _ _ (by simp;exact aU Ds B0 (by intro z;cases z)) Ds
   obtain⟨RX,RY,RZ⟩:=Cg.hle
   obtain⟨v1,Sa,x1,dx1,wa1,rfl,BC,_⟩:=Paired.at2 RZ hm1
   refine⟨_,rfl,pt,_,1,_,rfl,rfl,An.of FG,ak (j:=1) rfl,_,rfl,a.y,ys.Ad,a.dy,_,_,rfl,Cg.ins,Y.cl,Y.n4,rfl,_,rfl,pt,_,0,_,rfl,rfl,An.of FG,ak (j:=0) rfl,a.le,RX,(m:Int),_,rfl,rfl,Ah.of RY,ak Sa,x1,ys.Ae,dx1,_,_,rfl,BC,Y.ct,Y.t3,rfl,_,_,rfl,rfl,rfl,?_⟩
   obtain⟨Ap,AU,Ey⟩:=Cg.AZ
   refine⟨_,rfl,a.y,a.dy,_,rfl,Cg.ins,rfl,_,rfl,a,_,l,ln,Ap,rfl,Cg,hl,AU,fun x dx pa Au H2 o2 nx np g2 Co=>?_⟩
   have EN:H2 pt=some (.tup [.int m, .int c]):=o2 _ _ (by simp;exact aU FG AU (by intro z;cases z)) FG
   have B4:Au.length=ln.qs.length:=Paired.length Co.Bl
   refine⟨x,dx,_,rfl,Co.ins,rfl,_,rfl,pt,_,0,_,rfl,rfl,An.of EN,ak (j:=0) rfl,_,rfl,pt,_,1,_,rfl,rfl,An.of EN,ak (j:=1) rfl,_,rfl,x,dx,pa,ln.r,ln.b,ln.h,Au,ln.qs,(m:Int),c,decide (c=t.len - 1),?_,Co,by omega,(fun ho=>by rw[Kz]at ho;cases ho),fun _ t3 H3 o3 CI=>?_⟩
   ·rw[bK,hlen];rfl
   have nxl:a.la ≠ x:=ag AU nx
   have Pp:a.la ≠ pa:=ag AU np
   have o4:Ai [a.la] H1 H3:=fun b o nb e=>o3 b o (ag e nx) (ag e np) (o2 b o nb e)
   have Cn:=AH.CK Cg AU o4 (k:=l) (x:=x) (dx:=dx) (pa:=pa) (o3 _ _ nxl Pp g2) (ln:=ju ln m c t.len) CI np
   exact q H3 ((o1.mono (by simp)).trans (o4.mono (by simp))) Cn
theorem MH:ao NGi ["self", "number", "lane"] (ah tD):=L2.AG
theorem wC {ys:Ys}{nm f fl ft fp fe:Addr}{fd dl dt dp de:FuncData}(F:AA K "go_in" "Yard.go_in" tD f fd)(Y:hU K ys)(O:Own P w K mg base ys nm fl ft fp dl dt dp)(me:bz K ys.Ad "enter" fe)(be:Binds K de ["self", "piece", "lane"] [])(Ge:Ac P w K mg base aC 5 fe de ["self", "piece", "lane"] (kL K ys)) :
  Ac P w K mg base aC 6 f fd ["self", "number", "lane"] (sG K ys):=by
 refine F.ok MH (fun vs H Q E h=>?_) (fun cdv A outer s H vs Q E hr h=>?_)
 ·obtain⟨a,s,m,l,t,ln,rfl,_⟩:=h
  rfl
 ·obtain⟨a,st,m,l,t,ln,rfl,hY,hm,hl,Kz,Eo,F8,q⟩:=h
  have Dn:Al 4 _:=hr.mono (by decide)
  refine⟨_,af (aA (i:=3) MH.nd rfl (Or.inl rfl) (aD (pv 0) Y.cl O.mt O.Gt Dn O.bt .nil ap (aa (pv 1) ad)))
   (af (dI (pv 3) aj lr)
   (ai (aN (aD (pv 0) Y.cl me Ge hr be .nil ap (aa (bJ (aa (pv 1) (aa (aG cx (al (pv 3) rfl) aj) ad))) (aa (pv 2) ad)))))),?_⟩
  obtain⟨Ao,B0,pl⟩:=hY.hle
  refine⟨_,rfl,a.y,a.dy,_,rfl,hY.ins,rfl,_,rfl,a,st,m,t,Ao,rfl,hY,hm,B0,fun x dx wa H1 o1 nx nw g1 BC Fo=>?_⟩
  refine⟨_,rfl,x,ys.Ae,dx,_,_,rfl,BC,Y.ct,Y.t5,rfl,_,_,rfl,rfl,dx,_,BC,by show 6 < 1000;decide,?_⟩
  have nlx:a.le ≠ x:=ag B0 nx
  have F9:wa ≠ x:=aU Fo BC (by intro z;cases z)
  have o2:Ai [a.le] H (upd H1 x (.ins ys.Ae dx (aJ "gone" (.int (t.gone + 1)) (oH t wa)))):=fun b o nb e=>by rw[ae (ag e nx)];exact o1 b o nb e
  have Fj:(upd H1 x (.ins ys.Ae dx (aJ "gone" (.int (t.gone + 1)) (oH t wa)))) x=some (.ins ys.Ae dx (oH { t with gone:=t.gone + 1 } wa)):=ac
  have C6:=AH.EM hY B0 o2 (k:=m) (x:=x) (dx:=dx) (wa:=wa) (by rw[ae nlx];exact g1) (t:={ t with gone:=t.gone + 1 }) Fj (by rw[ae F9];exact Fo) nw
  show _
  generalize upd H1 x (.ins ys.Ae dx (aJ "gone" (.int (t.gone + 1)) (oH t wa)))=H2 at o2 Fj C6 ⊢
  refine⟨_,rfl,a.y,a.dy,_,rfl,C6.ins,rfl,_,rfl,_,rfl,x,ys.Ae,dx,_,_,rfl,Fj,Y.ct,Y.t5,rfl,_,_,rfl,rfl,by show 2 <= sizeLine;decide,fun pt Ds=>?_⟩
  have eg:t.gone + 1 - 1=t.gone:=by omega
  have s3:=(Ab.refl H2).new (o := .tup [.int m, .int t.gone]) Ds
  have g3:(upd H2 pt (.tup [.int m, .int t.gone])) pt=some (.tup [.int m, .int t.gone]):=ac
  dsimp only
  rw[eg]
  generalize upd H2 pt (.tup [.int m, .int t.gone])=H3 at s3 g3 ⊢
  have Fp:m < st.U.length:=(List.getElem?_eq_some_iff.mp hm).1
  refine⟨_,rfl,a,mK st m t,_,m,t.gone,l,{ t with gone:=t.gone + 1 },ln,rfl,Ak.same C6 s3,⟨pt,rfl,g3⟩,by unfold mK;simp[Fp],hl,Kz,Eo,F8,fun H' o' II=>?_⟩
  exact q H' ((o2.mono (by simp)).trans ((Ab.AJ s3).trans o')) II
theorem zL (us:List Nat)(i:Nat):l9 (nV us) none (some (i:Int))=nV (us.take i):=by
 unfold l9
 have e0:HT.C3 (nV us).length 0 none=0:=rfl
 rw[e0,show HT.C3 (nV us).length (nV us).length (some (i:Int))=min i (nV us).length from HT.CD _ _ i,List.drop_zero,Nat.sub_zero]
 unfold nV
 rw[List.map_take,length_map]
 refine List.ext_getElem? fun j=>?_
 simp only[List.getElem?_take,List.getElem?_map]
 by_cases h1:j < i
 ·by_cases h2:j < us.length
  ·rw[if_pos (by omega),if_pos h1]
  ·rw[if_neg (by omega),if_pos h1,List.getElem?_eq_none (by omega)];rfl
 ·rw[if_neg (by omega),if_neg h1]
theorem xc (us:List Nat)(i:Nat):l9 (nV us) (some (i:Int)) (some ((i:Int) + 1))=nV ((us.drop i).take 1):=by
 unfold l9
 rw[show HT.C3 (nV us).length 0 (some (i:Int))=min i (nV us).length from HT.CD _ _ i,show((i:Int) + 1)=((i + 1:Nat):Int) by omega,show HT.C3 (nV us).length (nV us).length (some ((i + 1:Nat):Int))=min (i + 1) (nV us).length from HT.CD _ _ (i + 1),dq]
 by_cases h:i < us.length
 ·rw[Nat.min_eq_left (by omega),Nat.min_eq_left (by omega),show i + 1 - i=1 by omega]
  unfold nV
  rw[List.map_take,List.map_drop]
 ·rw[Nat.min_eq_right (by omega),Nat.min_eq_right (by omega),Nat.sub_self,List.take_zero,List.drop_eq_nil_of_le (by omega)];rfl
theorem pZ (us:List Nat):nV us=(iz us).map V.int:=(wS us).symm
theorem uI (k:Nat):∀ us:List Nat,(iz us).idxOf (k:Int)=us.idxOf k
 | []=>rfl
 | u :: us=>by
  have ih:=uI k us
  unfold iz at ih ⊢
  rw[map_cons,List.idxOf_cons,List.idxOf_cons,ih]
  by_cases h:u=k
  ·subst h;simp
  ·have h':((u:Int) == (k:Int))=false:=by simp;omega
   have h2:(u == k)=false:=by simp;exact h
   rw[h',h2]
inductive Mv
 | B8 (k l:Nat) | on (k l:Nat) | CS (k:Nat) | back (k:Nat)
noncomputable def dD:Mv->List V
 | .B8 k l=>[.str "in", .int k, .int l]
 | .on k l=>[.str "on", .int k, .int l]
 | .CS k=>[.str "lie", .int k]
 | .back k=>[.str "back", .int k]
noncomputable def fL (s:YS)(l:Nat)(m c:Int):Bool:=match s.lanes[l]? with
 | some ln=>cf ln.r ln.h m c
 | none=>false
noncomputable def bU (s:YS)(k:Nat):Option (Int × Int):=match s.lanes[k]? with
 | some ln=>ln.qs.head?
 | none=>none
noncomputable def rJ (a:YA)(l g:Nat):List Nat:=if (a.ps.getD l (0,0)).2=(g:Int) then [] else a.wy (a.ps.getD l (0,0)).2.toNat g (some l)
noncomputable def cU (a:YA)(s:YS)(k:Nat):List Nat:=match bU s k with
 | none=>[]
 | some q=>match s.U[q.1.toNat]? with
  | none=>[]
  | some t=>if q.2=0 then (rJ a k t.goal.toNat).filter fun l=>!decide (l ∈ t.way) else (t.way.drop (t.way.idxOf k + 1)).take 1
noncomputable def cI (a:YA)(t:cj):List Nat:=if t.gone=0 then a.wy t.start.toNat t.goal.toNat none else t.way.take 1
noncomputable def ik (a:YA)(s:YS)(k:Nat):List Mv:=match s.U[k]? with
 | none=>[]
 | some t=>if t.gone=t.len then [] else ((cI a t).filter fun l=>fL s l k t.gone).map (Mv.B8 k)
noncomputable def iC (a:YA)(s:YS)(k:Nat):List Mv:=match bU s k with
 | none=>[]
 | some q=>((cU a s k).filter fun l=>fL s l q.1 q.2).map (Mv.on k)
noncomputable def eR (a:YA)(s:YS)(k:Nat):List Mv:=match bU s k with
 | none=>[]
 | some q=>match s.U[q.1.toNat]? with
  | none=>[]
  | some t=>if t.goal=(a.ps.getD k (0,0)).2 then [.CS k] else []
noncomputable def du (s:YS)(k:Nat):List Mv:=match s.lanes[k]? with
 | some ln=>if 0 < ln.b then [.back k] else []
 | none=>[]
structure MI (a:YA):Prop where
 ends:∀ (l:Nat)(pr:Int × Int),a.ps[l]? = some pr->∃ e:Nat,pr.2=(e:Int)/\e < a.n
 Bd:∀ p g k,(a.wy p g k).length <= 400
structure Sb (a:YA)(s:YS):Prop where
 lanes:s.lanes.length=a.ps.length
 lies:s.lies.length=a.n
 lets:∀ (m:Nat)(t:cj),s.U[m]? = some t->∃ x y:Nat,t.start=(x:Int)/\t.goal=(y:Int)/\x < a.n/\y < a.n
 Bm:∀ (m:Nat)(t:cj),s.U[m]? = some t->(∀ l ∈ t.way,l < a.ps.length)/\t.way.length <= 1000
 Bl:∀ (k:Nat)(ln:ck),s.lanes[k]? = some ln->∀ q ∈ ln.qs,∃ (m:Nat)(t:cj),q.1=(m:Int)/\s.U[m]? = some t/\k ∈ t.way
 Bd:s.U.length <= 60
structure Cz (K:Frag)(c:Cs)(TC:Addr)(J:TJ)(ys:Ys)(H:Hp)(a:YA)(s:YS):Prop where
 Y:AH K ys H a s
 T:vk c TC J H a
 O:MI a
 G:Sb a s
theorem Cz.same {K:Frag}{c:Cs}{TC fw:Addr}{dw:FuncData}{J:TJ}{ys:Ys}{H H':Hp}{a:YA}{s:YS}(W:Wy K TC fw dw J)(h:Cz K c TC J ys H a s)(e:Ab H H'):Cz K c TC J ys H' a s:=⟨Ak.same h.Y e,AO.keep W h.T (Ab.Am e),h.O,h.G⟩
noncomputable abbrev p5 (K:Frag)(c:Cs)(TC:Addr)(J:TJ)(ys:Ys)(f:YA->YS->Nat->List Mv)(len:YS->Nat):Sp:=fun vs H Q _=>∃ (a:YA)(s:YS)(k:Nat),vs=[.ref a.y, .int k]/\Cz K c TC J ys H a s/\k < len s /\
 ∀ (D:Addr)(As:List V)(H':Hp),Ab H H'->H D=none->H' D=some (.lst As)->Paired (Bc H') As ((f a s k).map dD)->Q (.ref D) H'
noncomputable def nU (K:Frag)(c:Cs)(TC:Addr)(J:TJ)(ys:Ys):Sp:=p5 K c TC J ys ik (fun s=>s.U.length)
noncomputable def nS (K:Frag)(c:Cs)(TC:Addr)(J:TJ)(ys:Ys):Sp:=p5 K c TC J ys iC (fun s=>s.lanes.length)
noncomputable def p6 (K:Frag)(c:Cs)(TC:Addr)(J:TJ)(ys:Ys):Sp:=p5 K c TC J ys eR (fun s=>s.lanes.length)
noncomputable def jc (K:Frag)(c:Cs)(TC:Addr)(J:TJ)(ys:Ys):Sp:=p5 K c TC J ys (fun _ s k=>du s k) (fun s=>s.lanes.length)
noncomputable def jb (K:Frag)(c:Cs)(TC:Addr)(J:TJ)(ys:Ys):Sp:=fun vs H Q _=>∃ (a:YA)(s:YS)(k:Nat),vs=[.ref a.y, .int k]/\Cz K c TC J ys H a s/\k < s.lanes.length /\
 ∀ (D:Addr)(H':Hp),Ab H H'->H D=none->H' D=some (.lst (nV (cU a s k)))->Q (.ref D) H'
noncomputable def x5 (c:Cs)(C:Addr)(J:TJ):Sp:=fun vs H Q _=>∃ (a:YA)(l g:Nat),vs=[.ref a.tb, .int l, .int g]/\vk c C J H a/\MI a/\l < a.ps.length/\g < a.n /\
 ∀ (D:Addr)(H':Hp),Ab H H'->H D=none->H' D=some (.lst (nV (rJ a l g)))->Q (.ref D) H'
theorem lA {K:Frag}{p:Addr}{us:List Nat}{g:TG}{tt:TT}{te:TE}{σ0:St}{H:Hp}{Q:VK}(b:Nat->Bool)(f:Nat->Mv)(hn:us.length < sizeLine)(ha:H p=some (.lst (nV us)))
  (hs:∀ (u:Nat)(H1:Hp)(acc:List V)(N:List V->Hp->Prop),u ∈ us->Ab H H1->(b u=true->∀ v H2,Ab H1 H2->Bc H2 v (dD (f u))->N (acc ++ [v]) H2)->(b u=false->N acc H1) ->
   g (.int u) σ0 H1 fun σ2 H2=>tt σ2 H2 fun b H3=>if b=true then te σ2 H3 fun y H4=>N (acc ++ [y]) H4 else N acc H3)
  (hq:∀ D vs H1,Ab H H1->H1 D=none->Paired (Bc H1) vs (((us.filter b).map f).map dD)->Q (.ref D) (upd H1 D (.lst vs))):dQ (xq K p) g tt te σ0 Q H:=by
 refine bQ us.length hn (fun i acc H'=>Ab H H'/\Paired (Bc H') acc ((((us.take i).filter b).map f).map dD)) ⟨Ab.refl _, .nil⟩ (fun i acc H' h=>by
   rw[Paired.length h.2,length_map,length_map]
   have h1:=length_filter_le b (us.take i)
   have h2:=length_take_le i us
   omega) (fun i acc H' hi h=>?_) (fun acc H' h=>?_)
 ·obtain⟨s,hL⟩:=h
  have hu:us[i]? = some us[i]:=List.getElem?_eq_getElem hi
  refine⟨⟨_,_,Ah.of (s _ _ ha),lj hu⟩,fun v H2 y=>?_⟩
  obtain⟨rfl,y⟩:=y
  have hv:=y _ (Ah.of (s _ _ ha))
  rw[lj hu]at hv
  cases hv
  refine hs us[i] H2 acc (fun Bf H4=>Ab H H4/\Paired (Bc H4) Bf ((((us.take (i + 1)).filter b).map f).map dD)) (getElem_mem hi) s (fun hb v H3 s3 hv=>⟨s.trans s3,?_⟩) (fun hb=>⟨s,?_⟩)
  ·rw[take_succ,hu,filter_append]
   have e:(some us[i]).toList.filter b=[us[i]]:=by simp[hb]
   rw[e,map_append,map_append]
   exact Paired.snoc hv (Paired.mono (fun _ _ z=>z.keep (Ab.Am s3)) hL)
  ·rw[take_succ,hu,filter_append]
   have e:(some us[i]).toList.filter b=[]:=by simp[hb]
   rw[e,append_nil]
   exact hL
 ·obtain⟨s,hL⟩:=h
  rw[take_length]at hL
  exact⟨⟨_,Ah.of (s _ _ ha),by rw[dq];exact le_refl _⟩,fun D hD=>hq D acc H' s hD hL⟩
noncomputable def vK (s:Stmt):Scope:=match s with
 | .Return (some (.ListComp _ _ sc _)) _=>sc
 | _=>{ kind := .function,names:=[],isGenerator:=false,isCoroutine:=false }
noncomputable def zB (s:Stmt):Scope:=match s with
 | .If _ [s'] _ _=>vK s'
 | _=>{ kind := .function,names:=[],isGenerator:=false,isCoroutine:=false }
noncomputable abbrev WU:List Str:=["self", "number", "letter", "wanted"]
noncomputable abbrev WV:List Str:=["self", "lane", "piece", "letter", "behind"]
noncomputable abbrev WW:List Str:=["self", "lane", "piece", "wanted"]
theorem IJ:ao WU ["self", "number"] (ah lP):=L2.AG
theorem Se:Bv WU (ah lP) (vK ((aE lP).getD 3 (.Pass ⟨0,0,0,0⟩))) ["self", "number", "letter"] [0,1,2]:=L2.Cu
theorem Sf:(["lane", "self", "number", "letter"]:List Str).Nodup:=by decide +kernel
theorem wx {c:Cs}{ys:Ys}{J:TJ}{TC f fw fo:Addr}{fd dw CQ:FuncData}(F:AA K "moves_in" "Yard.moves_in" lP f fd)(Y:hU K ys)(W:Wy K TC fw dw J)(IB:Ac P w K mg base aC 3 fw dw ["self", "place", "goal", "came"] (dY J))
  (mo:bz K ys.AD "open_to" fo) (bo:Binds K CQ ["self", "letter", "count"] []) (Go:Ac P w K mg base aC 1 fo CQ ["self", "letter", "count"] (kK ys.AD)) :
  Ac P w K mg base aC 4 f fd ["self", "number"] (nU K c TC J ys):=by
 refine F.ok IJ (fun vs H Q E h=>?_) (fun cdv A outer s H vs Q E hr h=>?_)
 ·obtain⟨a,s,k,rfl,_⟩:=h
  rfl
 ·obtain⟨a,st,k,rfl,hI,hk,q⟩:=h
  have Bb:Al 1 _:=hr.mono (by decide)
  refine⟨_,af (aA (i:=2) IJ.nd rfl (Or.inr rfl) (ax aL (al (pv 0) rfl) (pv 1) (fun _ _=>rfl)))
   (af (aP (aw bC (al (pv 2) rfl) (al (pv 2) rfl) (aB _)) (ai (ar (aX ad))) aH)
   (af (aA (i:=3) IJ.nd rfl (Or.inl rfl) (lb (c9 (aw bC (al (pv 2) rfl) aj (aB _)) (aD (al (pv 0) rfl) W.cl W.m IB hr W.b .nil ap (aa (al (pv 2) rfl) (aa (al (pv 2) rfl) (aa cv ad)))) (lX pF (al (pv 2) rfl) vU (kY aj)))))
   (ai (ar (bA (own:=["lane"]) (capN:=["self", "number", "letter"]) (cap:=[0,1,2]) Se rfl (cb (pv 3)) (fun C s' H' fp=>⟨ay (i:=0) Sf rfl (Or.inl rfl),cr (bF (aD (ax (show oZ _ (tJ K) from aL) (show PE _ _ (rT K (qC 1) "lanes") from al (pv 1) rfl) (pv 0) (fun _ _=>rfl)) Y.L.cl mo Go Bb bo .nil ap (aa (pv 2) (aa (show PE _ _ (rT K (qC 3) "gone") from al (pv 3) rfl) ad)))),bJ (aa b8 (aa (pv 2) (aa (pv 0) ad)))⟩)))))),?_⟩
  have hY:=hI.Y
  obtain⟨Ao,B0,pl⟩:=hY.hle
  obtain⟨t,ht⟩:∃ t,st.U[k]? = some t:=⟨_,List.getElem?_eq_getElem hk⟩
  obtain⟨v,hv,x,dx,wa,rfl,hx,hw,_⟩:=Paired.at2 pl ht
  obtain⟨x0,y0,e1,e2,Pq,JC⟩:=hI.G.lets k t ht
  obtain⟨Eo,hw9⟩:=hI.G.Bm k t ht
  unfold ik at q
  rw[ht]at q
  refine⟨_,rfl,a.y,ys.Ad,a.dy,_,_,rfl,hY.ins,Y.cl,Y.n4,rfl,_,rfl,a.le,Ao,(k:Int),_,rfl,rfl,Ah.of B0,ak hv,?_⟩
  refine⟨_,rfl,x,ys.Ae,dx,_,_,rfl,hx,Y.ct,Y.t5,rfl,_,rfl,x,ys.Ae,dx,_,_,rfl,hx,Y.ct,Y.t3,rfl,rfl,_,rfl,?_⟩
  rw[bK]
  by_cases hg:t.gone=t.len
  ·rw[decide_eq_true hg]
   dsimp only at q
   rw[if_pos hg]at q
   exact aK ⟨zero_le _,fun D hD=>q D [] _ ((Ab.refl H).new hD) hD ac .nil⟩
  rw[decide_eq_false hg]
  dsimp only at q
  rw[if_neg hg]at q
  refine aI ⟨fun v H1=>∃ D,v = .ref D/\Ab H H1/\H1 D=some (.lst (nV (cI a t))),?_,?_⟩
  ·refine⟨_,rfl,x,ys.Ae,dx,_,_,rfl,hx,Y.ct,Y.t5,rfl,rfl,_,rfl,?_⟩
   rw[bK]
   unfold cI
   by_cases h0:t.gone=0
   ·rw[decide_eq_true h0,if_pos h0]
    obtain⟨C5,fst,Cj,AM,B7⟩:=hI.T.i
    refine aK ⟨_,rfl,a.y,ys.Ad,a.dy,_,_,rfl,hY.ins,Y.cl,Y.n1,rfl,a.tb,C5,fst,rfl,Cj,B7,_,rfl,x,ys.Ae,dx,_,_,rfl,hx,Y.ct,Y.t1,rfl,_,rfl,x,ys.Ae,dx,_,_,rfl,hx,Y.ct,Y.t2,rfl,?_⟩
    rw[e1,e2,toNat_natCast,toNat_natCast]
    exact⟨a.tb,a.n,a.wy,x0,y0,none,rfl,hI.T.j,Pq,JC,fun D H1 s1 hD gD=>⟨D,rfl,s1,gD⟩⟩
   ·rw[decide_eq_false h0,if_neg h0]
    refine aI ⟨_,rfl,x,ys.Ae,dx,_,_,rfl,hx,Y.ct,Y.t6,rfl,_,rfl,wa,_,rfl,Ah.of hw,fun D hD=>⟨D,rfl,(Ab.refl H).new hD,?_⟩⟩
    rw[ac,show((1:Int))=((1:Nat):Int) from rfl,zL]
  rintro v H1 ⟨D,rfl,s1,gD⟩
  have C7:=hI.same W s1
  have Cg:=C7.Y
  have BC:=s1 _ _ hx
  obtain⟨Ap,AU,Ey⟩:=Cg.AZ
  have Wm:(cI a t).length <= 1000:=by
   unfold cI
   by_cases h0:t.gone=0
   ·rw[if_pos h0];exact le_trans (hI.O.Bd _ _ _) (by decide)
   ·rw[if_neg h0];rw[length_take];omega
  have MJ:∀ u ∈ cI a t,u < a.ps.length:=fun u hu=>by
   unfold cI at hu
   by_cases h0:t.gone=0
   ·rw[if_pos h0,e1,e2,toNat_natCast,toNat_natCast]at hu;exact hI.T.ok _ _ _ Pq JC u hu
   ·rw[if_neg h0]at hu;exact Eo u (mem_of_mem_take hu)
  refine⟨_,rfl,D,rfl,⟨_,Ah.of gD⟩,?_⟩
  refine lA (fun l=>fL st l k t.gone) (Mv.B8 k) (by rw[sizeLine_eq];omega) gD (fun u H2 acc N hu s2 FH GL=>?_) (fun D2 IK H2 s2 Ck hp=>?_)
  ·have C8:=C7.same W s2
   obtain⟨IL,IM,IP⟩:=C8.Y.AZ
   have Sg:u < st.lanes.length:=by rw[hI.G.lanes];exact MJ u hu
   obtain⟨ln,AQ⟩:∃ ln,st.lanes[u]? = some ln:=⟨_,List.getElem?_eq_getElem Sg⟩
   obtain⟨vl,FI,xl,Cb,HB,IQ,rfl,hL,_⟩:=Paired.at2 IP AQ
   refine⟨_,rfl,a.y,ys.Ad,a.dy,_,_,rfl,C8.Y.ins,Y.cl,Y.n3,rfl,_,rfl,a.la,IL,(u:Int),_,rfl,rfl,Ah.of IM,ak FI,xl,Cb,_,rfl,hL.ins,rfl,_,rfl,_,rfl,x,ys.Ae,dx,_,_,rfl,s2 _ _ BC,Y.ct,Y.t5,rfl,xl,Cb,HB,ln.r,ln.b,ln.h,(k:Int),t.gone,rfl,hL.ins,_,rfl,?_⟩
   have eo:fL st u k t.gone=cf ln.r ln.h k t.gone:=by unfold fL;rw[AQ]
   cases ho:cf ln.r ln.h k t.gone with
   | false=>exact aI (GL (by rw[eo,ho]))
   | true=>exact aK ⟨_,rfl,_,rfl,by show 3 <= sizeLine;decide,fun z hz=>FH (by rw[eo,ho]) _ _ ((Ab.refl H2).new hz) ⟨z,rfl,ac⟩⟩
  ·exact q D2 IK _ ((s1.trans s2).new Ck) (s1.free (s2.free Ck)) ac (Paired.mono (fun _ _ z=>z.keep (Ab.Am ((Ab.refl H2).new Ck))) hp)
theorem j3 {H:Hp}{Au:List V}{qs:List (Int × Int)}(h:AB H Au qs):(qs.head? = none/\oQ Au = .Av)∨∃ q pt,qs.head? = some q/\oQ Au = .ref pt/\H pt=some (.tup [.int q.1, .int q.2]):=by
 cases h with
 | nil=>exact .inl ⟨rfl,rfl⟩
 | cons x r=>obtain⟨t,rfl,ht⟩:=x;exact .inr ⟨_,t,rfl,rfl,ht⟩
theorem MK:ao ["table", "lane", "goal", "end"] ["table", "lane", "goal"] (ah Rt):=L2.AG
theorem yX {c:Cs}{J:TJ}{C f fw fe:Addr}{fd dw de:FuncData}(F:AA K "onward" "onward" Rt f fd)(L:lC K c)(W:Wy K C fw dw J)(Gw:Ac P w K mg base aC 3 fw dw ["self", "place", "goal", "came"] (dY J))
  (M:xr K c fe de) (Ge:Ac P w K mg base aC 1 fe de ["self", "lane"] (nZ c Prod.snd)):Ac P w K mg base aC 4 f fd ["table", "lane", "goal"] (x5 c C J):=by
 refine F.ok MK (fun vs H Q E h=>?_) (fun cdv A outer s H vs Q E hr h=>?_)
 ·obtain⟨a,l,g,rfl,_⟩:=h
  rfl
 ·obtain⟨a,l,g,rfl,hT,hO,hl,hg,q⟩:=h
  have Bb:Al 1 _:=hr.mono (by decide)
  refine⟨_,af (aA (i:=3) MK.nd rfl (Or.inl rfl) (aD (al (pv 0) rfl) L.cl M.m Ge Bb M.b .nil ap (aa (pv 1) ad)))
   (ai (ar (c9 (aw bC (pv 3) (pv 2) (aB _)) (aX ad) (aD (pv 0) W.cl W.m Gw hr W.b .nil ap (aa (pv 3) (aa (pv 2) (aa (pv 1) ad))))))),?_⟩
  obtain⟨dx,fs,hx,hf,hw'⟩:=hT.i
  have he:=List.getElem?_eq_getElem hl
  have HC:a.ps.getD l (0,0)=a.ps[l]:=by rw[getD_eq_getElem?_getD,he];rfl
  unfold rJ at q
  rw[HC]at q
  obtain⟨e,ee,ML⟩:=hO.ends l _ he
  refine⟨_,rfl,a.tb,C,dx,fs,_,rfl,hx,W.cl,W.nl,hf,a.lx,a.AF,_,rfl,hT.l.1,rfl,_,rfl,a.lx,a.AF,a.lt,(a.n:Int),a.Ao,a.ps,l,_,rfl,hT.l,he,?_⟩
  rw[ee]at q ⊢
  rw[toNat_natCast]at q
  refine⟨_,rfl,_,rfl,rfl,_,rfl,?_⟩
  rw[bK]
  by_cases h1:(e:Int)=(g:Int)
  ·rw[decide_eq_true h1]
   rw[if_pos h1]at q
   exact aK ⟨zero_le _,fun D hD=>q D _ ((Ab.refl H).new hD) hD ac⟩
  ·rw[decide_eq_false h1]
   rw[if_neg h1]at q
   exact aI ⟨_,rfl,a.tb,dx,fs,rfl,hx,hw',_,rfl,_,rfl,_,rfl,a.tb,a.n,a.wy,e,g,some l,rfl,hT.j,ML,hg,fun D H' s' hD gD=>q D _ s' hD gD⟩
theorem FJ:ao WV ["self", "lane"] (ah gs):=L2.AG
theorem Sh:Bv WV (ah gs) (zB ((aE gs).getD 3 (.Pass ⟨0,0,0,0⟩))) ["letter"] [3]:=L2.Cu
theorem Si:(["way", "letter"]:List Str).Nodup:=by decide +kernel
theorem qS {c:Cs}{ys:Ys}{J:TJ}{TC f fw ff fo:Addr}{fd dw df CQ:FuncData}(F:AA K "wanted" "Yard.wanted" gs f fd)(Y:hU K ys)(W:Wy K TC fw dw J)
  (mf:bz K ys.AD "front" ff) (bf:Binds K df ["self"] []) (Gf:Ac P w K mg base aC 1 ff df ["self"] (iF ys.AD))
  (mo:mg "onward" = some (.ref fo)) (ko:keepIn K (.ref fo)=true) (bo:Binds K CQ ["table", "lane", "goal"] []) (Go:Ac P w K mg base aC 4 fo CQ ["table", "lane", "goal"] (x5 c TC J)) :
  Ac P w K mg base aC 5 f fd ["self", "lane"] (jb K c TC J ys):=by
 refine F.ok FJ (fun vs H Q E h=>?_) (fun cdv A outer s H vs Q E hr h=>?_)
 ·obtain⟨a,s,k,rfl,_⟩:=h
  rfl
 ·obtain⟨a,st,k,rfl,hI,hk,q⟩:=h
  have Bb:Al 1 _:=hr.mono (by decide)
  refine⟨_,af (aA (i:=2) FJ.nd rfl (Or.inl rfl) (aW (ax aL (al (pv 0) rfl) (pv 1) (fun _ _=>rfl)) Y.L.cl mf Gf Bb bf .nil ap))
   (af (aP (aw lh (pv 2) cv (aB _)) (ai (ar (aX ad))) aH)
   (af (aA (i:=3) FJ.nd rfl (Or.inr rfl) (ax aL (al (pv 0) rfl) (ax aF (pv 2) aj (fun _ _=>rfl)) (fun _ _=>rfl)))
   (af (aP (aw bC (ax aF (pv 2) aj (fun _ _=>rfl)) aj (aB _))
    (ai (ar (bA (own:=["way"]) (capN:=["letter"]) (cap:=[3]) Sh rfl (cb (au Go hr rfl mo ko bo .nil ap (aa (al (pv 0) rfl) (aa (pv 1) (aa (al (pv 3) rfl) ad))))) (fun C s' H' fp=>⟨ay (i:=0) Si rfl (Or.inl rfl),cr (aw (show eI _ (compareOp .NotIn) (QI K true) from lg) (pv 0) (show PE _ _ (rT K (qC 1) "way") from al (pv 1) rfl) (by with_unfolding_all rfl)),pv 0⟩)))) aH)
   (af (aA (i:=4) FJ.nd rfl (Or.inl rfl) (aG bT (cu plainAttrs_list PySem.F.slot_list_index PySem.F.type_list_index rb (al (pv 3) rfl) (aa (pv 1) ad)) aj))
   (ai (ar (lX pF (al (pv 3) rfl) (kY (pv 4)) (kY (aG bT (pv 4) aj))))))))),?_⟩
  have hY:=hI.Y
  obtain⟨Ap,AU,Ey⟩:=hY.AZ
  obtain⟨ln,AQ⟩:∃ ln,st.lanes[k]? = some ln:=⟨_,List.getElem?_eq_getElem hk⟩
  obtain⟨vl,FI,xl,Cb,HB,IQ,rfl,hL,_⟩:=Paired.at2 Ey AQ
  refine⟨_,rfl,a.y,ys.Ad,a.dy,_,_,rfl,hY.ins,Y.cl,Y.n3,rfl,_,rfl,a.la,Ap,(k:Int),_,rfl,rfl,Ah.of AU,ak FI,xl,Cb,_,rfl,hL.ins,rfl,xl,Cb,HB,ln.r,ln.b,ln.h,IQ,ln.qs,rfl,hL,?_⟩
  unfold cU bU at q
  rw[AQ]at q
  dsimp only at q
  rcases j3 hL.Bl with ⟨hf,ef⟩ | ⟨pq,pt,hf,ef,Ds⟩
  ·rw[hf]at q
   rw[ef]
   exact⟨_,rfl,rfl,_,rfl,aK ⟨zero_le _,fun D hD=>q D _ ((Ab.refl H).new hD) hD ac⟩⟩
  rw[hf]at q
  rw[ef]
  have hqm:pq ∈ ln.qs:=mem_of_head? hf
  obtain⟨m,t,em,hm,IS⟩:=hI.G.Bl k ln AQ pq hqm
  obtain⟨x0,y0,e1,e2,Pq,JC⟩:=hI.G.lets m t hm
  obtain⟨Eo,hw9⟩:=hI.G.Bm m t hm
  rw[em]at Ds
  dsimp only at q
  rw[em,toNat_natCast,hm]at q
  dsimp only at q
  refine⟨_,rfl,rfl,_,rfl,aI ?_⟩
  obtain⟨Ao,B0,pl⟩:=hY.hle
  obtain⟨v,hv,x,dx,wa,rfl,hx,hw,_⟩:=Paired.at2 pl hm
  refine⟨_,rfl,a.y,ys.Ad,a.dy,_,_,rfl,hY.ins,Y.cl,Y.n4,rfl,_,rfl,pt,_,0,_,rfl,rfl,An.of Ds,ak (j:=0) rfl,a.le,Ao,(m:Int),_,rfl,rfl,Ah.of B0,ak hv,?_⟩
  refine⟨_,rfl,pt,_,1,_,rfl,rfl,An.of Ds,ak (j:=1) rfl,rfl,_,rfl,?_⟩
  rw[bK]
  by_cases h0:pq.2=0
  ·rw[decide_eq_true h0]
   rw[if_pos h0,e2,toNat_natCast]at q
   refine aK ⟨_,rfl,a.y,ys.Ad,a.dy,_,_,rfl,hY.ins,Y.cl,Y.n1,rfl,_,rfl,_,rfl,x,ys.Ae,dx,_,_,rfl,hx,Y.ct,Y.t2,rfl,?_⟩
   rw[e2]
   refine⟨a,k,y0,rfl,hI.T,hI.O,by rw[← hI.G.lanes];exact hk,JC,fun D H1 s1 hD gD=>⟨D,rfl,⟨_,Ah.of gD⟩,?_⟩⟩
   have Ij:(rJ a k y0).length <= 400:=by
    unfold rJ
    by_cases z:(a.ps.getD k (0,0)).2=(y0:Int)
    ·rw[if_pos z];exact zero_le _
    ·rw[if_neg z];exact hI.O.Bd _ _ _
   refine fj (fun v=>match v with | .int i=>!decide (i ∈ iz t.way) | _=>false) (fun v=>v) (by rw[dq,sizeLine_eq];omega) (Ah.of gD) (fun y acc N hy h=>?_) (fun D2 Ck=>?_)
   ·obtain⟨u,hu,rfl⟩:=uz hy
    refine⟨_,rfl,_,rfl,x,ys.Ae,dx,_,_,rfl,s1 _ _ hx,Y.ct,Y.t6,rfl,wa,_,rfl, .inl (Ah.of (s1 _ _ hw)),rfl,by rw[pZ];exact iq _,_,rfl,?_⟩
    rw[pZ,ls]
    have h:N (if (!decide ((u:Int) ∈ iz t.way))=true then acc ++ [V.int u] else acc) H1:=h
    cases hb:decide ((u:Int) ∈ iz t.way) with
    | true =>
     rw[hb]at h
     exact aI h
    | false =>
     rw[hb]at h
     exact aK ⟨_,rfl,h⟩
   ·have e:((nV (rJ a k y0)).filter (fun v=>match v with | .int i=>!decide (i ∈ iz t.way) | _=>false)).map (fun v=>v)=nV ((rJ a k y0).filter fun l=>!decide (l ∈ t.way)):=by
     rw[List.map_id']
     unfold nV
     rw[List.filter_map]
     congr 1
     refine filter_congr fun u _=>?_
     show(!decide ((u:Int) ∈ iz t.way))=_
     rw[oM]
    rw[e]
    exact q D2 _ (s1.new Ck) (s1.free Ck) ac
  ·rw[decide_eq_false h0]
   rw[if_neg h0]at q
   refine aI ⟨_,rfl,x,ys.Ae,dx,_,_,rfl,hx,Y.ct,Y.t6,rfl, .inl ⟨rfl,_,Ah.of hw⟩,_,rfl,wa,iz t.way,(k:Int),rfl,rfl,by rw[← pZ];exact hw,Bu.mpr ⟨k,IS,rfl⟩,by unfold iz;rw[length_map];omega,_,_,rfl,rfl,?_⟩
   rw[uI]
   refine⟨_,rfl,x,ys.Ae,dx,_,_,rfl,hx,Y.ct,Y.t6,rfl,_,rfl,_,rfl,_,rfl,_,_,rfl,rfl,_,rfl,wa,_,rfl,Ah.of hw,fun D hD=>?_⟩
   have e:l9 (nV t.way) (some (((t.way.idxOf k:Nat):Int) + 1)) (some (((t.way.idxOf k:Nat):Int) + 1 + 1))=nV ((t.way.drop (t.way.idxOf k + 1)).take 1):=by
    have:=xc t.way (t.way.idxOf k + 1)
    rw[← this]
    rfl
   dsimp only
   rw[e]
   exact q D _ ((Ab.refl H).new hD) hD ac
theorem IT:ao WW ["self", "lane"] (ah lO):=L2.AG
theorem Sj:Bv WW (ah lO) (vK ((aE lO).getD 2 (.Pass ⟨0,0,0,0⟩))) ["self", "lane", "piece"] [0,1,2]:=L2.Cu
theorem Sk:(["other", "self", "lane", "piece"]:List Str).Nodup:=by decide +kernel
theorem ww {c:Cs}{ys:Ys}{J:TJ}{TC f fw ff fa fo:Addr}{fd dw df da CQ:FuncData}(F:AA K "moves_on" "Yard.moves_on" lO f fd)(Y:hU K ys)(W:Wy K TC fw dw J)
  (mf:bz K ys.AD "front" ff) (bf:Binds K df ["self"] []) (Gf:Ac P w K mg base aC 1 ff df ["self"] (iF ys.AD))
  (ma:bz K ys.Ad "wanted" fa) (ba:Binds K da ["self", "lane"] []) (Ga:Ac P w K mg base aC 5 fa da ["self", "lane"] (jb K c TC J ys))
  (mo:bz K ys.AD "open_to" fo) (bo:Binds K CQ ["self", "letter", "count"] []) (Go:Ac P w K mg base aC 1 fo CQ ["self", "letter", "count"] (kK ys.AD)) :
  Ac P w K mg base aC 6 f fd ["self", "lane"] (nS K c TC J ys):=by
 refine F.ok IT (fun vs H Q E h=>?_) (fun cdv A outer s H vs Q E hr h=>?_)
 ·obtain⟨a,s,k,rfl,_⟩:=h
  rfl
 ·obtain⟨a,st,k,rfl,hI,hk,q⟩:=h
  have Bb:Al 1 _:=hr.mono (by decide)
  refine⟨_,af (aA (i:=2) IT.nd rfl (Or.inr rfl) (aW (ax aL (al (pv 0) rfl) (pv 1) (fun _ _=>rfl)) Y.L.cl mf Gf Bb bf .nil ap))
   (af (aA (i:=3) IT.nd rfl (Or.inl rfl) (aD (pv 0) Y.cl ma Ga hr ba .nil ap (aa (pv 1) ad)))
   (ai (ar (bA (own:=["other"]) (capN:=["self", "lane", "piece"]) (cap:=[0,1,2]) Sj rfl (cb (pv 3)) (fun C s' H' fp=>⟨ay (i:=0) Sk rfl (Or.inl rfl),cr (bF (aD (ax (show oZ _ (tJ K) from aL) (show PE _ _ (rT K (qC 1) "lanes") from al (pv 1) rfl) (pv 0) (fun _ _=>rfl)) Y.L.cl mo Go Bb bo .nil ap (aa (ax (show oZ _ (kS K) from aF) (pv 3) aj (fun _ _=>rfl)) (aa (ax (show oZ _ (kS K) from aF) (pv 3) aj (fun _ _=>rfl)) ad)))),bJ (aa b8 (aa (pv 2) (aa (pv 0) ad)))⟩))))),?_⟩
  have hY:=hI.Y
  obtain⟨Ap,AU,Ey⟩:=hY.AZ
  obtain⟨ln,AQ⟩:∃ ln,st.lanes[k]? = some ln:=⟨_,List.getElem?_eq_getElem hk⟩
  obtain⟨vl,FI,xl,Cb,HB,IQ,rfl,hL,_⟩:=Paired.at2 Ey AQ
  refine⟨_,rfl,a.y,ys.Ad,a.dy,_,_,rfl,hY.ins,Y.cl,Y.n3,rfl,_,rfl,a.la,Ap,(k:Int),_,rfl,rfl,Ah.of AU,ak FI,xl,Cb,_,rfl,hL.ins,rfl,xl,Cb,HB,ln.r,ln.b,ln.h,IQ,ln.qs,rfl,hL,?_⟩
  refine⟨_,rfl,a.y,a.dy,_,rfl,hY.ins,rfl,_,rfl,a,st,k,rfl,hI,hk,fun D H1 s1 hD gD=>?_⟩
  refine⟨_,rfl,D,rfl,⟨_,Ah.of gD⟩,?_⟩
  have C7:=hI.same W s1
  have eF:bU st k=ln.qs.head?:=by unfold bU;rw[AQ]
  have MJ:∀ u ∈ cU a st k,u < a.ps.length:=fun u hu=>by
   unfold cU at hu
   rw[eF]at hu
   cases hq:ln.qs.head? with
   | none=>rw[hq]at hu;cases hu
   | some pq =>
    rw[hq]at hu
    obtain⟨m,t,em,hm,IS⟩:=hI.G.Bl k ln AQ pq (mem_of_head? hq)
    obtain⟨x0,y0,e1,e2,Pq,JC⟩:=hI.G.lets m t hm
    dsimp only at hu
    rw[em,toNat_natCast,hm]at hu
    dsimp only at hu
    by_cases h0:pq.2=0
    ·rw[if_pos h0,e2,toNat_natCast]at hu
     have hu:=(mem_filter.mp hu).1
     unfold rJ at hu
     by_cases z:(a.ps.getD k (0,0)).2=(y0:Int)
     ·rw[if_pos z]at hu;cases hu
     ·rw[if_neg z]at hu
      have JD:k < a.ps.length:=by rw[← hI.G.lanes];exact hk
      obtain⟨e,ee,ML⟩:=hI.O.ends k _ (List.getElem?_eq_getElem JD)
      have HC:a.ps.getD k (0,0)=a.ps[k]:=by rw[getD_eq_getElem?_getD,List.getElem?_eq_getElem JD];rfl
      rw[HC,ee,toNat_natCast]at hu
      exact hI.T.ok _ _ _ ML JC u hu
    ·rw[if_neg h0]at hu
     exact(hI.G.Bm m t hm).1 u (List.mem_of_mem_drop (mem_of_mem_take hu))
  have Eo:(cU a st k).length <= 1000:=by
   unfold cU
   cases bU st k with
   | none=>exact zero_le _
   | some pq =>
    dsimp only
    cases st.U[pq.1.toNat]? with
    | none=>exact zero_le _
    | some t =>
     dsimp only
     by_cases h0:pq.2=0
     ·rw[if_pos h0]
      refine le_trans (length_filter_le _ _) ?_
      unfold rJ
      by_cases z:(a.ps.getD k (0,0)).2=((t.goal.toNat:Nat):Int)
      ·rw[if_pos z];exact zero_le _
      ·rw[if_neg z];exact le_trans (hI.O.Bd _ _ _) (by decide)
     ·rw[if_neg h0,length_take];omega
  unfold iC at q
  rw[eF]at q
  rcases j3 hL.Bl with ⟨hf,ef⟩ | ⟨pq,pt,hf,ef,Ds⟩
  ·have e0:cU a st k=[]:=by unfold cU;rw[eF,hf]
   rw[hf]at q
   rw[e0]at gD
   refine lA (fun l=>false) (Mv.on k) (by rw[sizeLine_eq];decide) gD (fun u H2 acc N hu s2 FH GL=>by cases hu) (fun D2 IK H2 s2 Ck hp=>?_)
   exact q D2 IK _ ((s1.trans s2).new Ck) (s1.free (s2.free Ck)) ac (Paired.mono (fun _ _ z=>z.keep (Ab.Am ((Ab.refl H2).new Ck))) hp)
  rw[hf]at q
  dsimp only at q
  rw[ef]
  refine lA (fun l=>fL st l pq.1 pq.2) (Mv.on k) (by rw[sizeLine_eq];omega) gD (fun u H2 acc N hu s2 FH GL=>?_) (fun D2 IK H2 s2 Ck hp=>?_)
  ·have C8:=C7.same W s2
   obtain⟨IL,IM,IP⟩:=C8.Y.AZ
   have Sg:u < st.lanes.length:=by rw[hI.G.lanes];exact MJ u hu
   obtain⟨Bz,Cp⟩:∃ ln,st.lanes[u]? = some ln:=⟨_,List.getElem?_eq_getElem Sg⟩
   obtain⟨vu,hvu,xu,WX,pau,pvu,rfl,WY,_⟩:=Paired.at2 IP Cp
   have EN:=s2 _ _ (s1 _ _ Ds)
   refine⟨_,rfl,a.y,ys.Ad,a.dy,_,_,rfl,C8.Y.ins,Y.cl,Y.n3,rfl,_,rfl,a.la,IL,(u:Int),_,rfl,rfl,Ah.of IM,ak hvu,xu,WX,_,rfl,WY.ins,rfl,_,rfl,pt,_,0,_,rfl,rfl,An.of EN,ak (j:=0) rfl,_,rfl,pt,_,1,_,rfl,rfl,An.of EN,ak (j:=1) rfl,xu,WX,pau,Bz.r,Bz.b,Bz.h,pq.1,pq.2,rfl,WY.ins,_,rfl,?_⟩
   have eo:fL st u pq.1 pq.2=cf Bz.r Bz.h pq.1 pq.2:=by unfold fL;rw[Cp]
   cases ho:cf Bz.r Bz.h pq.1 pq.2 with
   | false=>exact aI (GL (by rw[eo,ho]))
   | true=>exact aK ⟨_,rfl,_,rfl,by show 3 <= sizeLine;decide,fun z hz=>FH (by rw[eo,ho]) _ _ ((Ab.refl H2).new hz) ⟨z,rfl,ac⟩⟩
  ·exact q D2 IK _ ((s1.trans s2).new Ck) (s1.free (s2.free Ck)) ac (Paired.mono (fun _ _ z=>z.keep (Ab.Am ((Ab.refl H2).new Ck))) hp)
theorem MN:ao ["self", "lane", "piece"] ["self", "lane"] (ah oi):=L2.AG
theorem ui {c:Cs}{ys:Ys}{J:TJ}{TC f fw ff fe:Addr}{fd dw df de:FuncData}(F:AA K "moves_lie" "Yard.moves_lie" oi f fd)(Y:hU K ys)(L:lC K c)(W:Wy K TC fw dw J)
  (mf:bz K ys.AD "front" ff) (bf:Binds K df ["self"] []) (Gf:Ac P w K mg base aC 1 ff df ["self"] (iF ys.AD)) (M:xr K c fe de) (Ge:Ac P w K mg base aC 1 fe de ["self", "lane"] (nZ c Prod.snd)) :
  Ac P w K mg base aC 2 f fd ["self", "lane"] (p6 K c TC J ys):=by
 refine F.ok MN (fun vs H Q E h=>?_) (fun cdv A outer s H vs Q E hr h=>?_)
 ·obtain⟨a,s,k,rfl,_⟩:=h
  rfl
 ·obtain⟨a,st,k,rfl,hI,hk,q⟩:=h
  refine⟨_,af (aA (i:=2) MN.nd rfl (Or.inl rfl) (aW (ax aL (al (pv 0) rfl) (pv 1) (fun _ _=>rfl)) Y.L.cl mf Gf hr bf .nil ap))
   (af (aP (PW.pt (fK (aw lh (pv 2) cv (aB _)) (e9 (aw jS (al (ax aL (al (pv 0) rfl) (ax aF (pv 2) aj (fun _ _=>rfl)) (fun _ _=>rfl)) rfl) (aD (al (al (pv 0) rfl) rfl) L.cl M.m Ge hr M.b .nil ap (aa (pv 1) ad)) (aB _))))) (ai (ar (aX ad))) aH)
   (ai (ar (aX (aa (bJ (aa b8 (aa (pv 1) ad))) ad))))),?_⟩
  have hY:=hI.Y
  obtain⟨Ap,AU,Ey⟩:=hY.AZ
  obtain⟨ln,AQ⟩:∃ ln,st.lanes[k]? = some ln:=⟨_,List.getElem?_eq_getElem hk⟩
  obtain⟨vl,FI,xl,Cb,HB,IQ,rfl,hL,_⟩:=Paired.at2 Ey AQ
  refine⟨_,rfl,a.y,ys.Ad,a.dy,_,_,rfl,hY.ins,Y.cl,Y.n3,rfl,_,rfl,a.la,Ap,(k:Int),_,rfl,rfl,Ah.of AU,ak FI,xl,Cb,_,rfl,hL.ins,rfl,xl,Cb,HB,ln.r,ln.b,ln.h,IQ,ln.qs,rfl,hL,?_⟩
  have eF:bU st k=ln.qs.head?:=by unfold bU;rw[AQ]
  unfold eR at q
  rw[eF]at q
  rcases j3 hL.Bl with ⟨hf,ef⟩ | ⟨pq,pt,hf,ef,Ds⟩
  ·rw[hf]at q
   rw[ef]
   exact⟨_,rfl,rfl,_,rfl,aK (aK ⟨zero_le _,fun D hD=>q D [] _ ((Ab.refl H).new hD) hD ac .nil⟩)⟩
  rw[hf]at q
  rw[ef]
  obtain⟨m,t,em,hm,IS⟩:=hI.G.Bl k ln AQ pq (mem_of_head? hf)
  rw[em]at Ds
  dsimp only at q
  rw[em,toNat_natCast,hm]at q
  dsimp only at q
  obtain⟨Ao,B0,pl⟩:=hY.hle
  obtain⟨v,hv,x,dx,wa,rfl,hx,hw,_⟩:=Paired.at2 pl hm
  obtain⟨C5,fst,Cj,AM,B7⟩:=hI.T.i
  have JD:k < a.ps.length:=by rw[← hI.G.lanes];exact hk
  have he:=List.getElem?_eq_getElem JD
  have HC:a.ps.getD k (0,0)=a.ps[k]:=by rw[getD_eq_getElem?_getD,he];rfl
  rw[HC]at q
  refine⟨_,rfl,rfl,_,rfl,aI ⟨_,rfl,a.y,ys.Ad,a.dy,_,_,rfl,hY.ins,Y.cl,Y.n4,rfl,_,rfl,pt,_,0,_,rfl,rfl,An.of Ds,ak (j:=0) rfl,a.le,Ao,(m:Int),_,rfl,rfl,Ah.of B0,ak hv,x,ys.Ae,dx,_,_,rfl,hx,Y.ct,Y.t2,rfl,_,rfl,a.y,ys.Ad,a.dy,_,_,rfl,hY.ins,Y.cl,Y.n1,rfl,a.tb,TC,C5,fst,_,rfl,Cj,W.cl,W.nl,AM,a.lx,a.AF,_,rfl,hI.T.l.1,rfl,_,rfl,a.lx,a.AF,a.lt,(a.n:Int),a.Ao,a.ps,k,_,rfl,hI.T.l,he,rfl,_,rfl,?_⟩⟩
  rw[bK]
  by_cases hg:t.goal=a.ps[k].2
  ·rw[decide_eq_true hg]
   rw[if_pos hg]at q
   refine aI ⟨_,rfl,by show 2 <= sizeLine;decide,fun z hz=>⟨by show 1 <= sizeLine;decide,fun D hD=>?_⟩⟩
   have s2:=(Ab.refl H).new (o := .tup [.str "lie", .int k]) hz
   have gz:(upd H z (.tup [.str "lie", .int k])) z=some (.tup [.str "lie", .int k]):=ac
   exact q D [.ref z] _ (s2.new hD) (s2.free hD) ac (.cons ⟨z,rfl,by rw[ae (ag gz hD)];exact gz⟩ .nil)
  ·rw[decide_eq_false hg]
   rw[if_neg hg]at q
   exact aK ⟨zero_le _,fun D hD=>q D [] _ ((Ab.refl H).new hD) hD ac .nil⟩
theorem Sl:ao ["self", "lane"] ["self", "lane"] (ah kP):=L2.AG
theorem qU {c:Cs}{ys:Ys}{J:TJ}{TC f:Addr}{fd:FuncData}(F:AA K "moves_back" "Yard.moves_back" kP f fd)(Y:hU K ys):Ac P w K mg base aC 1 f fd ["self", "lane"] (jc K c TC J ys):=by
 refine F.ok Sl (fun vs H Q E h=>?_) (fun cdv A outer s H vs Q E hr h=>?_)
 ·obtain⟨a,s,k,rfl,_⟩:=h
  rfl
 ·obtain⟨a,st,k,rfl,hI,hk,q⟩:=h
  refine⟨_,ai (ar (c9 (aw tZ (al (ax aL (al (pv 0) rfl) (pv 1) (fun _ _=>rfl)) rfl) aj (aB _)) (aX (aa (bJ (aa b8 (aa (pv 1) ad))) ad)) (aX ad))),?_⟩
  have hY:=hI.Y
  obtain⟨Ap,AU,Ey⟩:=hY.AZ
  obtain⟨ln,AQ⟩:∃ ln,st.lanes[k]? = some ln:=⟨_,List.getElem?_eq_getElem hk⟩
  obtain⟨vl,FI,xl,Cb,HB,IQ,rfl,hL,_⟩:=Paired.at2 Ey AQ
  unfold du at q
  dsimp only at q
  rw[AQ]at q
  dsimp only at q
  refine⟨_,rfl,a.y,ys.Ad,a.dy,_,_,rfl,hY.ins,Y.cl,Y.n3,rfl,_,rfl,a.la,Ap,(k:Int),_,rfl,rfl,Ah.of AU,ak FI,xl,ys.AD,Cb,_,_,rfl,hL.ins,Y.L.cl,Y.L.n2,rfl,_,_,rfl,rfl,_,rfl,?_⟩
  by_cases hb:0 < ln.b
  ·rw[decide_eq_true hb]
   rw[if_pos hb]at q
   refine aK ⟨_,rfl,by show 2 <= sizeLine;decide,fun z hz=>⟨by show 1 <= sizeLine;decide,fun D hD=>?_⟩⟩
   have s2:=(Ab.refl H).new (o := .tup [.str "back", .int k]) hz
   have gz:(upd H z (.tup [.str "back", .int k])) z=some (.tup [.str "back", .int k]):=ac
   exact q D [.ref z] _ (s2.new hD) (s2.free hD) ac (.cons ⟨z,rfl,by rw[ae (ag gz hD)];exact gz⟩ .nil)
  ·rw[decide_eq_false hb]
   rw[if_neg hb]at q
   exact aI ⟨zero_le _,fun D hD=>q D [] _ ((Ab.refl H).new hD) hD ac .nil⟩
theorem mG {H:Hp}{F:Addr}{xs:List V}{o:HO}(h:H F=some (.lst xs)):Ax H (upd H F o):=fun b u e n=>by
 have nb:b ≠ F:=fun z=>by rw[z,h]at e;cases e;exact n
 rw[ae nb];exact e
theorem dP {α:Type}(f:Nat->List α)(i:Nat):(List.range (i + 1)).flatMap f=(List.range i).flatMap f ++ f i:=by
 rw[range_succ,List.flatMap_append];simp
theorem bj {α:Type}{f:Nat->List α}(h:∀ i,(f i).length <= 1000):∀ i,((List.range i).flatMap f).length <= 1000 * i
 | 0=>by simp
 | i + 1=>by rw[dP,length_append];have:=bj h i;have:=h i;omega
theorem dM {a:YA}{s:YS}(O:MI a)(G:Sb a s)(k:Nat):(ik a s k).length <= 1000:=by
 unfold ik
 cases ht:s.U[k]? with
 | none=>exact zero_le _
 | some t =>
  dsimp only
  by_cases hg:t.gone=t.len
  ·rw[if_pos hg];exact zero_le _
  rw[if_neg hg,length_map]
  refine le_trans (length_filter_le _ _) ?_
  unfold cI
  by_cases h0:t.gone=0
  ·rw[if_pos h0];exact le_trans (O.Bd _ _ _) (by decide)
  ·rw[if_neg h0,length_take];omega
theorem dL {a:YA}{s:YS}(O:MI a)(k:Nat):(iC a s k).length <= 1000:=by
 unfold iC
 cases hq:bU s k with
 | none=>exact zero_le _
 | some pq =>
  dsimp only
  rw[length_map]
  refine le_trans (length_filter_le _ _) ?_
  unfold cU
  rw[hq]
  dsimp only
  cases s.U[pq.1.toNat]? with
  | none=>exact zero_le _
  | some t =>
   dsimp only
   by_cases h0:pq.2=0
   ·rw[if_pos h0]
    refine le_trans (length_filter_le _ _) ?_
    unfold rJ
    by_cases z:(a.ps.getD k (0,0)).2=((t.goal.toNat:Nat):Int)
    ·rw[if_pos z];exact zero_le _
    ·rw[if_neg z];exact le_trans (O.Bd _ _ _) (by decide)
   ·rw[if_neg h0,length_take];omega
theorem c6 (a:YA)(s:YS)(k:Nat):(eR a s k).length <= 1000:=by
 unfold eR
 cases bU s k with
 | none=>exact zero_le _
 | some pq =>
  dsimp only
  cases s.U[pq.1.toNat]? with
  | none=>exact zero_le _
  | some t =>
   dsimp only
   by_cases h0:t.goal=(a.ps.getD k (0,0)).2
   ·rw[if_pos h0];show 1 <= 1000;decide
   ·rw[if_neg h0];exact zero_le _
theorem jr (s:YS)(k:Nat):(du s k).length <= 1000:=by
 unfold du
 cases s.lanes[k]? with
 | none=>exact zero_le _
 | some ln =>
  dsimp only
  by_cases h0:0 < ln.b
  ·rw[if_pos h0];show 1 <= 1000;decide
  ·rw[if_neg h0];exact zero_le _
noncomputable def bu (a:YA)(s:YS):List Mv:=(List.range s.U.length).flatMap (ik a s) ++ (List.range s.lanes.length).flatMap (iC a s) ++ (List.range s.lanes.length).flatMap (eR a s) ++ (List.range s.lanes.length).flatMap (du s)
noncomputable def iE (K:Frag)(c:Cs)(TC:Addr)(J:TJ)(ys:Ys):Sp:=fun vs H Q _=>∃ (a:YA)(s:YS),vs=[.ref a.y]/\Cz K c TC J ys H a s /\
 ∀ (D:Addr)(As:List V)(H':Hp),Ab H H'->H D=none->H' D=some (.lst As)->Paired (Bc H') As ((bu a s).map dD)->Q (.ref D) H'
theorem Paired.app {α β:Type}{R:α->β->Prop}{cs:List α}{ds:List β}(h:Paired R cs ds):∀ {as:List α}{bs:List β},Paired R as bs->Paired R (as ++ cs) (bs ++ ds):=fun Af=>by
 induction Af with
 | nil=>exact h
 | cons x r ih=>exact .cons x ih
theorem iO {H H2 H3:Hp}{F:Addr}{vs As:List V}{xs ys:List Mv}(nF:H F=none)(s2:Ab H H2)(g2:H2 F=some (.lst vs))(p2:Paired (Bc H2) vs (xs.map dD))(s3:Ab H2 H3)(p3:Paired (Bc H3) As (ys.map dD)) :
  Ab H (upd H3 F (.lst (vs ++ As)))/\(upd H3 F (.lst (vs ++ As))) F=some (.lst (vs ++ As))/\Paired (Bc (upd H3 F (.lst (vs ++ As)))) (vs ++ As) ((xs ++ ys).map dD):=by
 refine⟨fun b o e=>by rw[ae (ag e nF)];exact s3 _ _ (s2 _ _ e),ac,?_⟩
 have kk:Ax H3 (upd H3 F (.lst (vs ++ As))):=mG (s3 _ _ g2)
 rw[map_append]
 have q2:=Paired.mono (fun _ _ z=>z.keep (Ax.trans (Ab.Am s3) kk)) p2
 have q3:=Paired.mono (fun _ _ z=>z.keep kk) p3
 exact Paired.app q3 q2
noncomputable abbrev NMs:List Str:=["self", "found", "number", "lane"]
theorem Ef:ao NMs ["self"] (ah oj):=L2.AG
structure Sm (P:Program)(w:World)(K:Frag)(mg:Str->Option Value)(base:Heap)(c:Cs)(TC:Addr)(J:TJ)(ys:Ys)(fi fo fl fb:Addr)(di CQ dl db:FuncData):Prop where
 mi:bz K ys.Ad "moves_in" fi
 bi:Binds K di ["self", "number"] []
 Gi:Ac P w K mg base aC 4 fi di ["self", "number"] (nU K c TC J ys)
 mo:bz K ys.Ad "moves_on" fo
 bo:Binds K CQ ["self", "lane"] []
 Go:Ac P w K mg base aC 6 fo CQ ["self", "lane"] (nS K c TC J ys)
 ml:bz K ys.Ad "moves_lie" fl
 bl:Binds K dl ["self", "lane"] []
 Gl:Ac P w K mg base aC 2 fl dl ["self", "lane"] (p6 K c TC J ys)
 mb:bz K ys.Ad "moves_back" fb
 bb:Binds K db ["self", "lane"] []
 Gb:Ac P w K mg base aC 1 fb db ["self", "lane"] (jc K c TC J ys)
theorem uj {c:Cs}{ys:Ys}{J:TJ}{TC f fw fi fo fl fb:Addr}{fd dw di CQ dl db:FuncData}(F:AA K "moves" "Yard.moves" oj f fd)(T:dE mg)(Y:hU K ys)(W:Wy K TC fw dw J)(M:Sm P w K mg base c TC J ys fi fo fl fb di CQ dl db) :
  Ac P w K mg base aC 7 f fd ["self"] (iE K c TC J ys):=by
 refine F.ok Ef (fun vs H Q E h=>?_) (fun cdv A outer s H vs Q E hr h=>?_)
 ·obtain⟨a,s,rfl,_⟩:=h
  rfl
 ·obtain⟨a,st,rfl,hI,q⟩:=h
  have Bb:Al 1 _:=hr.mono (by decide)
  have Bw:Al 2 _:=hr.mono (by decide)
  have Dn:Al 4 _:=hr.mono (by decide)
  refine⟨_,af (aA (i:=1) Ef.nd rfl (Or.inl rfl) (aX ad))
   (af (bI PassesOwn.never rfl (aM rfl T.range (aa (av aq rfl T.len PySem.boot_len (aa (al (pv 0) rfl) ad)) ad)) (ay (i:=2) Ef.nd rfl (Or.inl rfl)) (ai (aN (cu plainAttrs_list slot_list_extend type_list_extend fB (pv 1) (aa (aD (pv 0) Y.cl M.mi M.Gi Dn M.bi .nil ap (aa (pv 2) ad)) ad)))))
   (af (bI PassesOwn.never rfl (aM rfl T.range (aa (av aq rfl T.len PySem.boot_len (aa (al (pv 0) rfl) ad)) ad)) (ay (i:=3) Ef.nd rfl (Or.inl rfl)) (ai (aN (cu plainAttrs_list slot_list_extend type_list_extend fB (pv 1) (aa (aD (pv 0) Y.cl M.mo M.Go hr M.bo .nil ap (aa (pv 3) ad)) ad)))))
   (af (bI PassesOwn.never rfl (aM rfl T.range (aa (av aq rfl T.len PySem.boot_len (aa (al (pv 0) rfl) ad)) ad)) (ay (i:=3) Ef.nd rfl (Or.inl rfl)) (ai (aN (cu plainAttrs_list slot_list_extend type_list_extend fB (pv 1) (aa (aD (pv 0) Y.cl M.ml M.Gl Bw M.bl .nil ap (aa (pv 3) ad)) ad)))))
   (af (bI PassesOwn.never rfl (aM rfl T.range (aa (av aq rfl T.len PySem.boot_len (aa (al (pv 0) rfl) ad)) ad)) (ay (i:=3) Ef.nd rfl (Or.inl rfl)) (ai (aN (cu plainAttrs_list slot_list_extend type_list_extend fB (pv 1) (aa (aD (pv 0) Y.cl M.mb M.Gb Bb M.bb .nil ap (aa (pv 3) ad)) ad)))))
   (ai (ar (pv 1))))))),?_⟩
  have hlet:=hI.G.Bd
  have FK:st.lanes.length <= 40:=by rw[hI.G.lanes];exact hI.T.Bd
  refine⟨zero_le _,fun Fd JE=>?_⟩
  have s0:=(Ab.refl H).new (o := .lst []) JE
  have g0:(upd H Fd (.lst [])) Fd=some (.lst []):=ac
  show dO 1 (V.ref Fd) _ _ _
  generalize upd H Fd (.lst [])=H0 at s0 g0 ⊢
  have Sn:∃ vs,Ab H H0/\H0 Fd=some (.lst vs)/\Paired (Bc H0) vs (([]:List Mv).map dD):=⟨[],s0,g0, .nil⟩
  obtain⟨Er,WZ,g0',p0'⟩:=Sn
  have Xa:=(hI.same W WZ).Y
  obtain⟨Xb,gl0,pl0⟩:=Xa.hle
  have So:Xb.length=st.U.length:=Paired.length pl0
  refine⟨_,rfl,a.y,ys.Ad,a.dy,_,_,rfl,Xa.ins,Y.cl,Y.n4,rfl,a.le,_,rfl, .inl (Ah.of gl0),((Xb.length:Nat):Int),rfl,by omega,by omega,?_⟩
  rw[toNat_natCast,So]
  refine bE (n:=st.U.length) (fun i σ H2=>∃ a2 a3:Option V,(∃ vs,Ab H H2/\H2 Fd=some (.lst vs)/\Paired (Bc H2) vs (((List.range i).flatMap (ik a st)).map dD))/\σ=[some (.ref a.y),some (.ref Fd),a2,a3]) ?_ ?_ ?_
  ·exact⟨_,_,⟨Er,WZ,g0',by simpa using p0'⟩,rfl⟩
  ·rintro i σ H2 hi ⟨a2,a3,⟨vs,s2,g2,p2⟩,rfl⟩
   rw[zero_add]
   have C8:=hI.same W s2
   refine⟨_,rfl, .inl ⟨rfl,_,Ah.of g2⟩,_,rfl,a.y,a.dy,_,rfl,C8.Y.ins,rfl,_,rfl,a,st,i,rfl,C8,hi,fun D As H3 s3 hD gD hp=>?_⟩
   have l1:vs.length <= 1000000:=by
    rw[Paired.length p2,length_map]
    have h0:=bj (dM hI.O hI.G) st.U.length
    have h1:=bj (dL (s:=st) hI.O) st.lanes.length
    have h2:=bj (c6 a st) st.lanes.length
    have hh:=bj (dM hI.O hI.G) i
    try simp only[length_append]
    omega
   have l2:As.length <= 1000:=by rw[Paired.length hp,length_map];exact(dM hI.O hI.G) i
   obtain⟨q1,q2,q3⟩:=iO JE s2 g2 p2 s3 hp
   refine⟨Fd,D,vs,As,rfl,rfl,s3 _ _ g2,gD,by rw[sizeLine_eq];omega,?_⟩
   refine⟨_,_,⟨vs ++ As,q1,q2,?_⟩,rfl⟩
   rw[dP]
   exact q3
  rintro σ0 H1 ⟨a20,a30,inv1,rfl⟩
  obtain⟨vs1,Xc,g1',p1'⟩:=inv1
  have Cg:=(hI.same W Xc).Y
  obtain⟨Xd,Pr,RZ⟩:=Cg.AZ
  have Sr:Xd.length=st.lanes.length:=Paired.length RZ
  refine⟨_,rfl,a.y,ys.Ad,a.dy,_,_,rfl,Cg.ins,Y.cl,Y.n3,rfl,a.la,_,rfl, .inl (Ah.of Pr),((Xd.length:Nat):Int),rfl,by omega,by omega,?_⟩
  rw[toNat_natCast,Sr]
  refine bE (n:=st.lanes.length) (fun i σ H2=>∃ a2 a3:Option V,(∃ vs,Ab H H2/\H2 Fd=some (.lst vs)/\Paired (Bc H2) vs ((((List.range st.U.length).flatMap (ik a st)) ++ (List.range i).flatMap (iC a st)).map dD))/\σ=[some (.ref a.y),some (.ref Fd),a2,a3]) ?_ ?_ ?_
  ·exact⟨_,_,⟨vs1,Xc,g1',by simpa using p1'⟩,rfl⟩
  ·rintro i σ H2 hi ⟨a2,a3,⟨vs,s2,g2,p2⟩,rfl⟩
   rw[zero_add]
   have C8:=hI.same W s2
   refine⟨_,rfl, .inl ⟨rfl,_,Ah.of g2⟩,_,rfl,a.y,a.dy,_,rfl,C8.Y.ins,rfl,_,rfl,a,st,i,rfl,C8,hi,fun D As H3 s3 hD gD hp=>?_⟩
   have l1:vs.length <= 1000000:=by
    rw[Paired.length p2,length_map]
    have h0:=bj (dM hI.O hI.G) st.U.length
    have h1:=bj (dL (s:=st) hI.O) st.lanes.length
    have h2:=bj (c6 a st) st.lanes.length
    have hh:=bj (dL (s:=st) hI.O) i
    try simp only[length_append]
    omega
   have l2:As.length <= 1000:=by rw[Paired.length hp,length_map];exact(dL (s:=st) hI.O) i
   obtain⟨q1,q2,q3⟩:=iO JE s2 g2 p2 s3 hp
   refine⟨Fd,D,vs,As,rfl,rfl,s3 _ _ g2,gD,by rw[sizeLine_eq];omega,?_⟩
   refine⟨_,_,⟨vs ++ As,q1,q2,?_⟩,rfl⟩
   rw[dP]
   rw[← append_assoc];exact q3
  rintro σ1 H2 ⟨a21,a31,inv2,rfl⟩
  obtain⟨IK,Xe,g2',p2'⟩:=inv2
  have C6:=(hI.same W Xe).Y
  obtain⟨Xf,gl2,pl2⟩:=C6.AZ
  have Ss:Xf.length=st.lanes.length:=Paired.length pl2
  refine⟨_,rfl,a.y,ys.Ad,a.dy,_,_,rfl,C6.ins,Y.cl,Y.n3,rfl,a.la,_,rfl, .inl (Ah.of gl2),((Xf.length:Nat):Int),rfl,by omega,by omega,?_⟩
  rw[toNat_natCast,Ss]
  refine bE (n:=st.lanes.length) (fun i σ H2=>∃ a2 a3:Option V,(∃ vs,Ab H H2/\H2 Fd=some (.lst vs)/\Paired (Bc H2) vs ((((List.range st.U.length).flatMap (ik a st) ++ (List.range st.lanes.length).flatMap (iC a st)) ++ (List.range i).flatMap (eR a st)).map dD))/\σ=[some (.ref a.y),some (.ref Fd),a2,a3]) ?_ ?_ ?_
  ·exact⟨_,_,⟨IK,Xe,g2',by simpa using p2'⟩,rfl⟩
  ·rintro i σ H2 hi ⟨a2,a3,⟨vs,s2,g2,p2⟩,rfl⟩
   rw[zero_add]
   have C8:=hI.same W s2
   refine⟨_,rfl, .inl ⟨rfl,_,Ah.of g2⟩,_,rfl,a.y,a.dy,_,rfl,C8.Y.ins,rfl,_,rfl,a,st,i,rfl,C8,hi,fun D As H3 s3 hD gD hp=>?_⟩
   have l1:vs.length <= 1000000:=by
    rw[Paired.length p2,length_map]
    have h0:=bj (dM hI.O hI.G) st.U.length
    have h1:=bj (dL (s:=st) hI.O) st.lanes.length
    have h2:=bj (c6 a st) st.lanes.length
    have hh:=bj (c6 a st) i
    try simp only[length_append]
    omega
   have l2:As.length <= 1000:=by rw[Paired.length hp,length_map];exact(c6 a st) i
   obtain⟨q1,q2,q3⟩:=iO JE s2 g2 p2 s3 hp
   refine⟨Fd,D,vs,As,rfl,rfl,s3 _ _ g2,gD,by rw[sizeLine_eq];omega,?_⟩
   refine⟨_,_,⟨vs ++ As,q1,q2,?_⟩,rfl⟩
   rw[dP]
   rw[← append_assoc];exact q3
  rintro σ2 H3 ⟨a22,a32,Su,rfl⟩
  obtain⟨vs3,Xg,g3',p3'⟩:=Su
  have Cn:=(hI.same W Xg).Y
  obtain⟨Xh,Pt,pl3⟩:=Cn.AZ
  have Sv:Xh.length=st.lanes.length:=Paired.length pl3
  refine⟨_,rfl,a.y,ys.Ad,a.dy,_,_,rfl,Cn.ins,Y.cl,Y.n3,rfl,a.la,_,rfl, .inl (Ah.of Pt),((Xh.length:Nat):Int),rfl,by omega,by omega,?_⟩
  rw[toNat_natCast,Sv]
  refine bE (n:=st.lanes.length) (fun i σ H2=>∃ a2 a3:Option V,(∃ vs,Ab H H2/\H2 Fd=some (.lst vs)/\Paired (Bc H2) vs ((((List.range st.U.length).flatMap (ik a st) ++ (List.range st.lanes.length).flatMap (iC a st) ++ (List.range st.lanes.length).flatMap (eR a st)) ++ (List.range i).flatMap (du st)).map dD))/\σ=[some (.ref a.y),some (.ref Fd),a2,a3]) ?_ ?_ ?_
  ·exact⟨_,_,⟨vs3,Xg,g3',by simpa using p3'⟩,rfl⟩
  ·rintro i σ H2 hi ⟨a2,a3,⟨vs,s2,g2,p2⟩,rfl⟩
   rw[zero_add]
   have C8:=hI.same W s2
   refine⟨_,rfl, .inl ⟨rfl,_,Ah.of g2⟩,_,rfl,a.y,a.dy,_,rfl,C8.Y.ins,rfl,_,rfl,a,st,i,rfl,C8,hi,fun D As H3 s3 hD gD hp=>?_⟩
   have l1:vs.length <= 1000000:=by
    rw[Paired.length p2,length_map]
    have h0:=bj (dM hI.O hI.G) st.U.length
    have h1:=bj (dL (s:=st) hI.O) st.lanes.length
    have h2:=bj (c6 a st) st.lanes.length
    have hh:=bj (jr st) i
    try simp only[length_append]
    omega
   have l2:As.length <= 1000:=by rw[Paired.length hp,length_map];exact(jr st) i
   obtain⟨q1,q2,q3⟩:=iO JE s2 g2 p2 s3 hp
   refine⟨Fd,D,vs,As,rfl,rfl,s3 _ _ g2,gD,by rw[sizeLine_eq];omega,?_⟩
   refine⟨_,_,⟨vs ++ As,q1,q2,?_⟩,rfl⟩
   rw[dP]
   rw[← append_assoc];exact q3
  rintro σ3 H4 ⟨a23,a33,Sw,rfl⟩
  obtain⟨vs,s2,g2,p2⟩:=Sw
  exact⟨_,rfl,q Fd vs _ s2 JE g2 p2⟩
structure MO (K:Frag):Prop where
 ss:kitOne K (.type "str") (.type "str")=some true
 ns:kitOne K (.type "int") (.type "str")=some false
 tt:kitOne K (.type "tuple") (.type "tuple")=some true
theorem iA {a b:Str}(h:a ≠ b):decide (V.str a=V.str b)=false:=decide_eq_false fun z=>h (by injection z)
theorem jf (a:Str):decide (V.str a=V.str a)=true:=decide_eq_true rfl
noncomputable def sD:Sp:=fun vs H Q _=>∃ (p:Addr)(xs:List V),vs=[.ref p]/\H p=some (.tup xs)/\xs.length <= 100/\(∀ x ∈ xs,(∃ t,x = .str t)∨∃ i,x = .int i)/\∀ H',Ab H H'->Q (.bl true) H'
noncomputable def xh (s:Stmt):Scope:=match s with
 | .Return (some (.BoolOp _ [_, .Call _ [.ListComp _ _ sc _] _ _] _)) _=>sc
 | _=>{ kind := .function,names:=[],isGenerator:=false,isCoroutine:=false }
theorem m7 (m:Mv):(dD m).length <= 100/\∀ x ∈ dD m,(∃ t,x=V.str t)∨∃ i,x=V.int i:=by
 cases m<;>refine⟨by simp[dD],fun x hx=>?_⟩<;>simp only[dD,mem_cons,not_mem_nil,or_false]at hx
 ·rcases hx with rfl | rfl | rfl
  ·exact .inl ⟨_,rfl⟩
  ·exact .inr ⟨_,rfl⟩
  ·exact .inr ⟨_,rfl⟩
 ·rcases hx with rfl | rfl | rfl
  ·exact .inl ⟨_,rfl⟩
  ·exact .inr ⟨_,rfl⟩
  ·exact .inr ⟨_,rfl⟩
 ·rcases hx with rfl | rfl
  ·exact .inl ⟨_,rfl⟩
  ·exact .inr ⟨_,rfl⟩
 ·rcases hx with rfl | rfl
  ·exact .inl ⟨_,rfl⟩
  ·exact .inr ⟨_,rfl⟩
noncomputable def qc (a:YA)(s:YS):Mv->List Mv
 | .B8 k _=>ik a s k
 | .on k _=>iC a s k
 | .CS k=>eR a s k
 | .back k=>du s k
noncomputable def xJ (s:YS):Mv->Prop
 | .B8 k _=>k < s.U.length
 | .on k _=>k < s.lanes.length
 | .CS k=>k < s.lanes.length
 | .back k=>k < s.lanes.length
noncomputable def sA (K:Frag)(c:Cs)(TC:Addr)(J:TJ)(ys:Ys):Sp:=fun vs H Q _=>∃ (a:YA)(s:YS)(p:Addr)(m:Mv),vs=[.ref a.y, .ref p]/\Cz K c TC J ys H a s/\H p=some (.tup (dD m))/\xJ s m /\
 ∀ (D:Addr)(As:List V)(H':Hp),Ab H H'->H D=none->H' D=some (.lst As)->Paired (Bc H') As ((qc a s m).map dD)->Q (.ref D) H'
theorem Sy:ao ["move"] ["move"] (ah lQ):=L2.AG
theorem Sz:Bv ["move"] (ah lQ) (xh ((aE lQ).getD 0 (.Pass ⟨0,0,0,0⟩))) [] []:=L2.Cu
theorem S0:(["thing"]:List Str).Nodup:=by decide +kernel
theorem w8 {f fh:Addr}{fd dh:FuncData}(F:AA K "is_move" "is_move" lQ f fd)(T:dE mg)(Z:MO K)(mh:mg "is_whole" = some (.ref fh))(kh:keepIn K (.ref fh)=true)(bh:Binds K dh ["value"] [])(G:Ac P w K mg base aC 1 fh dh ["value"] gk) :
  Ac P w K mg base aC 2 f fd ["move"] sD:=by
 refine F.ok Sy (fun vs H Q E h=>?_) (fun cdv A outer s H vs Q E hr h=>?_)
 ·obtain⟨p,xs,rfl,_⟩:=h
  rfl
 ·obtain⟨p,xs,rfl,hp,hl,hx,q⟩:=h
  refine⟨_,ai (ar (cY (av fq rfl T.Iq PyProof.Rows.boot_isinstance (aa (pv 0) (aa (eC (v := .ty "tuple") rfl T.tuple PySem.Pv.boot_tuple rfl) ad)))
   (cX (av (jA rfl) rfl T.all PyProof.Rows.boot_all (aa (bA (own:=["thing"]) (capN:=[]) (cap:=[]) Sz rfl (kZ (pv 0)) (fun C s' H' fp=>⟨ay (i:=0) S0 rfl (Or.inl rfl),ca,
    Ki (av (show fu _ (.builtin "isinstance") (Lg K) from fq) rfl T.Iq PyProof.Rows.boot_isinstance (aa (pv 0) (aa (eC (v := .ty "str") rfl T.str PySem.Pv.boot_str rfl) ad))) (cX (au G hr rfl mh kh bh .nil ap (aa (pv 0) ad)))⟩)) ad))))),?_⟩
  refine⟨_,rfl, .ref p,_, "tuple",true,rfl, .tup hp,Z.tt,true,rfl,aK ⟨_,rfl,p,rfl,⟨_,An.of hp⟩,?_⟩⟩
  refine bQ xs.length (by rw[sizeLine_eq];omega) (fun i acc H'=>H' = H/\acc=(List.replicate i true).map V.bl) ⟨rfl,rfl⟩ (fun i acc H' h=>by rw[h.2];simp) (fun i acc H' hi h=>?_) (fun acc H' h=>?_)
  ·obtain⟨rfl,rfl⟩:=h
   refine⟨⟨xs,xs[i],An.of hp,List.getElem?_eq_getElem hi⟩,fun v H2 y=>?_⟩
   obtain⟨rfl,y⟩:=y
   have hv:=y xs (An.of hp)
   have e:(List.replicate i true).map V.bl ++ [V.bl true]=(List.replicate (i + 1) true).map V.bl:=by rw[List.replicate_succ',map_append];rfl
   rcases hx v (mem_of_getElem? hv) with ⟨t,rfl⟩ | ⟨z,rfl⟩
   ·exact⟨_,rfl, .str t,_, "str",true,rfl, .str t,Z.ss,true,rfl,aK ⟨rfl,e⟩⟩
   ·exact⟨_,rfl, .int z,_, "str",false,rfl, .int z,Z.ns,false,rfl,aI ⟨_,rfl, .int z,rfl, .int z,rfl,e⟩⟩
  ·obtain⟨rfl,rfl⟩:=h
   refine⟨⟨xs,An.of hp,le_refl _⟩,fun D hD=>⟨D,List.replicate xs.length true,rfl,Ah.of ac,?_⟩⟩
   have e:(List.replicate xs.length true).all id=true:=by rw[all_eq_true];intro b hb;rw[eq_of_mem_replicate hb];rfl
   rw[e]
   exact q _ ((Ab.refl H').new hD)
theorem S1:ao ["self", "move"] ["self", "move"] (ah tp):=L2.AG
theorem w6 {c:Cs}{ys:Ys}{J:TJ}{TC f fw fi fo fl fb fm fn:Addr}{fd dw di CQ dl db dm dn:FuncData}(F:AA K "moves_like" "Yard.moves_like" tp f fd)(T:dE mg)(Y:hU K ys)(W:Wy K TC fw dw J)(M:Sm P w K mg base c TC J ys fi fo fl fb di CQ dl db)
  (mm:mg "is_move" = some (.ref fm)) (km:keepIn K (.ref fm)=true) (bm:Binds K dm ["move"] []) (Gm:Ac P w K mg base aC 2 fm dm ["move"] sD)
  (mn:mg "is_within" = some (.ref fn)) (kn:keepIn K (.ref fn)=true) (bn:Binds K dn ["value", "least", "most"] []) (Gn:Ac P w K mg base aC 2 fn dn ["value", "least", "most"] fv) :
  Ac P w K mg base aC 7 f fd ["self", "move"] (sA K c TC J ys):=by
 refine F.ok S1 (fun vs H Q E h=>?_) (fun cdv A outer s H vs Q E hr h=>?_)
 ·obtain⟨a,s,p,m,rfl,_⟩:=h
  rfl
 ·obtain⟨a,st,p,m,rfl,hI,hp,Aj,q⟩:=h
  have Bb:Al 1 _:=hr.mono (by decide)
  have Bw:Al 2 _:=hr.mono (by decide)
  have Dn:Al 4 _:=hr.mono (by decide)
  refine⟨_,af (aP (iK (PW.pt (fK (bS (bF (au Gm Bw rfl mm km bm .nil ap (aa (pv 1) ad)))) (e9 (aw jo (av aq rfl T.len PySem.boot_len (aa (pv 1) ad)) aj (aB _)))))) (ai (ar (aX ad))) aH)
   (af (aP (aw bC (ax aF (pv 1) aj (fun _ _=>rfl)) b8 (aB _))
    (ai (ar (c9 (bF (au Gn Bw rfl mn kn bn .nil ap (aa (ax aF (pv 1) aj (fun _ _=>rfl)) (aa aj (aa (aG cx (av aq rfl T.len PySem.boot_len (aa (al (pv 0) rfl) ad)) aj) ad)))))
     (aD (pv 0) Y.cl M.mi M.Gi Dn M.bi .nil ap (aa (ax aF (pv 1) aj (fun _ _=>rfl)) ad)) (aX ad)))) aH)
   (af (aP (bS (bF (au Gn Bw rfl mn kn bn .nil ap (aa (ax aF (pv 1) aj (fun _ _=>rfl)) (aa aj (aa (aG cx (av aq rfl T.len PySem.boot_len (aa (al (pv 0) rfl) ad)) aj) ad)))))) (ai (ar (aX ad))) aH)
   (af (aP (aw bC (ax aF (pv 1) aj (fun _ _=>rfl)) b8 (aB _)) (ai (ar (aD (pv 0) Y.cl M.mo M.Go hr M.bo .nil ap (aa (ax aF (pv 1) aj (fun _ _=>rfl)) ad)))) aH)
   (af (aP (aw bC (ax aF (pv 1) aj (fun _ _=>rfl)) b8 (aB _)) (ai (ar (aD (pv 0) Y.cl M.ml M.Gl Bw M.bl .nil ap (aa (ax aF (pv 1) aj (fun _ _=>rfl)) ad)))) aH)
   (ai (ar (c9 (aw bC (ax aF (pv 1) aj (fun _ _=>rfl)) b8 (aB _)) (aD (pv 0) Y.cl M.mb M.Gb Bb M.bb .nil ap (aa (ax aF (pv 1) aj (fun _ _=>rfl)) ad)) (aX ad)))))))),?_⟩
  refine⟨fun b H1=>b=false/\Ab H H1,?_,?_⟩
  ·refine⟨_,rfl,p,dD m,rfl,hp,(m7 m).1,(m7 m).2,fun H1 s1=>⟨_,rfl,aI ?_⟩⟩
   refine⟨_,rfl,p,_,rfl, .inr (An.of (s1 _ _ hp)),_,_,rfl,rfl,_,rfl,?_,s1⟩
   cases m<;>rfl
  rintro b H1 ⟨rfl,s1⟩
  refine aI ?_
  have C7:=hI.same W s1
  have AI:=s1 _ _ hp
  have q1:∀ (D:Addr)(As:List V)(H':Hp),Ab H1 H'->H1 D=none->H' D=some (.lst As)->Paired (Bc H') As ((qc a st m).map dD)->Q (.ref D) H':=fun D As H' s' hD g' DI=>q D As H' (s1.trans s') (s1.free hD) g' DI
  have hY:=C7.Y
  obtain⟨Ao,B0,ple⟩:=hY.hle
  have hle:Ao.length=st.U.length:=Paired.length ple
  obtain⟨Ap,AU,Ey⟩:=hY.AZ
  have AZ:Ap.length=st.lanes.length:=Paired.length Ey
  clear s1 q hp hI
  have inl:∀ k:Nat,k < st.lanes.length->jT (.int k) 0 (((Ap.length:Nat):Int) - 1)=true:=fun k hk=>decide_eq_true (by omega)
  cases m with
  | B8 k l =>
   have AI:H1 p=some (.tup [.str "in", .int k, .int l]):=AI
   have Aj:k < st.U.length:=Aj
   refine⟨_,rfl,p,_,0,_,rfl,rfl,An.of AI,ak (j:=0) rfl,rfl,_,rfl,?_⟩
   rw[jf]
   refine aK ⟨_,rfl,p,_,1,_,rfl,rfl,An.of AI,ak (j:=1) rfl,_,rfl,a.y,ys.Ad,a.dy,_,_,rfl,hY.ins,Y.cl,Y.n4,rfl,a.le,_,rfl, .inl (Ah.of B0),_,_,rfl,rfl, .int k,0,((Ao.length:Nat):Int) - 1,rfl, .int _,_,rfl,?_⟩
   rw[show jT (.int k) 0 (((Ao.length:Nat):Int) - 1)=true from decide_eq_true (by omega)]
   exact aK ⟨_,rfl,a.y,a.dy,_,rfl,hY.ins,rfl,_,rfl,p,_,1,_,rfl,rfl,An.of AI,ak (j:=1) rfl,a,st,k,rfl,C7,Aj,fun D As H' s' hD g' DI=>q1 D As H' s' hD g' DI⟩
  | on k l =>
   have AI:H1 p=some (.tup [.str "on", .int k, .int l]):=AI
   have Aj:k < st.lanes.length:=Aj
   refine⟨_,rfl,p,_,0,_,rfl,rfl,An.of AI,ak (j:=0) rfl,rfl,_,rfl,?_⟩
   rw[iA (by decide +kernel)]
   refine aI ⟨_,rfl,p,_,1,_,rfl,rfl,An.of AI,ak (j:=1) rfl,_,rfl,a.y,ys.Ad,a.dy,_,_,rfl,hY.ins,Y.cl,Y.n3,rfl,a.la,_,rfl, .inl (Ah.of AU),_,_,rfl,rfl, .int k,0,((Ap.length:Nat):Int) - 1,rfl, .int _,_,rfl,?_⟩
   rw[inl k Aj]
   refine aI ⟨_,rfl,p,_,0,_,rfl,rfl,An.of AI,ak (j:=0) rfl,rfl,_,rfl,?_⟩
   rw[jf]
   exact aK ⟨_,rfl,a.y,a.dy,_,rfl,hY.ins,rfl,_,rfl,p,_,1,_,rfl,rfl,An.of AI,ak (j:=1) rfl,a,st,k,rfl,C7,Aj,fun D As H' s' hD g' DI=>q1 D As H' s' hD g' DI⟩
  | CS k =>
   have AI:H1 p=some (.tup [.str "lie", .int k]):=AI
   have Aj:k < st.lanes.length:=Aj
   refine⟨_,rfl,p,_,0,_,rfl,rfl,An.of AI,ak (j:=0) rfl,rfl,_,rfl,?_⟩
   rw[iA (by decide +kernel)]
   refine aI ⟨_,rfl,p,_,1,_,rfl,rfl,An.of AI,ak (j:=1) rfl,_,rfl,a.y,ys.Ad,a.dy,_,_,rfl,hY.ins,Y.cl,Y.n3,rfl,a.la,_,rfl, .inl (Ah.of AU),_,_,rfl,rfl, .int k,0,((Ap.length:Nat):Int) - 1,rfl, .int _,_,rfl,?_⟩
   rw[inl k Aj]
   refine aI ⟨_,rfl,p,_,0,_,rfl,rfl,An.of AI,ak (j:=0) rfl,rfl,_,rfl,?_⟩
   rw[iA (by decide +kernel)]
   refine aI ⟨_,rfl,p,_,0,_,rfl,rfl,An.of AI,ak (j:=0) rfl,rfl,_,rfl,?_⟩
   rw[jf]
   exact aK ⟨_,rfl,a.y,a.dy,_,rfl,hY.ins,rfl,_,rfl,p,_,1,_,rfl,rfl,An.of AI,ak (j:=1) rfl,a,st,k,rfl,C7,Aj,fun D As H' s' hD g' DI=>q1 D As H' s' hD g' DI⟩
  | back k =>
   have AI:H1 p=some (.tup [.str "back", .int k]):=AI
   have Aj:k < st.lanes.length:=Aj
   refine⟨_,rfl,p,_,0,_,rfl,rfl,An.of AI,ak (j:=0) rfl,rfl,_,rfl,?_⟩
   rw[iA (by decide +kernel)]
   refine aI ⟨_,rfl,p,_,1,_,rfl,rfl,An.of AI,ak (j:=1) rfl,_,rfl,a.y,ys.Ad,a.dy,_,_,rfl,hY.ins,Y.cl,Y.n3,rfl,a.la,_,rfl, .inl (Ah.of AU),_,_,rfl,rfl, .int k,0,((Ap.length:Nat):Int) - 1,rfl, .int _,_,rfl,?_⟩
   rw[inl k Aj]
   refine aI ⟨_,rfl,p,_,0,_,rfl,rfl,An.of AI,ak (j:=0) rfl,rfl,_,rfl,?_⟩
   rw[iA (by decide +kernel)]
   refine aI ⟨_,rfl,p,_,0,_,rfl,rfl,An.of AI,ak (j:=0) rfl,rfl,_,rfl,?_⟩
   rw[iA (by decide +kernel)]
   refine aI ⟨_,rfl,p,_,0,_,rfl,rfl,An.of AI,ak (j:=0) rfl,rfl,_,rfl,?_⟩
   rw[jf]
   exact aK ⟨_,rfl,a.y,a.dy,_,rfl,hY.ins,rfl,_,rfl,p,_,1,_,rfl,rfl,An.of AI,ak (j:=1) rfl,a,st,k,rfl,C7,Aj,fun D As H' s' hD g' DI=>q1 D As H' s' hD g' DI⟩
noncomputable def ci (ln:ck):ck:={ ln with b:=ln.b + 1,qs:=ln.qs.tail }
noncomputable def xI (ln:ck):ck:={ ln with r:=ln.r + 1,b:=ln.b - 1 }
inductive BQ (a:YA)(s:YS):Mv->YS->Prop
 | B8 {k l:Nat} {t:cj} {ln:ck} (ht:s.U[k]? = some t) (hg:t.gone ≠ t.len) (hl:l ∈ cI a t) (AQ:s.lanes[l]? = some ln) (ho:cf ln.r ln.h k t.gone=true) :
  BQ a s (.B8 k l) (dv (mK s k t) k t.gone l { t with gone:=t.gone + 1 } ln)
 | on {k l m:Nat} {c:Int} {lk ln:ck} {t:cj} (hk:s.lanes[k]? = some lk) (hq:lk.qs.head? = some ((m:Int),c)) (ht:s.U[m]? = some t) (hl:l ∈ cU a s k) (AQ:(s.lanes.set k (ci lk))[l]? = some ln) (ho:cf ln.r ln.h m c=true) :
  BQ a s (.on k l) (dv { s with lanes:=s.lanes.set k (ci lk) } m c l t ln)
 | CS {k m e:Nat} {c:Int} {lk:ck} {t:cj} {qs:List (Int × Int)} (hk:s.lanes[k]? = some lk) (hq:lk.qs.head? = some ((m:Int),c)) (ht:s.U[m]? = some t) (hg:t.goal=(e:Int)) (he:(a.ps.getD k (0,0)).2=(e:Int)) (C9:s.lies[e]? = some qs) :
  BQ a s (.CS k) { s with lanes:=s.lanes.set k (ci lk),lies:=s.lies.set e (qs ++ [((m:Int),c)]) }
 | back {k:Nat} {lk:ck} (hk:s.lanes[k]? = some lk) (hb:0 < lk.b):BQ a s (.back k) { s with lanes:=s.lanes.set k (xI lk) }
theorem BQ.done {a:YA}{s s':YS}{m:Mv}(h:BQ a s m s'):s'.done=s.done:=by
 cases h<;>rfl
structure Xi (s:YS):Prop where
 q:∀ (k:Nat)(ln:ck),s.lanes[k]? = some ln->ln.qs.length <= 10000
 l:∀ (p:Nat)(qs:List (Int × Int)),s.lies[p]? = some qs->qs.length <= 10000
 d:s.done.length <= 100000
theorem jl {s:YS}{l:Nat}{m c:Int}(h:fL s l m c=true):∃ ln,s.lanes[l]? = some ln/\cf ln.r ln.h m c=true:=by
 unfold fL at h
 cases hl:s.lanes[l]? with
 | none=>rw[hl]at h;cases h
 | some ln=>rw[hl]at h;exact⟨ln,rfl,h⟩
theorem uE {a:YA}{s:YS}{k:Nat}{m:Mv}(h:m ∈ ik a s k):∃ l t ln,m = .B8 k l/\s.U[k]? = some t/\t.gone ≠ t.len/\l ∈ cI a t/\s.lanes[l]? = some ln/\cf ln.r ln.h k t.gone=true:=by
 unfold ik at h
 cases ht:s.U[k]? with
 | none=>rw[ht]at h;cases h
 | some t =>
  rw[ht]at h
  dsimp only at h
  by_cases hg:t.gone=t.len
  ·rw[if_pos hg]at h;cases h
  rw[if_neg hg]at h
  obtain⟨l,hl,rfl⟩:=mem_map.mp h
  obtain⟨h1,h2⟩:=mem_filter.mp hl
  obtain⟨ln,h3,h4⟩:=jl h2
  exact⟨l,t,ln,rfl,rfl,hg,h1,h3,h4⟩
theorem uD {a:YA}{s:YS}{k:Nat}{m:Mv}(h:m ∈ iC a s k):∃ l q lk ln,m = .on k l/\s.lanes[k]? = some lk/\lk.qs.head? = some q/\l ∈ cU a s k/\s.lanes[l]? = some ln/\cf ln.r ln.h q.1 q.2=true:=by
 unfold iC at h
 cases hq:bU s k with
 | none=>rw[hq]at h;cases h
 | some q =>
  rw[hq]at h
  dsimp only at h
  obtain⟨l,hl,rfl⟩:=mem_map.mp h
  obtain⟨h1,h2⟩:=mem_filter.mp hl
  obtain⟨ln,h3,h4⟩:=jl h2
  unfold bU at hq
  cases hk:s.lanes[k]? with
  | none=>rw[hk]at hq;cases hq
  | some lk=>rw[hk]at hq;exact⟨l,q,lk,ln,rfl,rfl,hq,h1,h3,h4⟩
theorem qa {a:YA}{s:YS}{k:Nat}{m:Mv}(h:m ∈ eR a s k):∃ q lk t,m = .CS k/\s.lanes[k]? = some lk/\lk.qs.head? = some q/\s.U[q.1.toNat]? = some t/\t.goal=(a.ps.getD k (0,0)).2:=by
 unfold eR at h
 cases hq:bU s k with
 | none=>rw[hq]at h;cases h
 | some q =>
  rw[hq]at h
  dsimp only at h
  cases ht:s.U[q.1.toNat]? with
  | none=>rw[ht]at h;cases h
  | some t =>
   rw[ht]at h
   dsimp only at h
   by_cases hg:t.goal=(a.ps.getD k (0,0)).2
   ·rw[if_pos hg]at h
    have hm:m = .CS k:=by simpa using h
    unfold bU at hq
    cases hk:s.lanes[k]? with
    | none=>rw[hk]at hq;cases hq
    | some lk=>rw[hk]at hq;exact⟨q,lk,t,hm,rfl,hq,ht,hg⟩
   ·rw[if_neg hg]at h;cases h
theorem mE {s:YS}{k:Nat}{m:Mv}(h:m ∈ du s k):∃ lk,m = .back k/\s.lanes[k]? = some lk/\0 < lk.b:=by
 unfold du at h
 cases hk:s.lanes[k]? with
 | none=>rw[hk]at h;cases h
 | some lk =>
  rw[hk]at h
  dsimp only at h
  by_cases hb:0 < lk.b
  ·rw[if_pos hb]at h;exact⟨lk,by simpa using h,rfl,hb⟩
  ·rw[if_neg hb]at h;cases h
theorem rc {a:YA}{s:YS}{m:Mv}(h:m ∈ bu a s):xJ s m/\m ∈ qc a s m:=by
 unfold bu at h
 rw[mem_append,mem_append,mem_append]at h
 rcases h with ((h | h) | h) | h
 ·obtain⟨k,hk,h⟩:=mem_flatMap.mp h
  obtain⟨l,t,ln,rfl,_⟩:=uE h
  exact⟨mem_range.mp hk,h⟩
 ·obtain⟨k,hk,h⟩:=mem_flatMap.mp h
  obtain⟨l,q,lk,ln,rfl,_⟩:=uD h
  exact⟨mem_range.mp hk,h⟩
 ·obtain⟨k,hk,h⟩:=mem_flatMap.mp h
  obtain⟨q,lk,t,rfl,_⟩:=qa h
  exact⟨mem_range.mp hk,h⟩
 ·obtain⟨k,hk,h⟩:=mem_flatMap.mp h
  obtain⟨lk,rfl,_⟩:=mE h
  exact⟨mem_range.mp hk,h⟩
noncomputable def qZ:Mv->PyData
 | .B8 k l => .tuple [.str "in", .int k, .int l]
 | .on k l => .tuple [.str "on", .int k, .int l]
 | .CS k => .tuple [.str "lie", .int k]
 | .back k => .tuple [.str "back", .int k]
theorem gr {x:Str}(h:PyData.strOk x=true):BX (.str x) 0:=⟨by simp[PyData.canLay0,h],by simp[PyData.depth]⟩
theorem ia (m:Mv):BX (qZ m) 1:=by
 cases m<;>refine dG (m:=0) fun y hy=>?_<;>simp only[mem_cons,not_mem_nil,or_false]at hy
 ·rcases hy with rfl | rfl | rfl
  ·exact gr (by decide +kernel)
  ·exact bR _
  ·exact bR _
 ·rcases hy with rfl | rfl | rfl
  ·exact gr (by decide +kernel)
  ·exact bR _
  ·exact bR _
 ·rcases hy with rfl | rfl
  ·exact gr (by decide +kernel)
  ·exact bR _
 ·rcases hy with rfl | rfl
  ·exact gr (by decide +kernel)
  ·exact bR _
theorem l7 {K:Frag}{H:Hp}{p:Addr}(m:Mv)(h:H p=some (.tup (dD m))):iS K H (.ref p) (qZ m):=by
 cases m<;>refine .tup (An.of h) ?_
 ·exact .cons (.str _) (.cons (.int _) (.cons (.int _) .nil))
 ·exact .cons (.str _) (.cons (.int _) (.cons (.int _) .nil))
 ·exact .cons (.str _) (.cons (.int _) .nil)
 ·exact .cons (.str _) (.cons (.int _) .nil)
theorem fF {K:Frag}{H:Hp}:∀ {vs:List V}{ms:List Mv},Paired (Bc H) vs (ms.map dD)->hZ K H vs (ms.map qZ)
 | [],[],_ => .nil
 | _ :: _,m :: ms, .cons ⟨t,e,h⟩ r=>by subst e;exact .cons (l7 m h) (fF r)
 | [],_ :: _,h=>by cases h
 | _ :: _,[],h=>by cases h
theorem zV {m:Mv}{ms:List Mv}(h:m ∈ ms):((ms.map qZ).any fun y=>PyData.eqv y (qZ m))=true:=by
 rw[any_eq_true]
 exact⟨qZ m,mem_map.mpr ⟨m,h,rfl⟩,SeqAt.eqv_refl _ (ia m).1⟩
noncomputable def yj (K:Frag)(c:Cs)(TC:Addr)(J:TJ)(ys:Ys):Sp:=fun vs H Q _=>∃ (a:YA)(s:YS)(p:Addr)(m:Mv),vs=[.ref a.y, .ref p]/\Cz K c TC J ys H a s/\H p=some (.tup (dD m))/\m ∈ bu a s/\Xi s /\
 ∀ (H':Hp)(s':YS),BQ a s m s'->Ai a.four H H'->AH K ys H' a { s' with done:=s.done ++ [dD m] }->Q .Av H'
structure Xj (P:Program)(w:World)(K:Frag)(mg:Str->Option Value)(base:Heap)(c:Cs)(TC:Addr)(J:TJ)(ys:Ys)(nm:Addr)(fk fg fe fp fb fy:Addr)(dk dg de dp db dy:FuncData):Prop where
 mk':bz K ys.Ad "moves_like" fk
 bk:Binds K dk ["self", "move"] []
 Gk:Ac P w K mg base aC 7 fk dk ["self", "move"] (sA K c TC J ys)
 mg':bz K ys.Ad "go_in" fg
 bg:Binds K dg ["self", "number", "lane"] []
 Gg:Ac P w K mg base aC 6 fg dg ["self", "number", "lane"] (sG K ys)
 me:bz K ys.Ad "enter" fe
 be:Binds K de ["self", "piece", "lane"] []
 Ge:Ac P w K mg base aC 5 fe de ["self", "piece", "lane"] (kL K ys)
 mp:bz K ys.AD "pull" fp
 bp:Binds K dp ["self"] []
 Gp:Ac P w K mg base (dR P w) 1 fp dp ["self"] (nN ys.AD nm)
 mb:bz K ys.AD "bring" fb
 bb:Binds K db ["self"] []
 Gb:Ac P w K mg base (dR P w) 1 fb db ["self"] (pC ys.AD nm)
 my:bz K ys.Ad "lay" fy
 S2:Binds K dy ["self", "piece", "place"] []
 Gy:Ac P w K mg base aC 1 fy dy ["self", "piece", "place"] (xB K ys)
theorem S3:ao ["self", "move"] ["self", "move"] (ah Ru):=L2.AG
theorem MP {c:Cs}{ys:Ys}{J:TJ}{TC nm f fw fl ft fpu fk fg fe fp fb fy Xk:Addr}{fd dw dl dt dpu dk dg de dp db dy den:FuncData}(F:AA K "do" "Yard.do" Ru f fd)(Y:hU K ys)(L:lC K c)(W:Wy K TC fw dw J)(Ex:LJ K mg nm)(O:Own P w K mg base ys nm fl ft fpu dl dt dpu)
  (D:Xj P w K mg base c TC J ys nm fk fg fe fp fb fy dk dg de dp db dy) (Me:xr K c Xk den) (Gen:Ac P w K mg base aC 1 Xk den ["self", "lane"] (nZ c Prod.snd)) :
  Ac P w K mg base (dR P w) 8 f fd ["self", "move"] (yj K c TC J ys):=by
 refine F.Fe S3 (fun vs H Q E h=>?_) (fun cdv A outer s H vs Q E hr h=>?_)
 ·obtain⟨a,s,p,m,rfl,_⟩:=h
  rfl
 ·obtain⟨a,st,p,m,rfl,hI,hp,hm,hS,q⟩:=h
  have hu:=hr.units
  have Bb:Al 1 _:=hr.mono (by decide)
  have Dn:Al 4 _:=hr.mono (by decide)
  have HD:Al 5 _:=hr.mono (by decide)
  have hr6:Al 6 _:=hr.mono (by decide)
  refine⟨_,af (aP (aw (qO hu) (pv 1) (aD (pv 0) Y.cl D.mk' D.Gk hr D.bk .nil ap (aa (pv 1) ad)) (by with_unfolding_all rfl)) (ai (b9 rfl Ex.x aO (bY Ex.x Ex.k rfl rfl Ex.m (aa b8 ad)))) aH)
   (af (kU (aP (aw bC (ax aF (pv 1) aj (fun _ _=>rfl)) b8 (aB _))
    (ai (aN (aD (pv 0) Y.cl D.mg' D.Gg hr6 D.bg .nil ap (aa (ax aF (pv 1) aj (fun _ _=>rfl)) (aa (ax aF (pv 1) aj (fun _ _=>rfl)) ad)))))
    (ai (aP (aw bC (ax aF (pv 1) aj (fun _ _=>rfl)) b8 (aB _))
     (ai (aN (aD (pv 0) Y.cl D.me D.Ge HD D.be .nil ap (aa (aW (aD (pv 0) Y.cl O.ml O.Gl Dn O.bl .nil ap (aa (ax aF (pv 1) aj (fun _ _=>rfl)) ad)) Y.L.cl D.mp D.Gp Bb D.bp .nil (BM.passes aO rfl)) (aa (ax aF (pv 1) aj (fun _ _=>rfl)) ad)))))
     (ai (aP (aw bC (ax aF (pv 1) aj (fun _ _=>rfl)) b8 (aB _))
      (ai (aN (aD (pv 0) Y.cl D.my D.Gy Bb D.S2 .nil ap (aa (aW (aD (pv 0) Y.cl O.ml O.Gl Dn O.bl .nil ap (aa (ax aF (pv 1) aj (fun _ _=>rfl)) ad)) Y.L.cl D.mp D.Gp Bb D.bp .nil (BM.passes aO rfl)) (aa (aD (al (al (pv 0) rfl) rfl) L.cl Me.m Gen Bb Me.b .nil ap (aa (ax aF (pv 1) aj (fun _ _=>rfl)) ad)) ad)))))
      (ai (aN (aW (aD (pv 0) Y.cl O.ml O.Gl Dn O.bl .nil ap (aa (ax aF (pv 1) aj (fun _ _=>rfl)) ad)) Y.L.cl D.mb D.Gb Bb D.bb .nil (BM.passes aO rfl))))))))))
   (ai (aN (cu plainAttrs_list PySem.F.slot_list_append PySem.F.type_list_append bD (al (pv 0) rfl) (aa (pv 1) ad))))),?_⟩
  obtain⟨Aj,DC⟩:=rc hm
  refine⟨_,rfl,_,rfl,a.y,a.dy,_,rfl,hI.Y.ins,rfl,_,rfl,a,st,p,m,rfl,hI,hp,Aj,fun Dl As H1 s1 hDl gDl hpr=>?_⟩
  refine⟨Dl,As,qZ m,(qc a st m).map qZ,rfl,l7 m (s1 _ _ hp),Ah.of gDl,fF hpr,(ia m).le (by decide),fun z hz=>by obtain⟨m',_,rfl⟩:=mem_map.mp hz;exact(ia m').le (by decide),_,rfl,?_⟩
  rw[zV DC]
  refine aI ?_
  have C7:=hI.same W s1
  have AI:=s1 _ _ hp
  have hY:=C7.Y
  refine⟨fun σ' H'=>σ' = start ["self", "move"] [.ref a.y, .ref p]/\∃ s',BQ a st m s'/\Ai a.four H1 H'/\AH K ys H' a s',?_,?_⟩
  ·
   have EO:∀ (k:Nat)(lk:ck)(pq:Int × Int),st.lanes[k]? = some lk->lk.qs.head? = some pq->∀ (Ap:List V),H1 a.la=some (.lst Ap)->∀ (x dx pa:Addr)(Au:List V)(H2:Hp),Ai [a.la] H1 H2->H1 x=none->H1 pa=none->H2 a.la=some (.lst (Ap.set k (.ref x)))->Az H2 ys.AD x dx pa lk.r lk.b lk.h Au lk.qs ->
     ∀ (Q':VK)(E':XK),(∀ (v:V)(H3:Hp),xp H3 v pq->Ai [a.la] H1 H3->AH K ys H3 a { st with lanes:=st.lanes.set k (ci lk) }->Q' v H3)->nN ys.AD nm [.ref x] H2 Q' E':=by
    intro k lk pq hk hq Ap AU x dx pa Au H2 o2 nx np g2 Co Q' E' hQ
    refine⟨x,dx,pa,lk.r,lk.b,lk.h,Au,lk.qs,rfl,Co,fun e0=>?_,fun v rest ev H3 o3 CI=>?_⟩
    ·exfalso
     have hl:=Paired.length Co.Bl
     rw[e0]at hl
     cases C9:lk.qs with
     | nil=>rw[C9]at hq;cases hq
     | cons _ _=>rw[C9]at hl;cases hl
    ·have o4:Ai [a.la] H1 H3:=fun b o nb e=>o3 b o (ag e nx) (ag e np) (o2 b o nb e)
     refine hQ v H3 ?_ o4 (AH.CK hY AU o4 (k:=k) (x:=x) (dx:=dx) (pa:=pa) (o3 _ _ (ag AU nx) (ag AU np) g2) (ln:=ci lk) CI np)
     have hz:=By.DL o3 Co.ins Co.lst Co.Bl
     rw[ev]at hz
     cases C9:lk.qs with
     | nil=>rw[C9]at hq;cases hq
     | cons q0 r0 =>
      rw[C9]at hq hz
      cases hq
      cases hz with
      | cons z _=>exact z
   obtain⟨Ap,AU,Ey⟩:=hY.AZ
   have p3:∀ {H3:Hp}{ex:List Addr}{xs:List V},H1 p=some (.tup xs)->Ai ex H1 H3->(∀ b ∈ ex,b ∈ a.four)->H3 p=some (.tup xs):=fun h o he=>o _ _ (fun z=>by obtain⟨xs,hz⟩:=hY.Ba _ (he _ z);rw[h]at hz;cases hz) h
   cases m with
   | B8 k l =>
    have AI:H1 p=some (.tup [.str "in", .int k, .int l]):=AI
    obtain⟨l',t,ln,e0,ht,hg,hl,AQ,ho⟩:=uE (show Mv.B8 k l ∈ ik a st k from DC)
    cases e0
    refine⟨_,rfl,p,_,0,_,rfl,rfl,An.of AI,ak (j:=0) rfl,rfl,_,rfl,?_⟩
    rw[jf]
    refine aK ⟨_,rfl,a.y,a.dy,_,rfl,hY.ins,rfl,_,rfl,p,_,1,_,rfl,rfl,An.of AI,ak (j:=1) rfl,_,rfl,p,_,2,_,rfl,rfl,An.of AI,ak (j:=2) rfl,a,st,k,l,t,ln,rfl,hY,ht,AQ,ho,(hI.G.Bm k t ht).2,lt_of_le_of_lt (hS.q l ln AQ) (by decide),fun H' o' II=>⟨rfl,_,BQ.B8 ht hg hl AQ ho,o'.mono (by simp),II⟩⟩
   | on k l =>
    have AI:H1 p=some (.tup [.str "on", .int k, .int l]):=AI
    obtain⟨l',pq,lk,ln,e0,hk,hq,hl,AQ,ho⟩:=uD (show Mv.on k l ∈ iC a st k from DC)
    cases e0
    obtain⟨m,t,em,ht,IS⟩:=hI.G.Bl k lk hk pq (mem_of_head? hq)
    obtain⟨m0,cq⟩:=pq
    have em:m0=(m:Int):=em
    subst em
    refine⟨_,rfl,p,_,0,_,rfl,rfl,An.of AI,ak (j:=0) rfl,rfl,_,rfl,?_⟩
    rw[iA (by decide +kernel)]
    refine aI ⟨_,rfl,p,_,0,_,rfl,rfl,An.of AI,ak (j:=0) rfl,rfl,_,rfl,?_⟩
    rw[jf]
    refine aK ⟨_,rfl,a.y,a.dy,_,rfl,hY.ins,rfl,_,rfl,a.y,a.dy,_,rfl,hY.ins,rfl,_,rfl,p,_,1,_,rfl,rfl,An.of AI,ak (j:=1) rfl,a,st,k,lk,Ap,rfl,hY,hk,AU,fun x dx pa Au H2 o2 nx np g2 Co=>⟨x,dx,_,rfl,Co.ins,rfl,EO k lk _ hk hq Ap AU x dx pa Au H2 o2 nx np g2 Co _ _ fun v H3 hv o3 Cn=>?_⟩⟩
    have J5:=p3 AI o3 (by simp)
    have Ee:k < st.lanes.length:=(List.getElem?_eq_some_iff.mp hk).1
    obtain⟨ln2,MQ,er,eh,eq⟩:∃ ln2,(st.lanes.set k (ci lk))[l]? = some ln2/\ln2.r=ln.r/\ln2.h=ln.h/\ln2.qs.length <= 10000:=by
     by_cases MR:k=l
     ·subst MR
      rw[hk]at AQ
      cases AQ
      refine⟨ci lk,by simp[Ee],rfl,rfl,?_⟩
      have:=hS.q k lk hk
      show lk.qs.tail.length <= 10000
      rw[List.length_tail];omega
     ·exact⟨ln,by rw[List.getElem?_set_ne MR];exact AQ,rfl,rfl,hS.q l ln AQ⟩
    have BV:cf ln2.r ln2.h m cq=true:=by rw[er,eh];exact ho
    refine⟨_,rfl,p,_,2,_,rfl,rfl,An.of J5,ak (j:=2) rfl,a,{ st with lanes:=st.lanes.set k (ci lk) },v,m,cq,l,t,ln2,rfl,Cn,hv,ht,MQ,BV,(hI.G.Bm m t ht).2,lt_of_le_of_lt eq (by decide),fun H' o' II=>⟨rfl,_,BQ.on hk hq ht hl MQ BV,(o3.mono (by simp)).trans (o'.mono (by simp)),II⟩⟩
   | CS k =>
    have AI:H1 p=some (.tup [.str "lie", .int k]):=AI
    obtain⟨pq,lk,t0,e0,hk,hq,HA,hg⟩:=qa (show Mv.CS k ∈ eR a st k from DC)
    obtain⟨m,t,em,ht,IS⟩:=hI.G.Bl k lk hk pq (mem_of_head? hq)
    obtain⟨m0,cq⟩:=pq
    have em:m0=(m:Int):=em
    subst em
    have HA:st.U[m]? = some t0:=by rw[← HA];rfl
    rw[ht]at HA
    cases HA
    have Ee:k < st.lanes.length:=(List.getElem?_eq_some_iff.mp hk).1
    have JD:k < a.ps.length:=by rw[← hI.G.lanes];exact Ee
    have he:=List.getElem?_eq_getElem JD
    have HC:a.ps.getD k (0,0)=a.ps[k]:=by rw[getD_eq_getElem?_getD,he];rfl
    obtain⟨e,ee,ML⟩:=hI.O.ends k _ he
    rw[HC,ee]at hg
    have HE:e < st.lies.length:=by rw[hI.G.lies];exact ML
    have C9:=List.getElem?_eq_getElem HE
    refine⟨_,rfl,p,_,0,_,rfl,rfl,An.of AI,ak (j:=0) rfl,rfl,_,rfl,?_⟩
    rw[iA (by decide +kernel)]
    refine aI ⟨_,rfl,p,_,0,_,rfl,rfl,An.of AI,ak (j:=0) rfl,rfl,_,rfl,?_⟩
    rw[iA (by decide +kernel)]
    refine aI ⟨_,rfl,p,_,0,_,rfl,rfl,An.of AI,ak (j:=0) rfl,rfl,_,rfl,?_⟩
    rw[jf]
    refine aK ⟨_,rfl,a.y,a.dy,_,rfl,hY.ins,rfl,_,rfl,a.y,a.dy,_,rfl,hY.ins,rfl,_,rfl,p,_,1,_,rfl,rfl,An.of AI,ak (j:=1) rfl,a,st,k,lk,Ap,rfl,hY,hk,AU,fun x dx pa Au H2 o2 nx np g2 Co=>⟨x,dx,_,rfl,Co.ins,rfl,EO k lk _ hk hq Ap AU x dx pa Au H2 o2 nx np g2 Co _ _ fun v H3 hv o3 Cn=>?_⟩⟩
    have J5:=p3 AI o3 (by simp)
    have Iv:vk c TC J H3 a:=AO.keep W C7.T (Ai.Am (fun b hb=>by simp at hb;subst hb;exact⟨_,AU⟩) o3)
    obtain⟨C5,fst,Cj,AM,B7⟩:=Iv.i
    refine⟨_,rfl,a.y,ys.Ad,a.dy,_,_,rfl,Cn.ins,Y.cl,Y.n1,rfl,a.tb,TC,C5,fst,_,rfl,Cj,W.cl,W.nl,AM,a.lx,a.AF,_,rfl,Iv.l.1,rfl,_,rfl,p,_,1,_,rfl,rfl,An.of J5,ak (j:=1) rfl,a.lx,a.AF,a.lt,(a.n:Int),a.Ao,a.ps,k,_,rfl,Iv.l,he,?_⟩
    rw[ee]
    exact⟨a,{ st with lanes:=st.lanes.set k (ci lk) },v,((m:Int),cq),e,_,rfl,Cn,hv,C9,le_trans (hS.l e _ C9) (by decide),fun H' o' II=>⟨rfl,_,BQ.CS hk hq ht hg (by rw[HC,ee]) C9,(o3.mono (by simp)).trans (o'.mono (by simp)),II⟩⟩
   | back k =>
    have AI:H1 p=some (.tup [.str "back", .int k]):=AI
    obtain⟨lk,e0,hk,hb⟩:=mE (show Mv.back k ∈ du st k from DC)
    refine⟨_,rfl,p,_,0,_,rfl,rfl,An.of AI,ak (j:=0) rfl,rfl,_,rfl,?_⟩
    rw[iA (by decide +kernel)]
    refine aI ⟨_,rfl,p,_,0,_,rfl,rfl,An.of AI,ak (j:=0) rfl,rfl,_,rfl,?_⟩
    rw[iA (by decide +kernel)]
    refine aI ⟨_,rfl,p,_,0,_,rfl,rfl,An.of AI,ak (j:=0) rfl,rfl,_,rfl,?_⟩
    rw[iA (by decide +kernel)]
    refine aI ⟨_,rfl,a.y,a.dy,_,rfl,hY.ins,rfl,_,rfl,p,_,1,_,rfl,rfl,An.of AI,ak (j:=1) rfl,a,st,k,lk,Ap,rfl,hY,hk,AU,fun x dx pa Au H2 o2 nx np g2 Co=>⟨x,dx,_,rfl,Co.ins,rfl,x,dx,pa,lk.r,lk.b,lk.h,Au,lk.qs,rfl,Co,(fun e0=>by rw[e0]at hb;exact absurd hb (by decide)),fun _ H3 o3 CI=>?_⟩⟩
    have o4:Ai [a.la] H1 H3:=fun b o nb e=>o3 b o (ag e nx) (ag e np) (o2 b o nb e)
    exact⟨rfl,_,BQ.back hk hb,o4.mono (by simp),AH.CK hY AU o4 (k:=k) (x:=x) (dx:=dx) (pa:=pa) (o3 _ _ (ag AU nx) (ag AU np) g2) (ln:=xI lk) CI np⟩
  ·rintro σ' H2 ⟨rfl,s',hs,o2,C6⟩
   obtain⟨AE,Hv,pd⟩:=C6.BD
   have DJ:AE.length=st.done.length:=by rw[Paired.length pd,hs.done]
   have Li:H2 p=some (.tup (dD m)):=o2 _ _ (fun z=>by obtain⟨xs,hz⟩:=hY.Ba _ z;rw[AI]at hz;cases hz) AI
   have hd:=hS.d
   refine⟨_,rfl,a.y,ys.Ad,a.dy,_,_,rfl,C6.ins,Y.cl,Y.n6,rfl, .inl ⟨rfl,_,Ah.of Hv⟩,_,rfl,a.dn,_,_,rfl,rfl,Hv,by rw[sizeLine_eq];omega,?_⟩
   have Cn:=C6.Hs Hv ⟨p,rfl,Li⟩
   rw[hs.done]at Cn
   exact q _ s' hs ((Ab.AJ s1).trans (o2.trans (cp (by simp)))) Cn
theorem fE {α:Type}{L:List α}{k j:Nat}{y z:α}(h:(L.set k y)[j]? = some z):(j=k/\z=y)∨(j ≠ k/\L[j]? = some z):=by
 by_cases e:k=j
 ·subst e
  rw[List.getElem?_set_self']at h
  cases hk:L[k]? with
  | none=>rw[hk]at h;cases h
  | some x=>rw[hk]at h;cases h;exact .inl ⟨rfl,rfl⟩
 ·rw[List.getElem?_set_ne e]at h
  exact .inr ⟨Ne.symm e,h⟩
theorem iG {α:Type}{L:List α}{k:Nat}{x y:α}(h:L[k]? = some x):(L.set k y)[k]? = some y:=by
 have:=(List.getElem?_eq_some_iff.mp h).1
 simp[this]
theorem eK {α:Type}(f:α->Nat):∀ {L:List α}{k:Nat}{x y:α},L[k]? = some x->((L.set k y).map f).sum + f x=(L.map f).sum + f y
 | [],_,_,_,h=>by cases h
 | z :: L,0,x,y,h=>by cases h;simp only[List.set_cons_zero,map_cons,sum_cons];omega
 | z :: L,k + 1,x,y,h=>by
  have:=eK f (L:=L) (k:=k) (x:=x) (y:=y) h
  simp only[List.set_cons_succ,map_cons,sum_cons];omega
theorem iY {α:Type}(f:α->Int):∀ {L:List α}{k:Nat}{x y:α},L[k]? = some x->((L.set k y).map f).sum + f x=(L.map f).sum + f y
 | [],_,_,_,h=>by cases h
 | z :: L,0,x,y,h=>by cases h;simp only[List.set_cons_zero,map_cons,sum_cons];omega
 | z :: L,k + 1,x,y,h=>by
  have:=iY f (L:=L) (k:=k) (x:=x) (y:=y) h
  simp only[List.set_cons_succ,map_cons,sum_cons];omega
noncomputable def mQ (a:YA)(l:Nat):Int:=(a.ps.getD l (0,0)).2
noncomputable def jG (s:YS):Nat:=(s.lanes.map fun ln=>ln.qs.length).sum
noncomputable def iZ (s:YS):Nat:=(s.lies.map fun qs=>qs.length).sum
noncomputable def fR (s:YS):Int:=(s.U.map fun t=>t.gone).sum
structure Pu (a:YA)(s:YS)(m:Nat)(c:Int):Prop where
 lanes:s.lanes.length=a.ps.length
 lies:s.lies.length=a.n
 Bd:s.U.length <= 60
 Eg:a.ps.length <= 40
 lets:∀ (m:Nat)(t:cj),s.U[m]? = some t->∃ x y:Nat,t.start=(x:Int)/\t.goal=(y:Int)/\x < a.n/\y < a.n
 Bm:∀ (m:Nat)(t:cj),s.U[m]? = some t->(∀ l ∈ t.way,l < a.ps.length)/\t.way.Nodup
 Bl:∀ (k:Nat)(ln:ck),s.lanes[k]? = some ln->∀ q ∈ ln.qs,∃ (m:Nat)(t:cj),q.1=(m:Int)/\s.U[m]? = some t/\k ∈ t.way
 Cc:∀ (m:Nat)(t:cj),s.U[m]? = some t->0 <= t.gone/\t.gone <= t.len/\t.len <= 60
 Bj:∀ (m':Nat)(t:cj),s.U[m']? = some t->t.gone=0->t.way=[]/\m' ≠ m
 last:∀ (m:Nat)(t:cj),s.U[m]? = some t->∀ (i l:Nat),t.way[i]? = some l->mQ a l=t.goal->i + 1=t.way.length
 head:∀ (m':Nat)(t:cj),s.U[m']? = some t->∀ (l:Nat)(ln:ck),t.way.getLast? = some l->s.lanes[l]? = some ln->(m' = m/\c=0)∨((m':Int),(0:Int)) ∈ ln.qs∨mQ a l=t.goal
 first:∀ (k:Nat)(ln:ck),s.lanes[k]? = some ln->∀ (i j:Nat)(z:Int)(q:Int × Int),ln.qs[i]? = some (z,0)->j < i->ln.qs[j]? = some q->q.1 ≠ z
 Dt:∀ (k:Nat)(ln:ck),s.lanes[k]? = some ln->∀ (m':Nat)(t:cj),((m':Int),(0:Int)) ∈ ln.qs->s.U[m']? = some t->t.way.getLast? = some k
 gone:c=0->∀ (k:Nat)(ln:ck),s.lanes[k]? = some ln->((m:Int),(0:Int)) ∉ ln.qs
 sum:(jG s:Int) + (iZ s:Int) + 1=fR s
structure Bn (a:YA)(s:YS):Prop where
 lanes:s.lanes.length=a.ps.length
 lies:s.lies.length=a.n
 Bd:s.U.length <= 60
 Eg:a.ps.length <= 40
 lets:∀ (m:Nat)(t:cj),s.U[m]? = some t->∃ x y:Nat,t.start=(x:Int)/\t.goal=(y:Int)/\x < a.n/\y < a.n
 Bm:∀ (m:Nat)(t:cj),s.U[m]? = some t->(∀ l ∈ t.way,l < a.ps.length)/\t.way.Nodup
 Bl:∀ (k:Nat)(ln:ck),s.lanes[k]? = some ln->∀ q ∈ ln.qs,∃ (m:Nat)(t:cj),q.1=(m:Int)/\s.U[m]? = some t/\k ∈ t.way
 Cc:∀ (m:Nat)(t:cj),s.U[m]? = some t->0 <= t.gone/\t.gone <= t.len/\t.len <= 60
 Bj:∀ (m':Nat)(t:cj),s.U[m']? = some t->t.gone=0->t.way=[]
 last:∀ (m:Nat)(t:cj),s.U[m]? = some t->∀ (i l:Nat),t.way[i]? = some l->mQ a l=t.goal->i + 1=t.way.length
 head:∀ (m':Nat)(t:cj),s.U[m']? = some t->∀ (l:Nat)(ln:ck),t.way.getLast? = some l->s.lanes[l]? = some ln->((m':Int),(0:Int)) ∈ ln.qs∨mQ a l=t.goal
 first:∀ (k:Nat)(ln:ck),s.lanes[k]? = some ln->∀ (i j:Nat)(z:Int)(q:Int × Int),ln.qs[i]? = some (z,0)->j < i->ln.qs[j]? = some q->q.1 ≠ z
 Dt:∀ (k:Nat)(ln:ck),s.lanes[k]? = some ln->∀ (m':Nat)(t:cj),((m':Int),(0:Int)) ∈ ln.qs->s.U[m']? = some t->t.way.getLast? = some k
 sum:(jG s:Int) + (iZ s:Int)=fR s
theorem dJ:∀ (n:Nat)(l:List Nat),l.Nodup->(∀ x ∈ l,x < n)->l.length <= n
 | 0,l,_,h=>by
  cases l with
  | nil=>exact le_refl _
  | cons x _=>exact absurd (h x mem_cons_self) (by omega)
 | n + 1,l,hn,h=>by
  have h1:=dJ n (l.filter fun x=>decide (x ≠ n)) (hn.filter _) fun x hx=>by
   obtain⟨a,b⟩:=mem_filter.mp hx
   have:=h x a
   have:=of_decide_eq_true b
   omega
  have h2:l.length <= (l.filter fun x=>decide (x ≠ n)).length + 1:=by
   clear h1 h
   induction l with
   | nil=>exact zero_le _
   | cons x l ih =>
    rw[nodup_cons]at hn
    by_cases e:x=n
    ·subst e
     have:(l.filter fun y=>decide (y ≠ x))=l:=List.filter_eq_self.mpr fun y hy=>decide_eq_true fun z=>hn.1 (z ▸ hy)
     rw[List.filter_cons_of_neg (by simp),this]
     exact le_refl _
    ·rw[List.filter_cons_of_pos (by simpa using e)]
     have:=ih hn.2
     simp only[length_cons]
     omega
  omega
theorem Bn.ok {a:YA}{s:YS}(h:Bn a s):Sb a s:=⟨h.lanes,h.lies,h.lets,fun m t ht=>⟨(h.Bm m t ht).1,by have:=dJ _ _ (h.Bm m t ht).2 (h.Bm m t ht).1;have:=h.Eg;omega⟩,h.Bl,h.Bd⟩
theorem uC {α:Type}{x:α}{l:List α}(h:x ∈ l.tail):x ∈ l:=List.mem_of_mem_tail h
theorem uK {α:Type}{l:List α}{x:α}(h:l.head? = some x):l[0]? = some x:=by cases l with
 | nil=>cases h
 | cons y r=>exact h
theorem qb {α:Type}{l:List α}{x:α}(h:x ∈ l):∃ i:Nat,l[i]? = some x:=by
 obtain⟨i,hi,e⟩:=getElem_of_mem h
 exact⟨i,by rw[List.getElem?_eq_getElem hi,e]⟩
theorem lI {α:Type}(l:List α)(i:Nat):l.tail[i]? = l[i + 1]?:=by cases l with
 | nil=>simp
 | cons y r=>rfl
theorem mB {a:YA}{s:YS}{k m:Nat}{c:Int}{lk:ck}(J:Bn a s)(hk:s.lanes[k]? = some lk)(hq:lk.qs.head? = some ((m:Int),c)):Pu a { s with lanes:=s.lanes.set k (ci lk) } m c:=by
 have h0:=uK hq
 have B8:∀ (j:Nat)(Bz:ck),(s.lanes.set k (ci lk))[j]? = some Bz->∃ ln,s.lanes[j]? = some ln/\(∀ q ∈ Bz.qs,q ∈ ln.qs)/\∃ d,(∀ i,Bz.qs[i]? = ln.qs[i + d]?)/\(Bz.qs=ln.qs∨(j=k/\ln=lk/\Bz.qs=lk.qs.tail)):=fun j Bz h=>by
  rcases fE h with ⟨rfl,rfl⟩ | ⟨ne,h⟩
  ·exact⟨lk,hk,fun q hq=>uC hq,1,fun i=>lI _ i, .inr ⟨rfl,rfl,rfl⟩⟩
  ·exact⟨Bz,h,fun q hq=>hq,0,fun i=>rfl, .inl rfl⟩
 have keep:∀ (j:Nat)(ln:ck),s.lanes[j]? = some ln->∃ Bz,(s.lanes.set k (ci lk))[j]? = some Bz/\∀ q ∈ ln.qs,q=((m:Int),c)∨q ∈ Bz.qs:=fun j ln h=>by
  by_cases e:j=k
  ·subst e
   rw[hk]at h
   cases h
   refine⟨ci lk,iG hk,fun q BU=>?_⟩
   show _∨q ∈ lk.qs.tail
   cases hl:lk.qs with
   | nil=>rw[hl]at hq;cases hq
   | cons z r =>
    rw[hl]at hq BU
    cases hq
    exact(mem_cons.mp BU).imp id id
  ·exact⟨ln,by rw[List.getElem?_set_ne (Ne.symm e)];exact h,fun q hq => .inr hq⟩
 refine⟨by rw[← J.lanes];simp,J.lies,J.Bd,J.Eg,J.lets,J.Bm,?_,J.Cc,?_,J.last,?_,?_,?_,?_,?_⟩
 ·intro j Bz h q BU
  obtain⟨ln,hj,h1,_⟩:=B8 j Bz h
  exact J.Bl j ln hj q (h1 q BU)
 ·intro m' t ht hg
  refine⟨J.Bj m' t ht hg,fun e=>?_⟩
  subst e
  obtain⟨m2,t2,e2,FL,IU⟩:=J.Bl k lk hk _ (mem_of_head? hq)
  have:m' = m2:=by have:(m':Int)=(m2:Int):=e2;omega
  subst this
  rw[ht]at FL
  cases FL
  rw[J.Bj m' t ht hg]at IU
  cases IU
 ·intro m' t ht l Bz hl Cp
  obtain⟨ln,hj,h1,_⟩:=B8 l Bz Cp
  rcases J.head m' t ht l ln hl hj with h | h
  ·obtain⟨ln2,h2,h3⟩:=keep l ln hj
   have h2:{ s with lanes:=s.lanes.set k (ci lk) }.lanes[l]? = some ln2:=h2
   rw[Cp]at h2
   cases h2
   rcases h3 _ h with e | h
   ·injection e with e1 e2
    exact .inl ⟨by omega,e2.symm⟩
   ·exact .inr (.inl h)
  ·exact .inr (.inr h)
 ·intro j Bz h i i' z q hi AX BU
  obtain⟨ln,hj,_,d,h2,_⟩:=B8 j Bz h
  rw[h2]at hi BU
  exact J.first j ln hj (i + d) (i' + d) z q hi (by omega) BU
 ·intro j Bz h m' t Fg ht
  obtain⟨ln,hj,h1,_⟩:=B8 j Bz h
  exact J.Dt j ln hj m' t (h1 _ Fg) ht
 ·intro e0 j Bz h Fg
  subst e0
  obtain⟨ln,hj,h1,d,h2,h3⟩:=B8 j Bz h
  obtain⟨m2,t2,e2,FL,_⟩:=J.Bl k lk hk _ (mem_of_head? hq)
  have:m=m2:=by have:(m:Int)=(m2:Int):=e2;omega
  subst this
  have b1:=J.Dt k lk hk m t2 (mem_of_head? hq) FL
  have b2:=J.Dt j ln hj m t2 (h1 _ Fg) FL
  rw[b1]at b2
  have b2:=Option.some.inj b2
  subst b2
  rcases fE h with ⟨_,rfl⟩ | ⟨ne,_⟩
  ·obtain⟨i,hi⟩:=qb Fg
   have hi:lk.qs.tail[i]? = some ((m:Int),0):=hi
   rw[lI]at hi
   exact J.first k lk hk (i + 1) 0 _ _ hi (by omega) h0 rfl
  ·exact ne rfl
 ·have:=eK (fun ln:ck=>ln.qs.length) (y:=ci lk) hk
  have hl:(ci lk).qs.length + 1=lk.qs.length:=by
   show lk.qs.tail.length + 1=_
   cases hl:lk.qs with
   | nil=>rw[hl]at hq;cases hq
   | cons _ _=>rfl
  have h1:=J.sum
  unfold jG at h1 ⊢
  show((((s.lanes.set k (ci lk)).map fun ln=>ln.qs.length).sum:Nat):Int) + (iZ s:Int) + 1=fR s
  omega
theorem uB {a:YA}{s:YS}{k:Nat}{t:cj}(J:Bn a s)(ht:s.U[k]? = some t)(hg:t.gone ≠ t.len):Pu a (mK s k t) k t.gone:=by
 have g0:=J.Cc k t ht
 have lk:∀ (m:Nat)(t':cj),(s.U.set k { t with gone:=t.gone + 1 })[m]? = some t'->∃ t0,s.U[m]? = some t0/\t'.start=t0.start/\t'.goal=t0.goal/\t'.way=t0.way/\t'.len=t0.len/\((m=k/\t'.gone=t.gone + 1)∨(m ≠ k/\t'.gone=t0.gone)):=fun m t' h=>by
  rcases fE h with ⟨rfl,rfl⟩ | ⟨ne,h⟩
  ·exact⟨t,ht,rfl,rfl,rfl,rfl, .inl ⟨rfl,rfl⟩⟩
  ·exact⟨t',h,rfl,rfl,rfl,rfl, .inr ⟨ne,rfl⟩⟩
 refine⟨J.lanes,J.lies,by show(s.U.set _ _).length <= 60;rw[length_set];exact J.Bd,J.Eg,?_,?_,?_,?_,?_,?_,?_,J.first,?_,?_,?_⟩
 ·intro m t' h
  obtain⟨t0,h0,e1,e2,_⟩:=lk m t' h
  rw[e1,e2];exact J.lets m t0 h0
 ·intro m t' h
  obtain⟨t0,h0,e1,e2,e3,_⟩:=lk m t' h
  rw[e3];exact J.Bm m t0 h0
 ·intro j ln h q hq
  obtain⟨m,t0,e,h0,hj⟩:=J.Bl j ln h q hq
  by_cases em:m=k
  ·subst em
   rw[ht]at h0
   cases h0
   exact⟨m,_,e,iG ht,hj⟩
  ·exact⟨m,t0,e,by show(s.U.set _ _)[m]? = _;rw[List.getElem?_set_ne (Ne.symm em)];exact h0,hj⟩
 ·intro m t' h
  obtain⟨t0,h0,e1,e2,e3,e4,e5⟩:=lk m t' h
  have:=J.Cc m t0 h0
  rcases e5 with ⟨rfl,e5⟩ | ⟨_,e5⟩
  ·rw[ht]at h0
   cases h0
   rw[e4,e5];omega
  ·rw[e4,e5];exact this
 ·intro m t' h hz
  obtain⟨t0,h0,e1,e2,e3,e4,e5⟩:=lk m t' h
  rcases e5 with ⟨rfl,e5⟩ | ⟨ne,e5⟩
  ·omega
  ·rw[e3];exact⟨J.Bj m t0 h0 (by omega),ne⟩
 ·intro m t' h i l hi hl
  obtain⟨t0,h0,e1,e2,e3,e4,e5⟩:=lk m t' h
  rw[e3]at hi ⊢
  rw[e2]at hl
  exact J.last m t0 h0 i l hi hl
 ·intro m t' h l ln hl AQ
  obtain⟨t0,h0,e1,e2,e3,e4,e5⟩:=lk m t' h
  rw[e3]at hl
  rw[e2]
  exact .inr (J.head m t0 h0 l ln hl AQ)
 ·intro j ln h m t' hm h'
  obtain⟨t0,h0,e1,e2,e3,e4,e5⟩:=lk m t' h'
  rw[e3]
  exact J.Dt j ln h m t0 hm h0
 ·intro e0 j ln h hm
  obtain⟨m,t0,e,h0,hj⟩:=J.Bl j ln h _ hm
  have:k=m:=by have:(k:Int)=(m:Int):=e;omega
  subst this
  rw[ht]at h0
  cases h0
  rw[J.Bj k t ht e0]at hj
  cases hj
 ·have:=iY (fun t:cj=>t.gone) (y:={ t with gone:=t.gone + 1 }) ht
  have h1:=J.sum
  unfold fR at h1 ⊢
  show (jG s:Int) + (iZ s:Int) + 1=((s.U.set k { t with gone:=t.gone + 1 }).map fun t=>t.gone).sum
  have:({ t with gone:=t.gone + 1 }:cj).gone=t.gone + 1:=rfl
  omega
theorem uH {l:List Nat}{x:Nat}(h:l.getLast? = some x):l[l.length - 1]? = some x:=by rw[← h,List.getLast?_eq_getElem?]
theorem jY {a:YA}{s:YS}{m l:Nat}{c:Int}{t:cj}{ln:ck}(M:Pu a s m c)(ht:s.U[m]? = some t)(AQ:s.lanes[l]? = some ln)(h0:c=0->l ∉ t.way/\∀ x ∈ t.way,mQ a x ≠ t.goal)(h1:c ≠ 0->l ∈ t.way):Bn a (dv s m c l t ln):=by
 have Fm:l < a.ps.length:=by rw[← M.lanes];exact(List.getElem?_eq_some_iff.mp AQ).1
 have lk:∀ (m':Nat)(t':cj),(dv s m c l t ln).U[m']? = some t'->∃ t0,s.U[m']? = some t0/\t'.start=t0.start/\t'.goal=t0.goal/\t'.len=t0.len/\t'.gone=t0.gone/\((c=0/\m' = m/\t0=t/\t'.way=t.way ++ [l])∨(¬ (c=0/\m' = m)/\t'.way=t0.way)):=fun m' t' h=>by
  have h:(if c=0 then s.U.set m { t with way:=t.way ++ [l] } else s.U)[m']? = some t':=h
  by_cases hc:c=0
  ·rw[if_pos hc]at h
   rcases fE h with ⟨rfl,rfl⟩ | ⟨ne,h⟩
   ·exact⟨t,ht,rfl,rfl,rfl,rfl, .inl ⟨hc,rfl,rfl,rfl⟩⟩
   ·exact⟨t',h,rfl,rfl,rfl,rfl, .inr ⟨fun z=>ne z.2,rfl⟩⟩
  ·rw[if_neg hc]at h
   exact⟨t',h,rfl,rfl,rfl,rfl, .inr ⟨fun z=>hc z.1,rfl⟩⟩
 have Xl:∀ (m':Nat)(t0:cj),s.U[m']? = some t0->∃ t',(dv s m c l t ln).U[m']? = some t'/\(∀ x ∈ t0.way,x ∈ t'.way)/\(m' = m->l ∈ t'.way):=fun m' t0 h=>by
  by_cases hc:c=0
  ·by_cases e:m' = m
   ·subst e
    rw[ht]at h
    cases h
    refine⟨{ t with way:=t.way ++ [l] },by show(if c=0 then s.U.set m' { t with way:=t.way ++ [l] } else s.U)[m']? = _;rw[if_pos hc];exact iG ht,fun x hx=>mem_append_left _ hx,fun _=>by show l ∈ t.way ++ [l];simp⟩
   ·exact⟨t0,by show(if c=0 then s.U.set m { t with way:=t.way ++ [l] } else s.U)[m']? = _;rw[if_pos hc,List.getElem?_set_ne (Ne.symm e)];exact h,fun x hx=>hx,fun z=>absurd z e⟩
  ·refine⟨t0,by show(if c=0 then s.U.set m { t with way:=t.way ++ [l] } else s.U)[m']? = _;rw[if_neg hc];exact h,fun x hx=>hx,fun z=>?_⟩
   subst z
   rw[ht]at h
   cases h
   exact h1 hc
 have Bz:∀ (j:Nat)(l':ck),(dv s m c l t ln).lanes[j]? = some l'->(j=l/\l'.qs=ln.qs ++ [((m:Int),c)])∨(j ≠ l/\s.lanes[j]? = some l'):=fun j l' h=>by
  rcases fE h with ⟨rfl,rfl⟩ | ⟨ne,h⟩
  ·exact .inl ⟨rfl,rfl⟩
  ·exact .inr ⟨ne,h⟩
 have old:∀ (j:Nat)(l':ck),(dv s m c l t ln).lanes[j]? = some l'->∀ q ∈ l'.qs,(j=l/\q=((m:Int),c))∨∃ l0,s.lanes[j]? = some l0/\q ∈ l0.qs:=fun j l' h q hq=>by
  rcases Bz j l' h with ⟨rfl,e⟩ | ⟨ne,h⟩
  ·rw[e,mem_append]at hq
   rcases hq with hq | hq
   ·exact .inr ⟨ln,AQ,hq⟩
   ·exact .inl ⟨rfl,by simpa using hq⟩
  ·exact .inr ⟨l',h,hq⟩
 refine⟨by rw[← M.lanes];show(s.lanes.set _ _).length=_;simp,M.lies,?_,M.Eg,?_,?_,?_,?_,?_,?_,?_,?_,?_,?_⟩
 ·show(if c=0 then s.U.set m { t with way:=t.way ++ [l] } else s.U).length <= 60
  by_cases hc:c=0
  ·rw[if_pos hc,length_set];exact M.Bd
  ·rw[if_neg hc];exact M.Bd
 ·intro m' t' h
  obtain⟨t0,h2,e1,e2,_⟩:=lk m' t' h
  rw[e1,e2];exact M.lets m' t0 h2
 ·intro m' t' h
  obtain⟨t0,h2,_,_,_,_,e⟩:=lk m' t' h
  obtain⟨w1,w2⟩:=M.Bm m' t0 h2
  rcases e with ⟨hc,rfl,rfl,e⟩ | ⟨_,e⟩
  ·rw[e]
   refine⟨fun x hx=>?_,?_⟩
   ·rcases mem_append.mp hx with hx | hx
    ·exact w1 x hx
    ·rw[mem_singleton.mp hx];exact Fm
   ·rw[nodup_append]
    exact⟨w2,by simp,fun x hx y hy=>by rw[mem_singleton.mp hy];exact fun z=>(h0 hc).1 (z ▸ hx)⟩
  ·rw[e];exact⟨w1,w2⟩
 ·intro j l' h q hq
  rcases old j l' h q hq with ⟨rfl,rfl⟩ | ⟨l0,h2,hq⟩
  ·obtain⟨t',h3,_,h4⟩:=Xl m t ht
   exact⟨m,t',rfl,h3,h4 rfl⟩
  ·obtain⟨m',t0,e,h3,hj⟩:=M.Bl j l0 h2 q hq
   obtain⟨t',h4,h5,_⟩:=Xl m' t0 h3
   exact⟨m',t',e,h4,h5 j hj⟩
 ·intro m' t' h
  obtain⟨t0,h2,_,_,e3,e4,_⟩:=lk m' t' h
  rw[e3,e4];exact M.Cc m' t0 h2
 ·intro m' t' h hz
  obtain⟨t0,h2,_,_,_,e4,e⟩:=lk m' t' h
  rw[e4]at hz
  obtain⟨w1,w2⟩:=M.Bj m' t0 h2 hz
  rcases e with ⟨hc,rfl,_⟩ | ⟨_,e⟩
  ·exact absurd rfl w2
  ·rw[e];exact w1
 ·intro m' t' h i x hi hx
  obtain⟨t0,h2,_,e2,_,_,e⟩:=lk m' t' h
  rw[e2]at hx
  rcases e with ⟨hc,rfl,rfl,e⟩ | ⟨_,e⟩
  ·rw[e]at hi ⊢
   by_cases AX:i < t0.way.length
   ·rw[List.getElem?_append_left AX]at hi
    exact absurd hx ((h0 hc).2 x (mem_of_getElem? hi))
   ·have:=(List.getElem?_eq_some_iff.mp hi).1
    rw[length_append,length_singleton]at this ⊢
    omega
  ·rw[e]at hi ⊢
   exact M.last m' t0 h2 i x hi hx
 ·intro m' t' h x l' hx D4
  obtain⟨t0,h2,_,e2,_,_,e⟩:=lk m' t' h
  rcases e with ⟨hc,rfl,rfl,e⟩ | ⟨ne,e⟩
  ·rw[e]at hx
   have hx:l=x:=by simpa using hx
   subst hx
   rcases Bz l l' D4 with ⟨_,e'⟩ | ⟨ne,_⟩
   ·left
    rw[e',hc];simp
   ·exact absurd rfl ne
  ·rw[e]at hx
   rcases Bz x l' D4 with ⟨rfl,e'⟩ | ⟨ne',h'⟩
   ·rcases M.head m' t0 h2 x ln hx AQ with z | z | z
    ·exact absurd ⟨z.2,z.1⟩ ne
    ·exact .inl (by rw[e'];exact mem_append_left _ z)
    ·rw[e2];exact .inr z
   ·rcases M.head m' t0 h2 x l' hx h' with z | z | z
    ·exact absurd ⟨z.2,z.1⟩ ne
    ·exact .inl z
    ·rw[e2];exact .inr z
 ·intro j l' h i i' z q hi AX hq
  rcases Bz j l' h with ⟨rfl,e⟩ | ⟨_,h'⟩
  ·rw[e]at hi hq
   by_cases Fb:i < ln.qs.length
   ·rw[List.getElem?_append_left Fb]at hi
    rw[List.getElem?_append_left (by omega)]at hq
    exact M.first j ln AQ i i' z q hi AX hq
   ·have h3:=(List.getElem?_eq_some_iff.mp hi).1
    rw[length_append,length_singleton]at h3
    have ei:i=ln.qs.length:=by omega
    subst ei
    rw[List.getElem?_concat_length]at hi
    have hi:=Option.some.inj hi
    injection hi with e1 e2
    subst e1
    rw[List.getElem?_append_left AX]at hq
    intro ez
    obtain⟨m',t0,e3,h4,h5⟩:=M.Bl j ln AQ q (mem_of_getElem? hq)
    have em0:(m':Int)=(m:Int):=by rw[← e3];exact ez
    have:m=m':=by omega
    subst this
    rw[ht]at h4
    cases h4
    exact(h0 e2).1 h5
  ·exact M.first j l' h' i i' z q hi AX hq
 ·intro j l' h m' t' hm h'
  obtain⟨t0,h2,_,_,_,_,e⟩:=lk m' t' h'
  rcases old j l' h _ hm with ⟨rfl,e'⟩ | ⟨l0,h3,hm⟩
  ·injection e' with e1 e2
   have em:m' = m:=by omega
   subst em
   rcases e with ⟨_,_,_,e⟩ | ⟨ne,_⟩
   ·rw[e];simp
   ·exact absurd ⟨e2.symm,rfl⟩ ne
  ·rcases e with ⟨hc,rfl,rfl,e⟩ | ⟨ne,e⟩
   ·exact absurd hm (M.gone hc j l0 h3)
   ·rw[e];exact M.Dt j l0 h3 m' t0 hm h2
 ·have q1:=eK (fun ln:ck=>ln.qs.length) (y:=ju ln m c t.len) AQ
  have q2:(ju ln m c t.len).qs.length=ln.qs.length + 1:=by show(ln.qs ++ [_]).length=_;simp
  have q3:fR (dv s m c l t ln)=fR s:=by
   unfold fR
   show((if c=0 then s.U.set m { t with way:=t.way ++ [l] } else s.U).map fun t=>t.gone).sum=_
   by_cases hc:c=0
   ·rw[if_pos hc]
    have:=iY (fun t:cj=>t.gone) (y:={ t with way:=t.way ++ [l] }) ht
    have e:({ t with way:=t.way ++ [l] }:cj).gone=t.gone:=rfl
    omega
   ·rw[if_neg hc]
  have h2:=M.sum
  rw[q3]
  unfold jG at h2 ⊢
  show((((s.lanes.set l (ju ln m c t.len)).map fun ln=>ln.qs.length).sum:Nat):Int) + (iZ s:Int)=fR s
  omega
theorem wK {a:YA}{s:YS}{m e:Nat}{c:Int}{t:cj}{qs:List (Int × Int)}(M:Pu a s m c)(ht:s.U[m]? = some t)(C9:s.lies[e]? = some qs)(h0:c=0->∀ x,t.way.getLast? = some x->mQ a x=t.goal):Bn a { s with lies:=s.lies.set e (qs ++ [((m:Int),c)]) }:=by
 refine⟨M.lanes,by show(s.lies.set _ _).length=_;rw[length_set];exact M.lies,M.Bd,M.Eg,M.lets,M.Bm,M.Bl,M.Cc,fun m' t' h z=>(M.Bj m' t' h z).1,M.last,?_,M.first,M.Dt,?_⟩
 ·intro m' t' h x l' hx D4
  rcases M.head m' t' h x l' hx D4 with ⟨rfl,hc⟩ | z | z
  ·have h:s.U[m']? = some t':=h
   rw[ht]at h
   cases h
   exact .inr (h0 hc x hx)
  ·exact .inl z
  ·exact .inr z
 ·have:=eK (fun qs:List (Int × Int)=>qs.length) (y:=qs ++ [((m:Int),c)]) C9
  have h2:=M.sum
  unfold iZ at h2 ⊢
  show (jG s:Int) + ((((s.lies.set e (qs ++ [((m:Int),c)])).map fun qs=>qs.length).sum:Nat):Int)=fR s
  rw[length_append,length_singleton]at this
  omega
theorem Bn.back {a:YA}{s:YS}{k:Nat}{lk MS:ck}(J:Bn a s)(hk:s.lanes[k]? = some lk)(e:MS.qs=lk.qs):Bn a { s with lanes:=s.lanes.set k MS }:=by
 have B8:∀ (j:Nat)(l':ck),(s.lanes.set k MS)[j]? = some l'->∃ l0,s.lanes[j]? = some l0/\l'.qs=l0.qs:=fun j l' h=>by
  rcases fE h with ⟨rfl,rfl⟩ | ⟨_,h⟩
  ·exact⟨lk,hk,e⟩
  ·exact⟨l',h,rfl⟩
 refine⟨by rw[← J.lanes];simp,J.lies,J.Bd,J.Eg,J.lets,J.Bm,?_,J.Cc,J.Bj,J.last,?_,?_,?_,?_⟩
 ·intro j l' h q hq
  obtain⟨l0,h0,e0⟩:=B8 j l' h
  rw[e0]at hq
  exact J.Bl j l0 h0 q hq
 ·intro m t ht x l' hx D4
  obtain⟨l0,h0,e0⟩:=B8 x l' D4
  rw[e0]
  exact J.head m t ht x l0 hx h0
 ·intro j l' h
  obtain⟨l0,h0,e0⟩:=B8 j l' h
  rw[e0]
  exact J.first j l0 h0
 ·intro j l' h
  obtain⟨l0,h0,e0⟩:=B8 j l' h
  rw[e0]
  exact J.Dt j l0 h0
 ·have:=eK (fun ln:ck=>ln.qs.length) (y:=MS) hk
  have h1:=J.sum
  have e':=congrArg List.length e
  unfold jG at h1 ⊢
  show((((s.lanes.set k MS).map fun ln=>ln.qs.length).sum:Nat):Int) + (iZ s:Int)=fR s
  omega
theorem Bn.step {a:YA}{s s':YS}{m:Mv}(J:Bn a s)(h:BQ a s m s'):Bn a s':=by
 cases h with
 | @B8 k l t ln ht hg hl AQ ho =>
  have M:=uB J ht hg
  refine jY (t:={ t with gone:=t.gone + 1 }) M (iG ht) AQ (fun hc=>?_) (fun hc=>?_)
  ·have hw:=J.Bj k t ht hc
   show l ∉ t.way/\∀ x ∈ t.way,mQ a x ≠ t.goal
   rw[hw]
   exact⟨by simp,by simp⟩
  ·unfold cI at hl
   rw[if_neg hc]at hl
   exact mem_of_mem_take hl
 | @on k l m c lk ln t hk hq ht hl AQ ho =>
  have M:=mB J hk hq
  have hw:cU a s k=if c=0 then (rJ a k t.goal.toNat).filter (fun l=>!decide (l ∈ t.way)) else (t.way.drop (t.way.idxOf k + 1)).take 1:=by
   unfold cU bU
   rw[hk]
   dsimp only
   rw[hq]
   dsimp only
   rw[toNat_natCast,ht]
  rw[hw]at hl
  refine jY M ht AQ (fun hc=>?_) (fun hc=>?_)
  ·rw[if_pos hc]at hl
   obtain⟨h1,h2⟩:=mem_filter.mp hl
   refine⟨by simpa using h2,fun x hx ex=>?_⟩
   subst hc
   obtain⟨i,hi⟩:=qb hx
   have h3:=J.last m t ht i x hi ex
   have h4:=J.Dt k lk hk m t (mem_of_head? hq) ht
   have h5:=uH h4
   rw[show t.way.length - 1=i by omega,hi]at h5
   have h5:=Option.some.inj h5
   subst h5
   unfold rJ at h1
   obtain⟨x0,y0,e1,e2,_,_⟩:=J.lets m t ht
   rw[if_pos (by show mQ a x=_;rw[ex,e2,toNat_natCast])]at h1
   cases h1
  ·rw[if_neg hc]at hl
   exact List.mem_of_mem_drop (mem_of_mem_take hl)
 | @CS k m e c lk t qs hk hq ht hg he C9 =>
  have M:=mB J hk hq
  have:=wK (s:={ s with lanes:=s.lanes.set k (ci lk) }) M ht C9 (fun hc x hx=>?_)
  ·exact this
  ·subst hc
   have h4:=J.Dt k lk hk m t (mem_of_head? hq) ht
   rw[h4]at hx
   have hx:=Option.some.inj hx
   subst hx
   show(a.ps.getD k (0,0)).2=t.goal
   rw[he,hg]
 | @back k lk hk hb=>exact J.back hk rfl
noncomputable def rV (s:YS):Int:=(s.U.map fun t=>t.len).sum
theorem pf {α:Type}(f g:α->Int):∀ {L:List α},(∀ (m:Nat)(t:α),L[m]? = some t->f t <= g t)->(L.map f).sum <= (L.map g).sum
 | [],_=>by simp
 | x :: L,h=>by
  have h1:=h 0 x rfl
  have h2:=pf f g (L:=L) fun m t ht=>h (m + 1) t ht
  simp only[map_cons,sum_cons];omega
theorem jN {α:Type}(g:α->Int):∀ {L:List α},(∀ (m:Nat)(t:α),L[m]? = some t->g t <= 60)->(L.map g).sum <= 60 * L.length
 | [],_=>by simp
 | x :: L,h=>by
  have h1:=h 0 x rfl
  have h2:=jN g (L:=L) fun m t ht=>h (m + 1) t ht
  simp only[map_cons,sum_cons,length_cons];omega
theorem Bn.MT {a:YA}{s:YS}(J:Bn a s):(iZ s:Int) <= rV s/\(jG s:Int) + (iZ s:Int) <= 3600:=by
 have h1:=pf (fun t:cj=>t.gone) (fun t=>t.len) (L:=s.U) fun m t ht=>(J.Cc m t ht).2.1
 have h2:=J.sum
 have h3:=jN (fun t:cj=>t.len) (L:=s.U) fun m t ht=>(J.Cc m t ht).2.2
 have h4:=J.Bd
 unfold fR at h2
 unfold rV
 omega
theorem js {α:Type}(f:α->Nat):∀ {L:List α}{k:Nat}{x:α},L[k]? = some x->f x <= (L.map f).sum
 | [],_,_,h=>by cases h
 | z :: L,0,x,h=>by cases h;simp only[map_cons,sum_cons];omega
 | z :: L,k + 1,x,h=>by
  have:=js f (L:=L) (k:=k) (x:=x) h
  simp only[map_cons,sum_cons];omega
theorem Bn.Xm {a:YA}{s:YS}(J:Bn a s)(hd:s.done.length <= 100000):Xi s:=by
 have h:=J.MT.2
 refine⟨fun k ln hk=>?_,fun p qs hp=>?_,hd⟩
 ·have:=js (fun ln:ck=>ln.qs.length) hk
  unfold jG at h
  omega
 ·have:=js (fun qs:List (Int × Int)=>qs.length) hp
  unfold iZ at h
  omega
noncomputable abbrev Es:=List (Nat × Nat)
noncomputable def lk (fs:Es)(p:Nat):Option Nat:=(fs.find? fun x=>decide (x.1=p)).map (·.2)
theorem gN {fs:Es}{p d:Nat}(h:lk fs p=some d):(p,d) ∈ fs:=by
 unfold lk at h
 cases e:fs.find? (fun x=>decide (x.1=p)) with
 | none=>rw[e]at h;cases h
 | some x =>
  rw[e]at h
  have h1:=List.find?_some e
  have h2:=List.mem_of_find?_eq_some e
  have h3:x.2=d:=Option.some.inj h
  have h4:x.1=p:=of_decide_eq_true h1
  rw[← h3,← h4];exact h2
theorem CL {fs:Es}{p:Nat}:lk fs p=none↔p ∉ fs.map (·.1):=by
 unfold lk
 rw[Option.map_eq_none_iff,List.find?_eq_none]
 constructor
 ·intro h m
  obtain⟨x,hx,e⟩:=mem_map.mp m
  exact h x hx (decide_eq_true e)
 ·intro h x hx e
  exact h (mem_map.mpr ⟨x,hx,of_decide_eq_true e⟩)
theorem im {fs:Es}(hn:(fs.map (·.1)).Nodup){p d:Nat}(h:(p,d) ∈ fs):lk fs p=some d:=by
 cases e:lk fs p with
 | none=>exact absurd (mem_map.mpr ⟨_,h,rfl⟩) (CL.mp e)
 | some d' =>
  have h':=gN e
  have:∀ {l:Es},(l.map (·.1)).Nodup->(p,d) ∈ l->(p,d') ∈ l->d' = d:=by
   intro l
   induction l with
   | nil=>intro _ h;cases h
   | cons x l ih =>
    intro hn h1 h2
    rw[map_cons,nodup_cons]at hn
    rcases mem_cons.mp h1 with h1 | h1
    ·rcases mem_cons.mp h2 with h2 | h2
     ·rw[← h1]at h2;exact(Prod.mk.inj h2).2
     ·exact absurd (mem_map.mpr ⟨_,h2,by rw[← h1]⟩) hn.1
    ·rcases mem_cons.mp h2 with h2 | h2
     ·exact absurd (mem_map.mpr ⟨_,h1,by rw[← h2]⟩) hn.1
     ·exact ih hn.2 h1 h2
  rw[this hn h h']
theorem gK:∀ (n:Nat)(l:List Nat),l.Nodup->(∀ x ∈ l,x < n)->l.length <= n
 | 0,l,_,h=>by
  cases l with
  | nil=>exact le_refl _
  | cons x l=>exact absurd (h x mem_cons_self) (not_lt_zero _)
 | n + 1,l,hn,h=>by
  by_cases hm:n ∈ l
  ·have e:=List.length_erase_of_mem hm
   have:=gK n (l.erase n) (hn.erase n) fun x hx=>by
    have C4:=(hn.mem_erase_iff).mp hx
    have:=h x C4.2
    have:=C4.1
    omega
   omega
  ·have:=gK n l hn fun x hx=>by
    have:=h x hx
    have:x ≠ n:=fun z=>hm (by rw[← z];exact hx)
    omega
   omega
structure DP (n:Nat)(es:Es)(g:Nat)(fs:Es)(i:Nat):Prop where
 nd:(fs.map (·.1)).Nodup
 lt:∀ x ∈ fs,x.1 < n
 g0:(g,0) ∈ fs
 up:∀ p d,(p,d) ∈ fs->(p=g/\d=0)∨∃ q d',d=d' + 1/\(q,d') ∈ fs/\(p,q) ∈ es
 sorted:fs.Pairwise fun x y=>x.2 <= y.2
 near:∀ y,fs[i]? = some y->∀ x ∈ fs,x.2 <= y.2 + 1
 cl:∀ k q d:Nat,k < i->fs[k]? = some (q,d)->∀ s,(s,q) ∈ es->∃ d',(s,d') ∈ fs/\d' <= d + 1
 ix:∀ j p d:Nat,fs[j]? = some (p,d)->d <= j
 le:i <= fs.length
theorem DP.Bd {n:Nat}{es:Es}{g:Nat}{fs:Es}{i:Nat}(b:DP n es g fs i):fs.length <= n:=by
 have:=gK n (fs.map (·.1)) b.nd fun x hx=>by
  obtain⟨y,hy,rfl⟩:=mem_map.mp hx
  exact b.lt y hy
 rwa [length_map]at this
theorem rF {n:Nat}{es:Es}{g:Nat}(hg:g < n):DP n es g [(g,0)] 0 where
 nd:=by simp
 lt:=fun x hx=>by rw[mem_singleton.mp hx];exact hg
 g0:=mem_singleton.mpr rfl
 up:=fun p d h=>by
  have:=mem_singleton.mp h
  exact .inl (Prod.mk.inj this)
 sorted:=by simp
 near:=fun y hy x hx=>by rw[mem_singleton.mp hx];exact zero_le _
 cl:=fun k _ _ h=>absurd h (not_lt_zero _)
 ix:=fun j p d h=>by
  cases j with
  | zero=>have:=Option.some.inj h;have:=(Prod.mk.inj this).2;omega
  | succ j=>simp at h
 le:=zero_le _
theorem DP.push {n:Nat}{es:Es}{g:Nat}{fs:Es}{i s p d:Nat}(b:DP n es g fs i)(hy:fs[i]? = some (p,d))(hs:s < n)(hl:(s,p) ∈ es)(hn:lk fs s=none):DP n es g (fs ++ [(s,d + 1)]) i where
 nd:=by
  rw[map_append,nodup_append]
  refine⟨b.nd,by simp,fun a ha c hc=>?_⟩
  have hc:c=s:=by simpa using hc
  intro z
  rw[z,hc]at ha
  exact CL.mp hn ha
 lt:=fun x hx=>by
  rcases mem_append.mp hx with h | h
  ·exact b.lt x h
  ·rw[mem_singleton.mp h];exact hs
 g0:=mem_append_left _ b.g0
 up:=fun q e h=>by
  rcases mem_append.mp h with h | h
  ·rcases b.up q e h with h | ⟨q',d',h1,h2,h3⟩
   ·exact .inl h
   ·exact .inr ⟨q',d',h1,mem_append_left _ h2,h3⟩
  ·obtain⟨h1,h2⟩:=Prod.mk.inj (mem_singleton.mp h)
   subst h1 h2
   exact .inr ⟨p,d,rfl,mem_append_left _ (mem_of_getElem? hy),hl⟩
 sorted:=by
  rw[List.pairwise_append]
  refine⟨b.sorted,by simp,fun x hx y hy'=>?_⟩
  rw[mem_singleton.mp hy']
  exact b.near _ hy x hx
 near:=fun y hy' x hx=>by
  have hi:i < fs.length:=(List.getElem?_eq_some_iff.mp hy).1
  rw[List.getElem?_append_left hi,hy]at hy'
  rw[← Option.some.inj hy']
  rcases mem_append.mp hx with h | h
  ·exact b.near _ hy x h
  ·rw[mem_singleton.mp h];exact le_refl _
 cl:=fun k q e hk hq t ht=>by
  have hi:i < fs.length:=(List.getElem?_eq_some_iff.mp hy).1
  rw[List.getElem?_append_left (by omega)]at hq
  obtain⟨d',h1,h2⟩:=b.cl k q e hk hq t ht
  exact⟨d',mem_append_left _ h1,h2⟩
 ix:=fun j q e h=>by
  have hi:i < fs.length:=(List.getElem?_eq_some_iff.mp hy).1
  have hd:=b.ix i p d hy
  rcases lt_or_ge j fs.length with hj | hj
  ·rw[List.getElem?_append_left hj]at h;exact b.ix j q e h
  ·rw[List.getElem?_append_right hj]at h
   have hj0:j - fs.length=0:=by
    have:=(List.getElem?_eq_some_iff.mp h).1
    simp at this;omega
   rw[hj0]at h
   have:=(Prod.mk.inj (Option.some.inj h)).2
   omega
 le:=le_trans b.le (by rw[length_append];omega)
theorem DP.next {n:Nat}{es:Es}{g:Nat}{fs:Es}{i p d:Nat}(b:DP n es g fs i)(hy:fs[i]? = some (p,d))(hc:∀ s,(s,p) ∈ es->s ∈ fs.map (·.1)):DP n es g fs (i + 1) where
 nd:=b.nd
 lt:=b.lt
 g0:=b.g0
 up:=b.up
 sorted:=b.sorted
 near:=fun y hy' x hx=>by
  have hi:i < fs.length:=(List.getElem?_eq_some_iff.mp hy).1
  have J4:i + 1 < fs.length:=(List.getElem?_eq_some_iff.mp hy').1
  have h1:=b.near _ hy x hx
  have h2:=pairwise_iff_getElem.mp b.sorted i (i + 1) hi J4 (lt_succ_self _)
  have e1:fs[i]=(p,d):=(List.getElem?_eq_some_iff.mp hy).2
  have e2:fs[i + 1]=y:=(List.getElem?_eq_some_iff.mp hy').2
  rw[e1,e2]at h2
  have h2:d <= y.2:=h2
  have h1:x.2 <= d + 1:=h1
  omega
 cl:=fun k q e hk hq s hs=>by
  rcases lt_or_ge k i with h | h
  ·exact b.cl k q e h hq s hs
  ·have:k=i:=by omega
   subst this
   rw[hy]at hq
   obtain⟨h1,h2⟩:=Prod.mk.inj (Option.some.inj hq)
   subst h1 h2
   obtain⟨x,hx,e⟩:=mem_map.mp (hc s hs)
   exact⟨x.2,by rw[← e];exact hx,b.near _ hy x hx⟩
 ix:=b.ix
 le:=(List.getElem?_eq_some_iff.mp hy).1
structure zZ (n:Nat)(es:Es)(g:Nat)(fs:Es):Prop where
 nd:(fs.map (·.1)).Nodup
 lt:∀ x ∈ fs,x.1 < n
 g0:lk fs g=some 0
 up:∀ p d,lk fs p=some d->(p=g/\d=0)∨∃ q d',d=d' + 1/\lk fs q=some d'/\(p,q) ∈ es
 cl:∀ s q d,(s,q) ∈ es->lk fs q=some d->∃ d',lk fs s=some d'/\d' <= d + 1
 Bd:∀ p d,lk fs p=some d->d < n
theorem DP.far {n:Nat}{es:Es}{g:Nat}{fs:Es}(b:DP n es g fs fs.length):zZ n es g fs where
 nd:=b.nd
 lt:=b.lt
 g0:=im b.nd b.g0
 up:=fun p d h=>by
  rcases b.up p d (gN h) with h | ⟨q,d',h1,h2,h3⟩
  ·exact .inl h
  ·exact .inr ⟨q,d',h1,im b.nd h2,h3⟩
 cl:=fun s q d hs hq=>by
  obtain⟨k,hk⟩:=List.getElem?_of_mem (gN hq)
  obtain⟨d',h1,h2⟩:=b.cl k q d (List.getElem?_eq_some_iff.mp hk).1 hk s hs
  exact⟨d',im b.nd h1,h2⟩
 Bd:=fun p d h=>by
  obtain⟨k,hk⟩:=List.getElem?_of_mem (gN h)
  have h1:=b.ix k p d hk
  have h2:=(List.getElem?_eq_some_iff.mp hk).1
  have h3:=b.Bd
  omega
noncomputable def fk (x:Nat × Nat):bW × V:=(Sum.inl (x.1:Int),V.int (x.2:Int))
noncomputable def zp (x:Nat × Nat):Int × Int:=((x.1:Int),(x.2:Int))
theorem gc (p:Nat):∀ fs:Es,ge (fs.map fk) (Sum.inl (p:Int))=(lk fs p).map fun d:Nat=>V.int (d:Int)
 | []=>rfl
 | x :: fs=>by
  have ih:=gc p fs
  unfold ge lk at ih ⊢
  rw[map_cons,List.find?_cons,List.find?_cons]
  by_cases h:x.1=p
  ·have h1:(fk x).1=(Sum.inl (p:Int):bW):=by rw[← h];rfl
   rw[decide_eq_true h,decide_eq_true h1];rfl
  ·have h1:¬ (fk x).1=(Sum.inl (p:Int):bW):=fun z=>h (by have:=Sum.inl.inj z;omega)
   rw[decide_eq_false h,decide_eq_false h1];exact ih
theorem yG {fs:Es}{s d:Nat}(h:lk fs s=none):cz (fs.map fk) (Sum.inl (s:Int)) (V.int (d:Int))=(fs ++ [(s,d)]).map fk:=by
 rw[tK _ (by rw[gc,h];rfl),map_append];rfl
noncomputable def gQ (es:Es)(p:Nat):List Nat:=(List.range es.length).filter fun k=>decide ((es.getD k (0,0)).2=p)
noncomputable def eP (es:Es)(p:Nat):List Nat:=(List.range es.length).filter fun k=>decide ((es.getD k (0,0)).1=p)
theorem pb (es:Es)(k:Nat):(es.map zp).getD k (0,0)=zp (es.getD k (0,0)):=by
 rw[getD_eq_getElem?_getD,getD_eq_getElem?_getD,List.getElem?_map]
 cases es[k]?<;>rfl
theorem MU (es:Es)(p:Nat):jx Prod.snd (es.map zp) (p:Int) (es.map zp).length=nV (gQ es p):=by
 unfold jx gQ nV
 rw[length_map]
 congr 1
 refine filter_congr fun k _=>?_
 rw[pb]
 show decide (((es.getD k (0,0)).2:Int)=(p:Int))=decide ((es.getD k (0,0)).2=p)
 by_cases h:(es.getD k (0,0)).2=p
 ·rw[decide_eq_true h,decide_eq_true (by omega)]
 ·rw[decide_eq_false h,decide_eq_false (by omega)]
theorem yJ (es:Es)(p:Nat):jx Prod.fst (es.map zp) (p:Int) (es.map zp).length=nV (eP es p):=by
 unfold jx eP nV
 rw[length_map]
 congr 1
 refine filter_congr fun k _=>?_
 rw[pb]
 show decide (((es.getD k (0,0)).1:Int)=(p:Int))=decide ((es.getD k (0,0)).1=p)
 by_cases h:(es.getD k (0,0)).1=p
 ·rw[decide_eq_true h,decide_eq_true (by omega)]
 ·rw[decide_eq_false h,decide_eq_false (by omega)]
theorem vX (es:Es)(p:Nat):(eP es p).length <= es.length:=by
 unfold eP
 exact le_trans (length_filter_le _ _) (by rw[length_range];exact le_refl _)
theorem MV {es:Es}{p k:Nat}(h:k ∈ gQ es p):∃ s,es[k]? = some (s,p)/\es.getD k (0,0)=(s,p):=by
 obtain⟨h1,h2⟩:=mem_filter.mp h
 have hk:=mem_range.mp h1
 have e:=List.getElem?_eq_getElem hk
 have e2:es.getD k (0,0)=es[k]:=by rw[getD_eq_getElem?_getD,e];rfl
 have h2:(es.getD k (0,0)).2=p:=of_decide_eq_true h2
 refine⟨es[k].1,?_,?_⟩
 ·rw[e,← h2,e2]
 ·rw[e2,← h2,e2]
noncomputable def Pw (n:Nat)(es:Es):Prop:=∀ e ∈ es,e.1 < n/\e.2 < n
noncomputable def xC (c:Cs):Sp:=fun vs H Q _=>∃ (lx AF lt:Addr)(Ao:List V)(n:Nat)(es:Es)(g:Nat),vs=[.ref lx, .int g]/\cn H c lx AF lt (n:Int) Ao (es.map zp)/\Pw n es/\es.length <= 100/\n <= 100/\g < n /\
 ∀ (fa:Addr)(fs:Es)(H':Hp),Ab H H'->H fa=none->zZ n es g fs->H' fa=some (.dK (fs.map fk))->Q (.ref fa) H'
structure Lm (K:Frag)(c:Cs)(fs fe fo fi:Addr)(ds de do' di:FuncData):Prop where
 ms:bz K c.land "start_of" fs
 bs:Binds K ds ["self", "lane"] []
 me:bz K c.land "end_of" fe
 be:Binds K de ["self", "lane"] []
 mo:bz K c.land "out_of" fo
 bo:Binds K do' ["self", "place"] []
 mi:bz K c.land "into" fi
 bi:Binds K di ["self", "place"] []
noncomputable abbrev NH:List Str:=["land", "goal", "far", "line", "looked_at", "place", "lane", "start"]
theorem HF:ao NH ["land", "goal"] (ah y8):=L2.AG
theorem zh {c:Cs}{f f1 f2 f3 f4:Addr}{fd d1 d2 d3 d4:FuncData}(F:AA K "how_far" "how_far" y8 f fd)(T:dE mg)(L:lC K c)(M:Lm K c f1 f2 f3 f4 d1 d2 d3 d4)
  (Gs:Ac P w K mg base aC 1 f1 d1 ["self", "lane"] (nZ c Prod.fst)) (Gi:Ac P w K mg base aC 1 f4 d4 ["self", "place"] (qG c Prod.snd)):Ac P w K mg base aC 2 f fd ["land", "goal"] (xC c):=by
 refine F.ok HF (fun vs H Q E h=>?_) (fun cdv A outer s H vs Q E hr h=>?_)
 ·obtain⟨lx,AF,lt,Ao,n,es,g,rfl,_⟩:=h
  rfl
 ·obtain⟨lx,AF,lt,Ao,n,es,g,rfl,hL,Cq,HE,hn,hg,q⟩:=h
  have hu:=ki hr
  refine⟨_,af (aA (i:=2) HF.nd rfl (Or.inl rfl) (vW (tP (pv 1) aj vS) rfl rfl (by intro z;cases z) (by decide)))
   (af (aA (i:=3) HF.nd rfl (Or.inl rfl) (aX (aa (pv 1) ad)))
   (af (aA (i:=4) HF.nd rfl (Or.inl rfl) aj)
   (af (lU PassesOwn.never (aw jo (pv 4) (av aq rfl T.len PySem.boot_len (aa (pv 3) ad)) (aB _))
    (af (aA (i:=5) HF.nd rfl (Or.inl rfl) (ax aL (pv 3) (pv 4) (fun _ _=>rfl)))
    (af (yH (i:=4) HF.nd rfl (Or.inl rfl) aj zA)
    (ai (bI PassesOwn.never rfl (cb (aD (pv 0) L.cl M.mi Gi hr M.bi .nil ap (aa (pv 5) ad))) (ay (i:=6) HF.nd rfl (Or.inl rfl))
     (af (aA (i:=7) HF.nd rfl (Or.inl rfl) (aD (pv 0) L.cl M.ms Gs hr M.bs .nil ap (aa (pv 6) ad)))
     (ai (aP (tL (qN hu (pv 7) (pv 2)))
      (af (vR hu (pv 2) (pv 7) (aG bT (pP hu (pv 2) (pv 5) (fun _ _=>rfl)) aj) rfl)
      (ai (aN (cu plainAttrs_list PySem.F.slot_list_append PySem.F.type_list_append bD (pv 3) (aa (pv 7) ad))))) aH))))))))
   (ai (ar (pv 2)))))),?_⟩
  have land:∀ {H':Hp},Ab H H'->cn H' c lx AF lt (n:Int) Ao (es.map zp):=fun s'=>⟨s' _ _ hL.1,s' _ _ hL.2.1,AB.same s' hL.2.2⟩
  refine fun fa DQ=>⟨_,rfl,ac,[fk (g,0)],rfl,(by show 1 <= 15;decide),?_⟩
  have s0:Ab H (upd (upd H fa (.dK [])) fa (.dK (eT [] [fk (g,0)]))):=fun b o e=>by rw[ae (ag e DQ),ae (ag e DQ)];exact e
  have S4:(upd (upd H fa (.dK [])) fa (.dK (eT [] [fk (g,0)]))) fa=some (.dK ([(g,0)].map fk)):=ac
  generalize upd (upd H fa (.dK [])) fa (.dK (eT [] [fk (g,0)]))=H0 at s0 S4 ⊢
  refine⟨_,rfl,by show 1 <= sizeLine;decide,fun ln AQ=>?_⟩
  have s1:=s0.new (o := .lst [.int g]) AQ
  have S5:H ln=none:=s0.free AQ
  have Pr:(upd H0 ln (.lst [.int g])) ln=some (.lst (nV ([(g,0)].map (·.1)))):=ac
  have Xn:(upd H0 ln (.lst [.int g])) fa=some (.dK ([(g,0)].map fk)):=by rw[ae (ag S4 AQ)];exact S4
  generalize upd H0 ln (.lst [.int g])=H1 at s1 Pr Xn ⊢
  refine⟨fun m σ H'=>∃ (fs:Es)(i:Nat)(a5 a6 a7:Option V),m=n - i/\DP n es g fs i/\Ab H H'/\H' fa=some (.dK (fs.map fk))/\H' ln=some (.lst (nV (fs.map (·.1))))/\σ=[some (.ref lx),some (.int g),some (.ref fa),some (.ref ln),some (.int (i:Nat)),a5,a6,a7],
   ⟨n - 0,[(g,0)],0,none,none,none,rfl,rF hg,s1,Xn,Pr,rfl⟩,?_⟩
  rintro m σ H2 ⟨fs,i,a5,a6,a7,rfl,hB,s2,gf,gl,rfl⟩
  have D1:=hB.Bd
  refine⟨_,rfl,_,rfl,ln,_,rfl, .inl (Ah.of gl),_,_,rfl,rfl,_,rfl,?_⟩
  by_cases hi:i < fs.length
  rotate_left
  ·have e:i=fs.length:=by have:=hB.le;omega
   subst e
   rw[decide_eq_false (by rw[dq,length_map];omega)]
   exact aI ⟨_,rfl,q fa fs H2 s2 DQ hB.far gf⟩
  rw[decide_eq_true (by rw[dq,length_map];omega)]
  have hy:=List.getElem?_eq_getElem hi
  generalize fs[i]=pd at hy
  obtain⟨p,d⟩:=pd
  have hp:p < n:=hB.lt _ (mem_of_getElem? hy)
  have B4:(nV (fs.map (·.1)))[i]? = some (.int (p:Int)):=lj (by rw[List.getElem?_map,hy];rfl)
  refine aK ⟨fun σ' H'=>∃ (AS:Es)(a5 a6 a7:Option V),DP n es g AS (i + 1)/\Ab H H'/\H' fa=some (.dK (AS.map fk))/\H' ln=some (.lst (nV (AS.map (·.1))))/\σ' = [some (.ref lx),some (.int g),some (.ref fa),some (.ref ln),some (.int ((i:Int) + 1)),a5,a6,a7],
   fun σ' H' Af=>by obtain⟨AS,a5,a6,a7,h1,h2,h3,h4,h5⟩:=Af;exact⟨n - (i + 1),by omega,AS,i + 1,a5,a6,a7,rfl,h1,h2,h3,h4,h5⟩,?_⟩
  refine⟨_,rfl,_,rfl,ln,_,_,_,rfl,rfl,Ah.of gl,ak B4,?_⟩
  refine⟨_,rfl,_,_,rfl,rfl,?_⟩
  refine⟨_,rfl,lx,AF,_,rfl,(land s2).1,rfl,_,rfl,lx,AF,lt,(n:Int),Ao,es.map zp,(p:Int),rfl,land s2,by rw[length_map];omega,fun H3 Ia s3 S9=>?_⟩
  rw[MU]
  have u3:=s3.new (o := .lst (nV (gQ es p))) S9
  have gI:(upd H3 Ia (.lst (nV (gQ es p)))) Ia=some (.lst (nV (gQ es p))):=ac
  have nIl:Ia ≠ ln:=Ne.symm (ag (s3 _ _ gl) S9)
  have nIf:Ia ≠ fa:=Ne.symm (ag (s3 _ _ gf) S9)
  have Xo:ln ≠ fa:=aU gl gf (by intro z;cases z)
  generalize upd H3 Ia (.lst (nV (gQ es p)))=H4 at u3 gI ⊢
  refine⟨Ia,rfl,⟨_,Ah.of gI⟩,?_⟩
  refine gR (K:=K) (a:=Ia) (xs:=nV (gQ es p)) (fun m σ H5=>∃ (AS:Es)(a6 a7:Option V),DP n es g AS i/\AS[i]? = some (p,d)/\(∀ k ∈ (gQ es p).take m,(es.getD k (0,0)).1 ∈ AS.map (·.1))/\Ab H H5/\H5 Ia=some (.lst (nV (gQ es p)))/\H5 fa=some (.dK (AS.map fk))/\H5 ln=some (.lst (nV (AS.map (·.1)))) /\
    σ=[some (.ref lx),some (.int g),some (.ref fa),some (.ref ln),some (.int ((i:Int) + 1)),some (.int p),a6,a7])
   ⟨fs,_,_,hB,hy,fun k hk=>by simp at hk,s2.trans u3,gI,u3 _ _ gf,u3 _ _ gl,rfl⟩ (fun m σ H5 _ Af=>by obtain⟨_,_,_,_,_,_,_,g5,_⟩:=Af;exact Ah.of g5) ?_ ?_
  ·rintro m v σ H5 hv ⟨AS,a6,a7,JF,hy',B1,s5,SA,JG,Px,rfl⟩
   have hm:m < (gQ es p).length:=by have:=(List.getElem?_eq_some_iff.mp hv).1;rw[dq]at this;exact this
   have hk0:=List.getElem?_eq_getElem hm
   have Jt:=lj hk0
   rw[Jt]at hv
   have hv:=Option.some.inj hv
   subst hv
   generalize hke:(gQ es p)[m]=k at hk0
   obtain⟨st,hk1,IU⟩:=MV (mem_of_getElem? hk0)
   have MW:=mem_of_getElem? hk1
   have CV:=(Cq _ MW).1
   have step:∀ {SD:Es},(∀ x ∈ AS.map (·.1),x ∈ SD.map (·.1))->st ∈ SD.map (·.1)->∀ k ∈ (gQ es p).take (m + 1),(es.getD k (0,0)).1 ∈ SD.map (·.1):=fun Lb MJ k' Eu=>by
    rw[take_succ,hk0]at Eu
    rcases mem_append.mp Eu with h | h
    ·exact Lb _ (B1 k' h)
    ·have:k' = k:=by simpa using h
     rw[this,IU];exact MJ
   refine⟨_,rfl,lx,AF,_,rfl,(land s5).1,rfl,_,rfl,lx,AF,lt,(n:Int),Ao,es.map zp,k,zp (st,p),rfl,land s5,by rw[List.getElem?_map,hk1];rfl,?_⟩
   refine⟨_,rfl,_,rfl,fa,_,rfl,BY.k (k:=Sum.inl (st:Int)) JG,_,rfl,?_⟩
   rw[gc]
   have Xp:=JF.Bd
   cases DC:lk AS st with
   | some d'=>exact aI ⟨AS,_,_,JF,hy',step (fun x hx=>hx) (mem_map.mpr ⟨_,gN DC,rfl⟩),s5,SA,JG,Px,rfl⟩
   | none =>
    refine aK ?_
    refine⟨_,rfl,_,rfl,fa, .int (d:Int),rfl,?_,_,_,rfl,rfl,_,rfl,_,rfl,fa,_,rfl,ED.k (k:=Sum.inl (st:Int)) JG (by rw[sizeLine_eq,length_map];omega),?_⟩
    ·have:=BY.k (k:=Sum.inl (p:Int)) JG
     rw[gc,im JF.nd (mem_of_getElem? hy')]at this
     exact this
    dsimp only
    have ep:cz (AS.map fk) (Sum.inl (st:Int)) (V.int ((d:Int) + 1))=(AS ++ [(st,d + 1)]).map fk:=yG (d:=d + 1) DC
    have Xq:(upd H5 fa (.dK (cz (AS.map fk) (Sum.inl (st:Int)) (V.int ((d:Int) + 1))))) Ia=some (.lst (nV (gQ es p))):=by rw[ae nIf];exact SA
    have SE:(upd H5 fa (.dK (cz (AS.map fk) (Sum.inl (st:Int)) (V.int ((d:Int) + 1))))) ln=some (.lst (nV (AS.map (·.1)))):=by rw[ae Xo];exact Px
    have Xr:(upd H5 fa (.dK (cz (AS.map fk) (Sum.inl (st:Int)) (V.int ((d:Int) + 1))))) fa=some (.dK ((AS ++ [(st,d + 1)]).map fk)):=by rw[ac,ep]
    have s6:Ab H (upd H5 fa (.dK (cz (AS.map fk) (Sum.inl (st:Int)) (V.int ((d:Int) + 1))))):=fun b o e=>by rw[ae (ag e DQ)];exact s5 _ _ e
    generalize upd H5 fa (.dK (cz (AS.map fk) (Sum.inl (st:Int)) (V.int ((d:Int) + 1))))=H6 at Xq SE Xr s6 ⊢
    refine⟨_,rfl, .inl ⟨rfl,_,Ah.of SE⟩,_,rfl,ln,_,_,rfl,rfl,SE,by rw[sizeLine_eq,dq,length_map];omega,?_⟩
    have J4:i < AS.length:=(List.getElem?_eq_some_iff.mp hy').1
    refine⟨AS ++ [(st,d + 1)],_,_,JF.push hy' CV MW DC,by rw[List.getElem?_append_left J4];exact hy',step (fun x hx=>by rw[map_append];exact mem_append_left _ hx) (by rw[map_append];exact mem_append_right _ (by simp)),fun b o e=>by rw[ae (ag e S5)];exact s6 _ _ e,by rw[ae nIl];exact Xq,by rw[ae (Ne.symm Xo)];exact Xr,?_,rfl⟩
    rw[ac,map_append,u7];rfl
  ·rintro σ H5 ⟨AS,a6,a7,JF,hy',B1,s5,SA,JG,Px,rfl⟩
   rw[dq,take_length]at B1
   refine⟨AS,_,_,_,JF.next hy' (fun st CV=>?_),s5,JG,Px,rfl⟩
   obtain⟨k,hk⟩:=List.getElem?_of_mem CV
   have hk1:es.getD k (0,0)=(st,p):=by rw[getD_eq_getElem?_getD,hk];rfl
   have:=B1 k (mem_filter.mpr ⟨mem_range.mpr (List.getElem?_eq_some_iff.mp hk).1,by rw[hk1];exact decide_eq_true rfl⟩)
   rw[hk1]at this
   exact this
noncomputable def jq (fs:Es)(d:Nat)(e:Nat):Bool:=match lk fs e with
 | some d'=>decide (d' + 1=d)
 | none=>false
noncomputable def cC (es fs:Es)(p d:Nat):List Nat:=(eP es p).filter fun k=>jq fs d (es.getD k (0,0)).2
theorem tW (es:Es)(p:Nat):(eP es p).Pairwise (· < ·):=List.Pairwise.filter _ pairwise_lt_range
theorem qY (es fs:Es)(p d:Nat):(cC es fs p d).Pairwise (· < ·):=List.Pairwise.filter _ (tW es p)
theorem pV {es fs:Es}{p d k:Nat}(h:k ∈ cC es fs p d):k < es.length:=mem_range.mp (mem_filter.mp (mem_filter.mp h).1).1
theorem mD {ks:List Nat}(h:ks.Pairwise (· < ·)):wM (Yd.AK ks 0)=nV ks:=by
 rw[wL,oC (ks:=ks) (ms:=iz ks) ?_ (fun k=>Iff.rfl),wS];rfl
 unfold iz
 exact List.Pairwise.map _ (fun a b Ht=>by show (a:Int) < (b:Int);omega) h
theorem yK {es:Es}{p k:Nat}(h:k ∈ eP es p):∃ e,es[k]? = some (p,e)/\es.getD k (0,0)=(p,e):=by
 obtain⟨h1,h2⟩:=mem_filter.mp h
 have hk:=mem_range.mp h1
 have e:=List.getElem?_eq_getElem hk
 have e2:es.getD k (0,0)=es[k]:=by rw[getD_eq_getElem?_getD,e];rfl
 have h2:(es.getD k (0,0)).1=p:=of_decide_eq_true h2
 refine⟨es[k].2,?_,?_⟩
 ·rw[e,← h2,e2]
 ·rw[e2,← h2,e2]
noncomputable def vN:V->Nat
 | .int z=>z.toNat
 | _=>0
theorem i6 (es fs:Es)(d:Nat):∀ l:List Nat,((nV l).filter fun v=>jq fs d (es.getD (vN v) (0,0)).2).map (fun v=>v)=nV (l.filter fun k=>jq fs d (es.getD k (0,0)).2)
 | []=>rfl
 | x :: l=>by
  have ih:=i6 es fs d l
  show((V.int (x:Int) :: nV l).filter _).map _=_
  rw[List.filter_cons,List.filter_cons]
  have e:vN (V.int (x:Int))=x:=toNat_natCast x
  rw[e]
  cases jq fs d (es.getD x (0,0)).2 with
  | true=>rw[if_pos rfl,if_pos rfl,map_cons,ih];rfl
  | false=>rw[if_neg (by decide),if_neg (by decide),ih]
noncomputable def MX (c:Cs):Sp:=fun vs H Q _=>∃ (lx AF lt fa:Addr)(Ao:List V)(n:Nat)(es fs:Es)(g p d:Nat),vs=[.ref lx, .ref fa, .int p]/\cn H c lx AF lt (n:Int) Ao (es.map zp)/\es.length <= 100/\Rd H fa (.dK (fs.map fk))/\zZ n es g fs/\lk fs p=some d /\
 ∀ (D:Addr)(H':Hp),Ab H H'->H D=none->H' D=some (.lst (nV (cC es fs p d)))->Q (.ref D) H'
theorem tH {H:Hp}{fa:Addr}{fs:Es}(h:Rd H fa (.dK (fs.map fk)))(p:Nat):BY H fa (.int (p:Int)) ((lk fs p).map fun d:Nat=>V.int (d:Int)) := .inl ⟨_,Sum.inl (p:Int),h,rfl,(gc p fs).symm⟩
theorem kR {H H':Hp}{a:Addr}{u:HO}(s:Ab H H')(h:Rd H a u):Rd H' a u:=by
 rcases h with h | ⟨o,h⟩
 ·exact .inl (s _ _ h)
 ·exact .inr ⟨o,s _ _ h⟩
noncomputable def MY (s:Stmt):Scope:=match aE s with
 | .Return (some (.ListComp _ _ sc _)) _ :: _=>sc
 | _=>{ kind := .function,names:=[],isGenerator:=false,isCoroutine:=false }
theorem SG:ao ["land", "far", "place"] ["land", "far", "place"] (ah Ly):=L2.AG
theorem SH:Bv ["land", "far", "place"] (ah Ly) (MY Ly) ["land", "far", "place"] [0,1,2]:=L2.Cu
theorem SI:(["lane", "land", "far", "place"]:List Str).Nodup:=by decide +kernel
theorem MZ {c:Cs}{f f1 f2 f3 f4:Addr}{fd d1 d2 d3 d4:FuncData}(F:AA K "nearer_lanes" "nearer_lanes" Ly f fd)(T:dE mg)(L:lC K c)(M:Lm K c f1 f2 f3 f4 d1 d2 d3 d4)
  (Ge:Ac P w K mg base aC 1 f2 d2 ["self", "lane"] (nZ c Prod.snd)) (Go:Ac P w K mg base aC 1 f3 d3 ["self", "place"] (qG c Prod.fst)):Ac P w K mg base aC 2 f fd ["land", "far", "place"] (MX c):=by
 refine F.ok SG (fun vs H Q E h=>?_) (fun cdv A outer s H vs Q E hr h=>?_)
 ·obtain⟨lx,AF,lt,fa,Ao,n,es,fs,g,p,d,rfl,_⟩:=h
  rfl
 ·obtain⟨lx,AF,lt,fa,Ao,n,es,fs,g,p,d,rfl,hL,HE,DQ,hF,DC,q⟩:=h
  have hu:=ki hr
  refine⟨_,ai (ar (bA (own:=["lane"]) (capN:=["land", "far", "place"]) (cap:=[0,1,2]) SH rfl (cb (aD (pv 0) L.cl M.mo Go hr M.bo .nil ap (aa (pv 2) ad)))
   (fun C s' H' fp=>⟨ay (i:=0) SI rfl (Or.inl rfl),cr (aw bC (tS hu (pv 2) (aD (pv 1) L.cl M.me Ge hr M.be .nil ap (aa (pv 0) ad)) ⟨rfl,rfl,rfl,rfl⟩) (aG cx (pP hu (pv 2) (pv 3) (fun _ _=>rfl)) aj) (aB _)),pv 0⟩))),?_⟩
  refine⟨_,rfl,lx,AF,_,rfl,hL.1,rfl,_,rfl,lx,AF,lt,(n:Int),Ao,es.map zp,(p:Int),rfl,hL,by rw[length_map];omega,fun H1 O s1 hO=>?_⟩
  rw[yJ]
  have s2:=s1.new (o := .lst (nV (eP es p))) hO
  have gO:(upd H1 O (.lst (nV (eP es p)))) O=some (.lst (nV (eP es p))):=ac
  generalize upd H1 O (.lst (nV (eP es p)))=H2 at s2 gO ⊢
  have Ij:=vX es p
  refine⟨O,rfl,⟨_,Ah.of gO⟩,fj (fun v=>jq fs d (es.getD (vN v) (0,0)).2) (fun v=>v) (by rw[sizeLine_eq,dq];omega) (Ah.of gO) ?_ ?_⟩
  ·intro v acc N hv hN
   obtain⟨k,hk,rfl⟩:=uz hv
   obtain⟨e,he1,Ff⟩:=yK hk
   have ek:vN (V.int (k:Int))=k:=toNat_natCast k
   rw[ek,Ff]at hN
   have hN:N (if jq fs d e=true then acc ++ [V.int (k:Int)] else acc) H2:=hN
   have gd:=tH (kR s2 DQ) p
   rw[DC]at gd
   refine⟨_,rfl,fa,rfl, .inl ⟨_,kR s2 DQ⟩,_,rfl,lx,AF,_,rfl,s2 _ _ hL.1,rfl,_,rfl,lx,AF,lt,(n:Int),Ao,es.map zp,k,zp (p,e),rfl,⟨s2 _ _ hL.1,s2 _ _ hL.2.1,AB.same s2 hL.2.2⟩,by rw[List.getElem?_map,he1];rfl,_,tH (kR s2 DQ) e,?_⟩
   refine⟨_,rfl,_,rfl,fa,_,rfl,gd,_,_,rfl,rfl,?_⟩
   unfold jq at hN
   cases hle:lk fs e with
   | none =>
    rw[hle]at hN
    refine⟨rfl,_,rfl,?_⟩
    exact aI hN
   | some d' =>
    rw[hle]at hN
    refine⟨rfl,_,rfl,?_⟩
    show(if decide (V.int (d':Int)=V.int ((d:Int) - 1))=true then _ else _)
    by_cases hd:d' + 1=d
    ·have hN:N (if decide (d' + 1=d)=true then acc ++ [V.int (k:Int)] else acc) H2:=hN
     rw[decide_eq_true hd,if_pos rfl]at hN
     rw[decide_eq_true (by rw[show (d:Int) - 1=(d':Int) by omega])]
     exact aK ⟨_,rfl,hN⟩
    ·have hN:N (if decide (d' + 1=d)=true then acc ++ [V.int (k:Int)] else acc) H2:=hN
     rw[decide_eq_false hd,if_neg (by decide)]at hN
     rw[decide_eq_false (fun z=>hd (by injection z with z;omega))]
     exact aI hN
  ·intro D hD
   rw[i6]
   exact q D _ (s2.new hD) (s2.free hD) ac
structure n0 where
 tab:Addr
 near:Addr
noncomputable def kk (p g:Nat):fP:=[some (p:Int),some (g:Int)]
theorem DD {p g p' g':Nat}:kk p g=kk p' g'↔p=p'/\g=g':=by
 unfold kk
 constructor
 ·intro h
  have h1:=List.cons.inj h
  have h2:=List.cons.inj h1.2
  have e1:=Option.some.inj h1.1
  have e2:=Option.some.inj h2.1
  omega
 ·rintro⟨rfl,rfl⟩;rfl
noncomputable def r8 (es fs:Es)(p:Nat):Option V:=(lk fs p).map fun d=>V.int (Yd.AK (cC es fs p d) 0:Nat)
noncomputable def nv (n:Nat)(es:Es)(kvs:List dC)(G:Nat):Prop:=(∀ g,g < G->∃ fs,zZ n es g fs/\∀ p,bX kvs (kk p g)=r8 es fs p)/\∀ g,G <= g->∀ p,bX kvs (kk p g)=none
noncomputable def vg (n:Nat)(es:Es)(kvs:List dC)(G:Nat)(fs:Es)(j:Nat):Prop:=(∀ g,g < G->∃ fs,zZ n es g fs/\∀ p,bX kvs (kk p g)=r8 es fs p)/\(∀ p,bX kvs (kk p G)=if p ∈ (fs.take j).map (·.1) then r8 es fs p else none)/\∀ g,G < g->∀ p,bX kvs (kk p g)=none
theorem r6 {n:Nat}{es:Es}{kvs:List dC}{G:Nat}{fs:Es}(h:nv n es kvs G):vg n es kvs G fs 0 :=
 ⟨h.1,fun p=>by rw[h.2 G (le_refl _) p,if_neg (by simp)],fun g hg p=>h.2 g (by omega) p⟩
theorem xa {n:Nat}{es:Es}{kvs:List dC}{G:Nat}{fs:Es}(f:zZ n es G fs)(h:vg n es kvs G fs fs.length):nv n es kvs (G + 1):=by
 refine⟨fun g hg=>?_,fun g hg p=>h.2.2 g (by omega) p⟩
 rcases lt_or_ge g G with h1 | h1
 ·exact h.1 g h1
 ·have e:g=G:=by omega
  subst e
  refine⟨fs,f,fun p=>?_⟩
  rw[h.2.1 p,take_length]
  by_cases hp:p ∈ fs.map (·.1)
  ·rw[if_pos hp]
  ·rw[if_neg hp];unfold r8;rw[CL.mpr hp];rfl
theorem uO {n:Nat}{es:Es}{kvs:List dC}{G:Nat}{fs:Es}{j p d:Nat}{b:Addr}(hn:(fs.map (·.1)).Nodup)(hj:fs[j]? = some (p,d))(h:vg n es kvs G fs j) :
  vg n es (eN kvs (kk p G) b (.int (Yd.AK (cC es fs p d) 0:Nat))) G fs (j + 1):=by
 have DC:=im hn (mem_of_getElem? hj)
 refine⟨fun g hg=>?_,fun p'=>?_,fun g hg p'=>?_⟩
 ·obtain⟨AS,f',h'⟩:=h.1 g hg
  refine⟨AS,f',fun p'=>?_⟩
  rw[gh,if_neg (fun z=>by have:=(DD.mp z).2;omega),h' p']
 ·rw[gh]
  by_cases e:p' = p
  ·subst e
   rw[if_pos rfl,if_pos (by rw[take_succ,hj,map_append];exact mem_append_right _ (by simp))]
   unfold r8;rw[DC];rfl
  ·rw[if_neg (fun z=>e (DD.mp z).1),h.2.1 p',take_succ,hj,map_append]
   by_cases hm:p' ∈ (fs.take j).map (·.1)
   ·rw[if_pos hm,if_pos (mem_append_left _ hm)]
   ·rw[if_neg hm,if_neg]
    intro z
    rcases mem_append.mp z with z | z
    ·exact hm z
    ·exact e (by simpa using z)
 ·rw[gh,if_neg (fun z=>by have:=(DD.mp z).2;omega),h.2.2 g hg p']
noncomputable def xn (P:Program)(w:World)(H:Hp)(ts:n0)(x dx:Addr)(lx:Addr)(de:Addr)(kvs:List dC):Prop:=H x=some (.ins ts.near dx [("land", .ref lx),("entries", .ref de)])/\AW P w H de kvs
noncomputable def sr (P:Program)(w:World)(c:Cs)(ts:n0):Sp:=fun vs H Q _=>∃ (x dx lx AF lt:Addr)(Ao:List V)(n:Nat)(es:Es),vs=[.ref x, .ref lx]/\H x=some (.ins ts.near dx [])/\cn H c lx AF lt (n:Int) Ao (es.map zp)/\Pw n es/\es.length <= 100/\n <= 100 /\
 ∀ H' de kvs,Off x H H'->xn P w H' ts x dx lx de kvs->nv n es kvs n->Q .Av H'
structure SJ (K:Frag)(mg:Str->Option Value)(ts:n0)(f1:Addr)(d1:FuncData):Prop where
 cl:C2 K ts.near
 n1:Aq K ts.near "land"
 n2:Aq K ts.near "entries"
 mt:mg "Table" = some (.ref ts.tab)
 cm:vh K ts.tab "__init__" f1
 bt:Binds K d1 ["self", "land"] []
noncomputable abbrev NNr:List Str:=["self", "land", "goal", "far", "place"]
theorem FN:ao NNr ["self", "land"] (ah sZ):=L2.AG
theorem wu {c:Cs}{ts:n0}{f ft fh fn fs:Addr}{fd dt dh dn ds:FuncData}(F:AA K "__init__" "Nearer.__init__" sZ f fd)(T:dE mg)(L:lC K c)(B:SJ K mg ts ft dt)(G1:Ac P w K mg base aC 1 ft dt ["self", "land"] (sf K))
  (mh:mg "how_far" = some (.ref fh)) (kh:keepIn K (.ref fh)=true) (bh:Binds K dh ["land", "goal"] []) (Gh:Ac P w K mg base aC 2 fh dh ["land", "goal"] (xC c))
  (mn:mg "nearer_lanes" = some (.ref fn)) (kn:keepIn K (.ref fn)=true) (bn:Binds K dn ["land", "far", "place"] []) (Gn:Ac P w K mg base aC 2 fn dn ["land", "far", "place"] (MX c))
  (ms:mg "set_of" = some (.ref fs)) (ks:keepIn K (.ref fs)=true) (bs:Binds K ds ["numbers"] []) (Gs:Ac P w K mg base aC 1 fs ds ["numbers"] (sg K)) :
  Ac P w K mg base aC 3 f fd ["self", "land"] (sr P w c ts):=by
 refine F.ok FN (fun vs H Q E h=>?_) (fun cdv A outer s H vs Q E hr h=>?_)
 ·obtain⟨x,dx,lx,AF,lt,Ao,n,es,rfl,_⟩:=h
  rfl
 ·obtain⟨x,dx,lx,AF,lt,Ao,n,es,rfl,hx,hL,Cq,HE,hn,q⟩:=h
  have Bb:Al 1 _:=hr.mono (by decide)
  have hu:=ki hr
  refine⟨_,af (aN (lZ (eB (v := .ref ts.tab) rfl B.mt rfl) B.cm G1 Bb B.bt .nil ap (aa (pv 0) (aa (pv 1) ad))))
   (af (aT (pv 0) (show PE _ _ (rS P w) from pO) rfl)
   (ai (bI PassesOwn.never rfl (aM rfl T.range (aa (al (pv 1) rfl) ad)) (ay (i:=2) FN.nd rfl (Or.inl rfl))
    (af (aA (i:=3) FN.nd rfl (Or.inl rfl) (au Gh hr rfl mh kh bh .nil ap (aa (pv 1) (aa (pv 2) ad))))
    (ai (bI PassesOwn.never rfl (vV (pv 3)) (ay (i:=4) FN.nd rfl (Or.inl rfl))
     (ai (pK hu (al (pv 0) rfl) (bJ (aa (pv 4) (aa (pv 2) ad))) (au Gs Bb rfl ms ks bs .nil ap (aa (au Gn hr rfl mn kn bn .nil ap (aa (pv 1) (aa (pv 3) (aa (pv 4) ad)))) ad)) rfl)))))))),?_⟩
  refine⟨rfl,_,rfl,_,rfl,x,ts.near,dx,_,rfl,hx,B.cl,B.n1,?_⟩
  refine fun de Dv=>⟨_,rfl,x,ts.near,dx,[("land", .ref lx)],rfl,by rw[ae (ag ac Dv)];exact ac,B.cl,B.n2,by show 1 < 1000;decide,?_⟩
  have Fl:x ≠ de:=ag ac Dv
  have EH:H de=none:=by rw[ae (Ne.symm Fl)]at Dv;exact Dv
  generalize E7:upd (upd (upd H x (.ins ts.near dx [("land", .ref lx)])) de (jE P w de [])) x (.ins ts.near dx (aJ "entries" (.ref de) [("land", .ref lx)]))=H2
  have o2:Off x H H2:=fun b o hb e=>by rw[← E7,ae hb,ae (ag e EH),ae hb];exact e
  have x2:H2 x=some (.ins ts.near dx [("land", .ref lx),("entries", .ref de)]):=by rw[← E7,ac];rfl
  have d2:AW P w H2 de []:=⟨by rw[← E7,ae (Ne.symm Fl),ac],fun y hy=>by cases hy⟩
  have Co:=Off.land o2 hx hL
  refine⟨_,rfl,lx,c.land,AF,_,_,rfl,Co.1,L.cl,L.np,rfl,(n:Int),rfl,by omega,by omega,?_⟩
  rw[toNat_natCast]
  refine bE (n:=n) (fun G σ H3=>∃ (a2 a3 a4:Option V)(kvs:List dC),Off x H H3/\xn P w H3 ts x dx lx de kvs/\kvs.length <= G * 100/\nv n es kvs G/\σ=[some (.ref x),some (.ref lx),a2,a3,a4])
   ⟨none,none,none,[],o2,⟨x2,d2⟩,zero_le _,⟨fun g hg=>absurd hg (not_lt_zero _),fun g _ p=>rfl⟩,rfl⟩ ?_ ?_
  ·rintro G σ H3 hG ⟨a2,a3,a4,kvs,o3,n3,l3,e3,rfl⟩
   rw[zero_add]
   have CI:=Off.land o3 hx hL
   refine⟨_,rfl,_,rfl,lx,AF,lt,Ao,n,es,G,rfl,CI,Cq,HE,hn,hG,fun fa AS H4 s4 DQ hF gfa=>?_⟩
   have D1:AS.length <= n:=by
    have:=gK n (AS.map (·.1)) hF.nd fun y hy=>by
     obtain⟨z,hz,rfl⟩:=mem_map.mp hy
     exact hF.lt z hz
    rwa [length_map]at this
   refine⟨_,rfl,fa,_,rfl,gfa,fun ob=>?_⟩
   have Xt:(upd H4 fa (.BJ ob (.dK (AS.map fk)))) fa=some (.BJ ob (.dK (AS.map fk))):=ac
   have s5:Ab H3 (upd H4 fa (.BJ ob (.dK (AS.map fk)))):=fun b o e=>by rw[ae (ag e DQ)];exact s4 _ _ e
   generalize upd H4 fa (.BJ ob (.dK (AS.map fk)))=H5 at Xt s5 ⊢
   have nfa:H fa=none∨fa=x:=by
    by_cases h:fa=x
    ·exact .inr h
    ·exact .inl (by cases e:H fa with | none=>rfl | some o=>rw[o3 _ _ h e]at DQ;cases DQ)
   refine uM (a:=fa) (o:=ob) (kvs:=AS.map fk) (fun j σ H6=>∃ (a4:Option V)(kvs:List dC),Off x H H6/\xn P w H6 ts x dx lx de kvs/\kvs.length <= G * 100 + j/\vg n es kvs G AS j/\H6 fa=some (.BJ ob (.dK (AS.map fk)))/\σ=[some (.ref x),some (.ref lx),some (.int G),some (.ref fa),a4])
    ⟨_,kvs,o3.same s5,⟨s5 _ _ n3.1,n3.2.same s5⟩,l3,r6 e3,Xt,rfl⟩ (fun j σ H6 _ Af=>by obtain⟨_,_,_,_,_,_,g6,_⟩:=Af;exact g6) ?_ ?_
   ·rintro j k σ H6 hk ⟨a4,kvs,o6,n6,l6,e6,g6,rfl⟩
    have hj:j < AS.length:=by have:=(List.getElem?_eq_some_iff.mp hk).1;simpa using this
    have hjp:=List.getElem?_eq_getElem hj
    generalize AS[j]=pd at hjp
    obtain⟨p,d⟩:=pd
    have ek:k=Sum.inl (p:Int):=by
     rw[List.getElem?_map,List.getElem?_map,hjp]at hk
     exact(Option.some.inj hk).symm
    subst ek
    rw[show kV (Sum.inl (p:Int))=V.int (p:Int) from rfl]
    have DC:=im hF.nd (mem_of_getElem? hjp)
    have hL6:=Off.land o6 hx hL
    refine⟨_,rfl,_,rfl,_,rfl,lx,AF,lt,fa,Ao,n,es,AS,G,p,d,rfl,hL6,HE, .inr ⟨_,g6⟩,hF,DC,fun O H7 s7 hO gO=>?_⟩
    refine⟨O,cC es AS p d,rfl,Ah.of gO,fun k hk=>by have:=pV hk;omega,?_⟩
    have n7x:=s7 _ _ n6.1
    refine⟨_,rfl,x,ts.near,dx,_,_,rfl,n7x,B.cl,B.n2,rfl,_,rfl,_,rfl,by show 2 <= sizeLine;decide,fun kt R1=>?_⟩
    have s8:=s7.new (o := .tup [.int p, .int G]) R1
    have k8:(upd H7 kt (.tup [.int p, .int G])) kt=some (.tup ((kk p G).map rK)):=ac
    generalize upd H7 kt (.tup [.int p, .int G])=H8 at s8 k8 ⊢
    have d8:=n6.2.same s8
    refine⟨de,kvs,kk p G,kt,rfl,d8,rfl,k8,by rw[sizeLine_eq];have:G * 100 <= 100 * 100:=Nat.mul_le_mul_right _ (by omega);omega,?_⟩
    have nfd:fa ≠ de:=fun z=>by
     have h1:=s8 _ _ g6
     rw[z,d8.1]at h1
     cases h1
    have Na:∀ b ks,H8 b=some (.tup ks)->(upd H8 de (jE P w de (eN kvs (kk p G) kt (.int (Yd.AK (cC es AS p d) 0:Nat))))) b=some (.tup ks):=fun b ks e=>by
     rw[ae (fun z=>by rw[z,d8.1]at e;cases e)];exact e
    refine⟨_,eN kvs (kk p G) kt (.int (Yd.AK (cC es AS p d) 0:Nat)),fun b o hb e=>?_,⟨?_,ac,jP (F:=fun k a=>(upd H8 de (jE P w de (eN kvs (kk p G) kt (.int (Yd.AK (cC es AS p d) 0:Nat))))) a=some (.tup (k.map rK))) (fun y hy=>Na _ _ (d8.2 y hy)) (Na _ _ k8)⟩,?_,uO hF.nd hjp e6,?_,rfl⟩
    ·rw[ae (ag e EH)];exact s8 _ _ (o6 _ _ hb e)
    ·rw[ae Fl];exact s8 _ _ n6.1
    ·have:=eM (kvs:=kvs) (k:=kk p G) (b:=kt) (v := .int (Yd.AK (cC es AS p d) 0:Nat));omega
    ·rw[ae nfd];exact s8 _ _ g6
   ·rintro σ H6 ⟨a4,kvs,o6,n6,l6,e6,g6,rfl⟩
    rw[length_map]at l6 e6
    refine⟨_,_,_,kvs,o6,n6,?_,xa hF e6,rfl⟩
    rw[Nat.succ_mul];omega
  ·rintro σ H3 ⟨a2,a3,a4,kvs,o3,n3,l3,e3,rfl⟩
   exact q H3 de kvs o3 n3 e3
noncomputable def kH (es fs:Es)(p:Nat):List Nat:=match lk fs p with
 | some d=>cC es fs p d
 | none=>[]
theorem lE (es fs:Es)(p:Nat):(kH es fs p).Pairwise (· < ·):=by
 unfold kH
 split
 ·exact qY _ _ _ _
 ·exact List.Pairwise.nil
theorem rN {es fs:Es}{p k:Nat}(h:k ∈ kH es fs p):k < es.length:=by
 unfold kH at h
 split at h
 ·exact pV h
 ·cases h
theorem wO {H:Hp}{l:Addr}{xs:List V}{o:HO}(hl:H l=some (.lst xs)):∀ {vs:List V}{ps:List (Int × Int)},AB H vs ps->AB (upd H l o) vs ps:=fun Af=>by
 induction Af with
 | nil=>exact .nil
 | cons zz r ih=>obtain⟨t,e,q⟩:=zz;exact .cons ⟨t,e,by rw[ae (aU q hl (by intro z;cases z))];exact q⟩ ih
theorem wN {ks:List Nat}(h:ks.Pairwise (· < ·)):mN (Yd.AK ks 0)=ks:=u0 (mD h)
noncomputable def Nb (kvs:List dC):Wf:=fun p g _=>mN (vN ((bX kvs (kk p g)).getD (.int 0)))
noncomputable def JH (P:Program)(w:World)(ts:n0):TJ:=fun H x n wy=>∃ (dx lx de:Addr)(kvs:List dC)(es:Es),xn P w H ts x dx lx de kvs/\nv n es kvs n/\es.length <= 100/\∀ p g k,p < n->g < n->wy p g k=Nb kvs p g k
theorem pe {n:Nat}{es:Es}{kvs:List dC}(h:nv n es kvs n){g:Nat}(hg:g < n)(p:Nat)(k:Option Nat):∃ fs,zZ n es g fs/\Nb kvs p g k=kH es fs p/\(bX kvs (kk p g)).getD (.int 0) = .int (Yd.AK (kH es fs p) 0:Nat):=by
 obtain⟨fs,hF,hv⟩:=h.1 g hg
 have ev:(bX kvs (kk p g)).getD (.int 0) = .int (Yd.AK (kH es fs p) 0:Nat):=by
  rw[hv p]
  unfold r8 kH
  cases lk fs p<;>rfl
 refine⟨fs,hF,?_,ev⟩
 unfold Nb
 rw[ev]
 show mN (((Yd.AK (kH es fs p) 0:Nat):Int)).toNat=_
 rw[toNat_natCast,wN (lE es fs p)]
theorem xN {n:Nat}{es:Es}{kvs:List dC}(h:nv n es kvs n){g p z:Nat}{k:Option Nat}(hg:g < n)(hz:z ∈ Nb kvs p g k):z < es.length:=by
 obtain⟨fs,_,e,_⟩:=pe h hg p k
 rw[e]at hz
 exact rN hz
theorem JH.keep {P:Program}{w:World}{ts:n0}{H H':Hp}{x:Addr}{n:Nat}{wy:Wf}(h:JH P w ts H x n wy)(k:Ax H H'):JH P w ts H' x n wy:=by
 obtain⟨dx,lx,de,kvs,es,⟨h1,h2,h3⟩,h4⟩:=h
 exact⟨dx,lx,de,kvs,es,⟨k _ _ h1 True.intro,k _ _ h2 True.intro,fun y hy=>k _ _ (h3 y hy) True.intro⟩,h4⟩
noncomputable def p9:Sp:=fun vs H Q _=>∃ (n m:Nat)(c:Int),vs=[.int n, .int m, .int c]/\2 <= n/\n <= 12/\m <= 100/\∀ (D:Addr)(Ap:List V)(es:Es)(H':Hp),Ab H H'->H D=none->H' D=some (.lst Ap)->AB H' Ap (es.map zp)->Pw n es->(∀ e ∈ es,e.1 ≠ e.2)->es.length=m->Q (.ref D) H'
noncomputable abbrev NLn:List Str:=["_law_places", "_law_amount", "_law_cell", "_law_lanes_here", "_law_k", "_law_draw", "_law_start"]
theorem vB:ao ["self", "lane"] ["self", "lane"] (ah oh):=L2.AG
theorem ue {c:Cs}{f:Addr}{fd:FuncData}(F:AA K "start_of" "Land.start_of" oh f fd)(L:lC K c):Ac P w K mg base aC 1 f fd ["self", "lane"] (nZ c Prod.fst):=by
 refine F.ok vB (fun vs H Q E h=>?_) (fun cdv A outer s H vs Q E hr h=>?_)
 ·obtain⟨x,dx,t,n,Ao,ps,k,pr,rfl,_⟩:=h
  rfl
 ·obtain⟨x,dx,t,n,Ao,ps,k,pr,rfl,⟨hx,ht,hl⟩,hk,q⟩:=h
  refine⟨_,ai (ar (ax aF (ax aF (al (pv 0) rfl) (pv 1) (fun _ _=>rfl)) aj (fun _ _=>rfl))),?_⟩
  obtain⟨v,hv,u,rfl,hu⟩:=AB.F6 hl hk
  refine⟨_,rfl,x,c.land,dx,_,_,rfl,hx,L.cl,L.nl,rfl,_,rfl,t,_,_,_,rfl,rfl,An.of ht,ak hv,u,_,0,_,rfl,rfl,An.of hu,ak (j:=0) rfl,q⟩
theorem SK:ao ["self", "place", "goal", "came"] ["self", "place", "goal", "came"] (ah sQ):=L2.AG
theorem uc {ts:n0}{f fm f1:Addr}{fd dm d1:FuncData}(F:AA K "ways" "Nearer.ways" sQ f fd)(B:SJ K mg ts f1 d1)(mm:mg "members" = some (.ref fm))(km:keepIn K (.ref fm)=true)(bm:Binds K dm ["some"] [])
  (Gm:Ac P w K mg base aC 2 fm dm ["some"] su):Ac P w K mg base aC 3 f fd ["self", "place", "goal", "came"] (dY (JH P w ts)):=by
 refine F.ok SK (fun vs H Q E h=>?_) (fun cdv A outer s H vs Q E hr h=>?_)
 ·obtain⟨x,n,wy,p,g,k,rfl,_⟩:=h
  rfl
 ·obtain⟨x,n,wy,p,g,k,rfl,⟨dx,lx,de,kvs,es,hx,hE,HE,hwy⟩,hp,hg,q⟩:=h
  rw[hwy p g k hp hg]at q
  have hu:=ki hr
  refine⟨_,ai (ar (au Gm hr rfl mm km bm .nil ap (aa (lY hu (al (pv 0) rfl) (aa (bJ (aa (pv 1) (aa (pv 2) ad))) (aa aj ad))) ad))),?_⟩
  refine⟨_,rfl,x,ts.near,dx,_,_,rfl,hx.1,B.cl,B.n2,rfl,de,kvs,rfl,hx.2,?_⟩
  refine⟨_,rfl,_,rfl,by show 2 <= sizeLine;decide,fun t ht=>?_⟩
  have s1:Ab H (upd H t (.tup [.int p, .int g])):=(Ab.refl H).new ht
  refine⟨_,_,bX kvs (kk p g),rfl,⟨kvs,kk p g,t,hx.2.same s1,rfl,ac,rfl⟩,?_⟩
  obtain⟨fs,hF,ew,ev⟩:=pe hE hg p k
  rw[ev]
  refine⟨_,rfl,lt_of_lt_of_le (sK fun k hk=>rN hk) (pow_le_pow_right (by decide) (by omega)),fun D hD=>?_⟩
  exact q D _ (s1.new hD) (s1.free hD) (by rw[ac,mD (lE es fs p),ew])
theorem ER:ao NLn ["_law_places", "_law_amount", "_law_cell"] (ah oq):=L2.AG
theorem ul {f fm:Addr}{fd dm:FuncData}(F:AA K "_law_lanes" "_law_lanes" oq f fd)(T:dE mg)(mm:mg "_law_mixed" = some (.ref fm))(km:keepIn K (.ref fm)=true)(bm:Binds K dm ["_law_cell", "_law_k"] [])
  (Gm:Ac P w K mg base aC 1 fm dm ["_law_cell", "_law_k"] lK):Ac P w K mg base aC 2 f fd ["_law_places", "_law_amount", "_law_cell"] p9:=by
 refine F.ok ER (fun vs H Q E h=>?_) (fun cdv A outer s H vs Q E hr h=>?_)
 ·obtain⟨n,m,c,rfl,_⟩:=h
  rfl
 ·obtain⟨n,m,c,rfl,En,RD,hm,q⟩:=h
  refine⟨_,af (aA (i:=3) ER.nd rfl (Or.inl rfl) (aX ad))
   (af (bI PassesOwn.never rfl (aM rfl T.range (aa (pv 1) ad)) (ay (i:=4) ER.nd rfl (Or.inl rfl))
    (af (aA (i:=5) ER.nd rfl (Or.inl rfl) (au Gm hr rfl mm km bm .nil ap (aa (pv 2) (aa (pv 4) ad))))
    (af (aA (i:=6) ER.nd rfl (Or.inl rfl) (aG bG (pv 5) (pv 0)))
    (ai (aN (cu plainAttrs_list PySem.F.slot_list_append PySem.F.type_list_append bD (pv 3) (aa (bJ (aa (pv 6) (aa (aG bG (aG bT (aG bT (pv 6) aj) (aG bG (aG fA (pv 5) aj) (aG cx (pv 0) aj))) (pv 0)) ad))) ad)))))))
   (ai (ar (pv 3)))),?_⟩
  have two:(2:Nat) <= sizeLine:=by decide
  refine⟨zero_le _,fun D hD=>?_⟩
  have s0:=(Ab.refl H).new (o := .lst []) hD
  refine⟨_,rfl,(m:Int),rfl,by omega,by omega,?_⟩
  rw[toNat_natCast]
  refine bE (n:=m) (fun i σ H2=>∃ (a3 a4 a5:Option V)(Ap:List V)(es:Es),Ab H H2/\H2 D=some (.lst Ap)/\AB H2 Ap (es.map zp)/\Pw n es/\(∀ e ∈ es,e.1 ≠ e.2)/\es.length=i/\σ=[some (.int n),some (.int m),some (.int c),some (.ref D),a3,a4,a5])
   ⟨none,none,none,[],[],s0,ac, .nil,(fun e he=>by cases he),(fun e he=>by cases he),rfl,rfl⟩ ?_ ?_
  ·rintro i σ H2 hi ⟨a3,a4,a5,Ap,es,s2,gD,Py,Cq,Ct,hl,rfl⟩
   have Pz:(0:Int) < (n:Int):=by omega
   have Xu:(0:Int) < (n:Int) - 1:=by omega
   rw[zero_add]
   refine⟨_,rfl,_,rfl,c,i,rfl,by omega,fun d hd=>?_⟩
   refine⟨_,rfl,_,rfl,_,_,rfl,rfl,Pz,?_⟩
   refine⟨_,rfl, .inl ⟨rfl,_,Ah.of gD⟩,_,rfl,_,rfl,_,_,rfl,rfl,_,rfl,_,_,rfl,rfl,⟨by decide,by decide⟩,_,rfl,_,_,rfl,rfl,_,_,rfl,rfl,Xu,_,_,rfl,rfl,_,rfl,_,_,rfl,rfl,Pz,two,fun t1 h1=>?_⟩
   dsimp only at h1 ⊢
   have e1:=emod_nonneg d (show (n:Int) ≠ 0 by omega)
   have e2:=emod_lt_of_pos d Pz
   have e3:=emod_nonneg (d / 16) (show (n:Int) - 1 ≠ 0 by omega)
   have e4:=emod_lt_of_pos (d / 16) Xu
   generalize d % (n:Int)=st at e1 e2 h1 ⊢
   generalize d / 16 % ((n:Int) - 1)=FO at e3 e4 h1 ⊢
   have e5:=emod_nonneg (st + 1 + FO) (show (n:Int) ≠ 0 by omega)
   have e6:=emod_lt_of_pos (st + 1 + FO) Pz
   have e7:(st + 1 + FO) % (n:Int) ≠ st:=by
    intro z
    rcases Int.lt_or_le (st + 1 + FO) (n:Int) with h | h
    ·rw[Int.emod_eq_of_lt (by omega) h]at z;omega
    ·have:(st + 1 + FO) % (n:Int)=st + 1 + FO - n:=by
      rw[show st + 1 + FO = (st + 1 + FO - n) + n by omega,Int.add_emod_right,Int.emod_eq_of_lt (by omega) (by omega)];omega
     omega
   generalize (st + 1 + FO) % (n:Int)=en at e5 e6 e7 h1 ⊢
   obtain⟨s',J0,SN⟩:∃ s':Nat,st=(s':Int)/\s' < n:=⟨st.toNat,by omega,by omega⟩
   obtain⟨n',CN,SO⟩:∃ n':Nat,en=(n':Int)/\n' < n:=⟨en.toNat,by omega,by omega⟩
   subst J0 CN
   have u1:=(Ab.refl H2).new (o := .tup [.int (s':Int), .int (n':Int)]) h1
   have v1:(upd H2 t1 (.tup [.int (s':Int), .int (n':Int)])) t1=some (.tup [.int (s':Int), .int (n':Int)]):=ac
   have nT:t1 ≠ D:=Ne.symm (ag gD h1)
   generalize upd H2 t1 (.tup [.int (s':Int), .int (n':Int)])=H3 at u1 v1 ⊢
   have IV:=u1 _ _ gD
   have Fm:Ap.length=es.length:=by rw[Paired.length Py,length_map]
   refine⟨D,Ap,_,rfl,rfl,IV,by rw[sizeLine_eq];omega,?_⟩
   refine⟨_,_,_,Ap ++ [.ref t1],es ++ [(s',n')],fun b o e=>by rw[ae (ag e hD)];exact u1 _ _ (s2 _ _ e),ac,?_,fun e he=>?_,fun e he=>?_,by rw[length_append,hl];rfl,rfl⟩
   ·rw[map_append]
    exact AB.snoc (p:=zp (s',n')) ⟨t1,rfl,by rw[ae nT];exact v1⟩ (wO IV (AB.same u1 Py))
   ·rcases mem_append.mp he with he | he
    ·exact Cq e he
    ·rw[mem_singleton.mp he];exact⟨SN,SO⟩
   ·rcases mem_append.mp he with he | he
    ·exact Ct e he
    ·rw[mem_singleton.mp he];show s' ≠ n';omega
  ·rintro σ H2 ⟨a3,a4,a5,Ap,es,s2,gD,Py,Cq,Ct,hl,rfl⟩
   exact⟨_,rfl,q D Ap es H2 s2 hD gD Py Cq Ct hl⟩
noncomputable def vi:Option Nat->Nat
 | none=>0
 | some k=>k + 1
noncomputable def tG (r:Rw):Nat:=(r.p.toNat * 100 + r.g.toNat) * 100 + vi r.c
theorem zu {a b:Rw}(h:aZ a=aZ b):tG a=tG b:=by
 unfold aZ at h
 injection h with h1 h2
 injection h2 with h2 h3
 injection h3 with h3 _
 injection h1 with h1
 injection h2 with h2
 have h4:a.c=b.c:=by
  cases ha:a.c with
  | none=>cases hb:b.c with
   | none=>rfl
   | some k=>rw[ha,hb]at h3;cases h3
  | some k=>cases hb:b.c with
   | none=>rw[ha,hb]at h3;cases h3
   | some k' =>
    rw[ha,hb]at h3
    have h3:some (k:Int)=some (k':Int):=h3
    injection h3 with h3
    rw[show k=k' by omega]
 unfold tG
 rw[h1,h2,h4]
structure DR (n:Nat)(ps:List (Int × Int))(B:Nat)(rs:List Rw):Prop where
 sort:(rs.map tG).Pairwise (· < ·)
 low:∀ r ∈ rs,tG r < B
 fit:∀ r ∈ rs,eJ n ps r=true
 Bd:∀ r ∈ rs,r.s.length <= 40
theorem DR.up {n:Nat}{ps:List (Int × Int)}{B B':Nat}{rs:List Rw}(h:DR n ps B rs)(l:B <= B'):DR n ps B' rs:=⟨h.sort,fun r hr=>lt_of_lt_of_le (h.low r hr) l,h.fit,h.Bd⟩
theorem DR.snoc {n:Nat}{ps:List (Int × Int)}{B:Nat}{rs:List Rw}{r:Rw}(h:DR n ps B rs)(hr:B <= tG r)(hf:eJ n ps r=true)(hl:r.s.length <= 40):DR n ps (tG r + 1) (rs ++ [r]):=by
 refine⟨?_,fun x hx=>?_,fun x hx=>?_,fun x hx=>?_⟩
 ·rw[map_append,List.pairwise_append]
  refine⟨h.sort,by simp,fun x hx y hy=>?_⟩
  obtain⟨r',G7,rfl⟩:=mem_map.mp hx
  have hy:y=tG r:=by simpa using hy
  rw[hy]
  exact lt_of_lt_of_le (h.low r' G7) hr
 ·rcases mem_append.mp hx with hx | hx
  ·have:=h.low x hx;omega
  ·rw[mem_singleton.mp hx];omega
 ·rcases mem_append.mp hx with hx | hx
  ·exact h.fit x hx
  ·rw[mem_singleton.mp hx];exact hf
 ·rcases mem_append.mp hx with hx | hx
  ·exact h.Bd x hx
  ·rw[mem_singleton.mp hx];exact hl
theorem DR.good {n:Nat}{ps:List (Int × Int)}{B:Nat}{rs:List Rw}(h:DR n ps B rs):cK n ps rs rs.length=none:=by
 refine fN fun k hk=>?_
 have hr:rs[k]? = some rs[k]:=List.getElem?_eq_getElem hk
 have Pc:rs.getD k ⟨0,0,none,[]⟩ = rs[k]:=by rw[getD_eq_getElem?_getD,hr];rfl
 rw[Pc,gU,h.fit _ (getElem_mem hk)]
 have SQ:((rs.take k).any fun a=>decide (aZ a=aZ rs[k]))=false:=by
  rw[List.any_eq_false]
  intro a ha hd
  have e:=zu (of_decide_eq_true hd)
  obtain⟨j,hj,ea⟩:=List.mem_take_iff_getElem.mp ha
  have hj':j < k:=by omega
  have:=pairwise_iff_getElem.mp h.sort j k (by rw[length_map];omega) (by rw[length_map];exact hk) hj'
  rw[List.getElem_map,List.getElem_map,ea]at this
  omega
 rw[SQ];rfl
theorem kj {n:Int}{ps:List (Int × Int)}{r:Rw}(h:eJ n ps r=true):∀ k ∈ r.s,k < ps.length:=by
 unfold eJ at h
 simp only[Bool.and_eq_true,all_eq_true,decide_eq_true_eq]at h
 intro k hk
 exact mem_range.mp (mem_filter.mp (h.2.2 k hk)).1
noncomputable def lF (rs:List Rw)(k:fP):Nat:=match dN rs k with
 | some r=>Yd.AK r.s 0
 | none=>0
theorem mH {rs:List Rw}{k:fP}{r:Rw}(h:dN rs k=some r):r ∈ rs:=mem_reverse.mp (List.mem_of_find?_eq_some h)
noncomputable def JI (rs:List Rw):Wf:=fun p g k=>mN (lF rs (aZ ⟨(p:Int),(g:Int),k,[]⟩))
noncomputable def CA (P:Program)(w:World)(ts:Ts):TJ:=fun H x n wy=>∃ (dx de:Addr)(lv:V)(kvs:List dC)(rs:List Rw),H x=some (.ins ts.told dx [("land",lv),("entries", .ref de)])/\AW P w H de kvs/\(∀ k,bX kvs k=(dN rs k).map sM)/\(∀ r ∈ rs,∀ k ∈ r.s,k < 40)/\wy=JI rs
theorem CA.keep {P:Program}{w:World}{ts:Ts}{H H':Hp}{x:Addr}{n:Nat}{wy:Wf}(h:CA P w ts H x n wy)(k:Ax H H'):CA P w ts H' x n wy:=by
 obtain⟨dx,de,lv,kvs,rs,h1,⟨h2,h3⟩,h4⟩:=h
 exact⟨dx,de,lv,kvs,rs,k _ _ h1 True.intro,⟨k _ _ h2 True.intro,fun y hy=>k _ _ (h3 y hy) True.intro⟩,h4⟩
theorem zo {ks:List Nat}{z:Nat}(h:z ∈ mN (Yd.AK ks 0)):z ∈ ks:=by
 have:=(mem_filter.mp h).2
 have h2:(Yd.AK ks 0).testBit z=true:=this
 rw[qB,decide_eq_true_eq]at h2
 obtain⟨n,hn,e⟩:=Bu.mp h2
 have:n=z:=by omega
 exact this ▸ hn
theorem mF (m:Nat):(mN m).Nodup:=List.nodup_range.filter _
theorem rL {rs:List Rw}{n:Nat}(h:∀ r ∈ rs,∀ k ∈ r.s,k < n)(p g:Nat)(k:Option Nat):(∀ z ∈ JI rs p g k,z < n)/\(JI rs p g k).length <= n:=by
 have h1:∀ z ∈ JI rs p g k,z < n:=fun z hz=>by
  unfold JI lF at hz
  cases hl:dN rs (aZ ⟨(p:Int),(g:Int),k,[]⟩) with
  | none=>rw[hl]at hz;exact absurd hz (by show z ∉ mN 0;intro h;cases h)
  | some r=>rw[hl]at hz;exact h r (mH hl) z (zo hz)
 exact⟨h1,dJ n _ (mF _) h1⟩
theorem nH {ts:Ts}{f:Addr}{fd:FuncData}(G:Ac P w K mg base aC 3 f fd ["self", "place", "goal", "came"] (pi P w ts)):Ac P w K mg base aC 3 f fd ["self", "place", "goal", "came"] (dY (CA P w ts)) :=
 G.imp fun vs H Q E Af=>by
 obtain⟨x,n,wy,p,g,k,e,⟨dx,de,lv,kvs,rs,h1,h2,h3,h4,h5⟩,hp,hg,q⟩:=Af
 exact⟨x,dx,de,lv,kvs,⟨(p:Int),(g:Int),k,[]⟩,lF rs (aZ ⟨(p:Int),(g:Int),k,[]⟩),e,h1,h2,by
  rw[h3]
  unfold lF
  cases dN rs (aZ ⟨(p:Int),(g:Int),k,[]⟩)<;>rfl,by
  unfold lF
  cases hl:dN rs (aZ ⟨(p:Int),(g:Int),k,[]⟩) with
  | none=>exact Nat.two_pow_pos _
  | some r=>exact lt_of_lt_of_le (sK (h4 r (mH hl))) (pow_le_pow_right (by decide) (by decide)),fun H' D s' hD=>q D _ (s'.new hD) (s'.free hD) (by rw[ac,h5];rfl)⟩
theorem qv {sel:Int × Int->Int}{ps:List (Int × Int)}{pl:Int}{g:TG}{tt:TT}{te:TE}{σ0:St}{H:Hp}{Q:VK}(hn:ps.length < sizeLine)
  (hs:∀ (i:Nat)(acc:List V)(N:List V->Hp->Prop)(pr:Int × Int),ps[i]? = some pr->N (if decide (sel pr=pl)=true then acc ++ [V.int i] else acc) H->g (.int i) σ0 H fun σ2 H2=>tt σ2 H2 fun b H3=>if b=true then te σ2 H3 fun y H4=>N (acc ++ [y]) H4 else N acc H3)
  (hq:∀ D,H D=none->Q (.ref D) (upd H D (.lst (bL (eG sel ps pl))))):dQ (vn 0 ps.length) g tt te σ0 Q H:=by
 refine mX (lo:=0) (fun k=>decide (sel (ps.getD k (0,0))=pl)) (fun k=>V.int k) hn (fun i acc N hi h=>?_) hq
 obtain⟨pr,hpr⟩:∃ pr,ps[i]? = some pr:=⟨ps[i],List.getElem?_eq_getElem hi⟩
 have eg:ps.getD i (0,0)=pr:=by rw[getD_eq_getElem?_getD,hpr];rfl
 rw[zero_add]
 rw[eg]at h
 exact hs i acc N pr hpr h
noncomputable def SR (x:Addr)(H:Hp)(v:V)(r:Rw):Prop:=∃ t l,v = .ref t/\Ir H t l r/\l ≠ x
noncomputable abbrev C0 (x:Addr)(H:Hp):List V->List Rw->Prop:=Paired (SR x H)
theorem C0.imp {x:Addr}{H H':Hp}{G:V->Rw->Prop}(h:∀ v r,SR x H v r->G v r):∀ {vs:List V}{rs:List Rw},C0 x H vs rs->Paired G vs rs:=fun Af=>by
 induction Af with
 | nil=>exact .nil
 | cons z r ih=>exact .cons (h _ _ z) ih
theorem C0.rws {x:Addr}{H:Hp}{vs:List V}{rs:List Rw}(h:C0 x H vs rs):DA H vs rs:=C0.imp (H':=H) (fun _ _ ⟨t,l,e,z,_⟩=>⟨t,l,e,z⟩) h
theorem C0.same {x:Addr}{H H':Hp}(s:Ab H H'){vs:List V}{rs:List Rw}(h:C0 x H vs rs):C0 x H' vs rs:=C0.imp (H':=H) (fun _ _ ⟨t,l,e,z,n⟩=>⟨t,l,e,z.same s,n⟩) h
theorem C0.off {x:Addr}{H:Hp}{xs:List V}{o:HO}(hx:H x=some (.lst xs)){vs:List V}{rs:List Rw}(h:C0 x H vs rs):C0 x (upd H x o) vs rs :=
 C0.imp (H':=H) (fun _ _ Af=>by obtain⟨t,l,e,z,n⟩:=Af;exact⟨t,l,e,⟨by rw[ae (aU z.1 hx (by intro z;cases z))];exact z.1,by rw[ae n];exact z.2⟩,n⟩) h
theorem C0.snoc {x:Addr}{H:Hp}{v:V}{r:Rw}(h:SR x H v r):∀ {vs:List V}{rs:List Rw},C0 x H vs rs->C0 x H (vs ++ [v]) (rs ++ [r]):=fun Af=>by
 induction Af with
 | nil=>exact .cons h .nil
 | cons z t ih=>exact .cons z ih
theorem SS (m k:Nat):decide (V.int (Builtin.bitAnd ((m:Int) / 2 ^ (k:Int).toNat) 1)=V.int 1)=m.testBit k:=by
 rw[fU,toNat_natCast,← Yd.DH m k]
theorem rC {K:Frag}{a:Addr}{xs:List Nat}{g:TG}{tt:TT}{te:TE}{σ0:St}{H:Hp}{Q:VK}(q:Nat->Bool)(hn:xs.length < sizeLine)(ha:Ah K H a (bL xs))
  (hs:∀ (k:Nat)(acc:List V)(N:List V->Hp->Prop),k ∈ xs->N (if q k then acc ++ [V.int (k:Int)] else acc) H->g (.int (k:Int)) σ0 H fun σ2 H2=>tt σ2 H2 fun b H3=>if b=true then te σ2 H3 fun y H4=>N (acc ++ [y]) H4 else N acc H3)
  (hq:∀ D,H D=none->Q (.ref D) (upd H D (.lst (bL (xs.filter q))))):dQ (xq K a) g tt te σ0 Q H:=by
 refine fj (xs:=bL xs) (fun v=>match v with | .int k=>q k.toNat | _=>false) (fun v=>v) (by unfold bL;rw[length_map];exact hn) ha (fun x acc N hx h=>?_) fun D hD=>?_
 ·obtain⟨k,hk,rfl⟩:=mem_map.mp hx
  exact hs k acc N hk h
 ·have e:((bL xs).filter (fun v=>match v with | .int k=>q k.toNat | _=>false)).map (fun v=>v)=bL (xs.filter q):=by
   unfold bL
   rw[List.map_id'',List.filter_map]
   ·congr 1
   ·intro _;rfl
  rw[e]
  exact hq D hD
theorem DR.len {n:Nat}{ps:List (Int × Int)}{B:Nat}{rs:List Rw}(h:DR n ps B rs):rs.length <= B:=by
 have:=dJ B (rs.map tG) (h.sort.imp fun h=>ne_of_lt h) fun x hx=>by
  obtain⟨r,hr,rfl⟩:=mem_map.mp hx
  exact h.low r hr
 rw[length_map]at this
 exact this
theorem uQ {n:Nat}{ps:List (Int × Int)}(h1:1 <= n)(h2:n <= 12)(h3:ps.length <= 40)(h:∀ p ∈ ps,jp n p=true):eZ n ps = .good:=by
 unfold eZ
 rw[decide_eq_true (show (1:Int) <= (n:Int)/\(n:Int) <= 12 by omega),if_neg (by decide),if_neg (by omega),jB h]
noncomputable def vb (s:Stmt):Scope:=match s with
 | .Assign _ (.ListComp _ _ sc _) _=>sc
 | _=>{ kind := .function,names:=[],isGenerator:=false,isCoroutine:=false }
noncomputable def qW (b:List Stmt)(i:Nat):Stmt:=b.getD i (.Pass ⟨0,0,0,0⟩)
noncomputable def oR (s:Stmt):List Stmt:=match s with
 | .For _ _ b _ _=>b
 | _=>[]
noncomputable def vm (x:V):Prop:=(∃ i,x = .int i)∨∃ t,x = .str t/\PyData.strOk t=true
structure JK (a:YA)(s:YS):Prop where
 lanes:s.lanes.length=a.ps.length
 lies:s.lies.length=a.n
 q0:∀ (k:Nat)(ln:ck),s.lanes[k]? = some ln->ln.qs=[]
 l0:∀ (p:Nat)(qs:List (Int × Int)),s.lies[p]? = some qs->qs=[]
 lets:∀ (m:Nat)(t:cj),s.U[m]? = some t->t.gone=0/\t.way=[]/\0 <= t.len/\t.len <= 60/\∃ x y:Nat,t.start=(x:Int)/\t.goal=(y:Int)/\x < a.n/\y < a.n
 done:∀ d ∈ s.done,∀ x ∈ d,vm x
theorem yi {α:Type}(f:α->Nat):∀ {L:List α},(∀ (k:Nat)(x:α),L[k]? = some x->f x=0)->(L.map f).sum=0
 | [],_=>rfl
 | x :: L,h=>by
  have h1:=h 0 x rfl
  have h2:=yi f (L:=L) fun k y hy=>h (k + 1) y hy
  simp only[map_cons,sum_cons];omega
theorem xw {α:Type}(f:α->Int):∀ {L:List α},(∀ (k:Nat)(x:α),L[k]? = some x->f x=0)->(L.map f).sum=0
 | [],_=>rfl
 | x :: L,h=>by
  have h1:=h 0 x rfl
  have h2:=xw f (L:=L) fun k y hy=>h (k + 1) y hy
  simp only[map_cons,sum_cons];omega
theorem JK.jnv {a:YA}{s:YS}(h:JK a s)(Bd:s.U.length <= 60)(Eg:a.ps.length <= 40):Bn a s:=by
 refine⟨h.lanes,h.lies,Bd,Eg,fun m t ht=>(h.lets m t ht).2.2.2.2,fun m t ht=>?_,fun k ln hk q hq=>?_,fun m t ht=>?_,fun m t ht _=>(h.lets m t ht).2.1,fun m t ht i l hi=>?_,fun m t ht l ln hl=>?_,fun k ln hk i j z q hi=>?_,fun k ln hk m t hm=>?_,?_⟩
 ·rw[(h.lets m t ht).2.1];exact⟨(fun l hl=>by cases hl),nodup_nil⟩
 ·rw[h.q0 k ln hk]at hq;cases hq
 ·obtain⟨h1,h2,h3,h4,_⟩:=h.lets m t ht
  rw[h1];exact⟨by omega,h3,h4⟩
 ·rw[(h.lets m t ht).2.1]at hi;cases hi
 ·rw[(h.lets m t ht).2.1]at hl;cases hl
 ·rw[h.q0 k ln hk]at hi;cases hi
 ·rw[h.q0 k ln hk]at hm;cases hm
 ·have h1:jG s=0:=yi _ fun k ln hk=>by rw[h.q0 k ln hk];rfl
  have h2:iZ s=0:=yi _ fun p qs hp=>by rw[h.l0 p qs hp];rfl
  have h3:fR s=0:=xw _ fun m t ht=>(h.lets m t ht).1
  rw[h1,h2,h3];rfl
theorem JK.post {a:YA}{s:YS}(h:JK a s){x y:Nat}{l u:Int}(hx:x < a.n)(hy:y < a.n)(hl:0 <= l/\l <= 60):JK a (i3 s x y l u):=by
 refine⟨h.lanes,h.lies,h.q0,h.l0,fun m t ht=>?_,fun d hd z hz=>?_⟩
 ·have ht:(s.U ++ [⟨(x:Int),(y:Int),l,u,0,[]⟩])[m]? = some t:=ht
  by_cases hm:m < s.U.length
  ·rw[List.getElem?_append_left hm]at ht;exact h.lets m t ht
  ·have h3:=(List.getElem?_eq_some_iff.mp ht).1
   rw[length_append,length_singleton]at h3
   have em:m=s.U.length:=by omega
   subst em
   rw[List.getElem?_concat_length]at ht
   cases ht
   exact⟨rfl,rfl,hl.1,hl.2,x,y,rfl,rfl,hx,hy⟩
 ·rcases mem_append.mp hd with hd | hd
  ·exact h.done d hd z hz
  ·rw[mem_singleton.mp hd]at hz
   simp only[mem_cons,not_mem_nil,or_false]at hz
   rcases hz with rfl | rfl | rfl | rfl | rfl
   ·exact .inr ⟨_,rfl,by decide +kernel⟩
   ·exact .inl ⟨_,rfl⟩
   ·exact .inl ⟨_,rfl⟩
   ·exact .inl ⟨_,rfl⟩
   ·exact .inl ⟨_,rfl⟩
theorem qM {n a b:Nat}{wy:Wf}{m:Nat}{l u:Int}(ha:a < n)(hb:b < n)(hl:1 <= l/\l <= 60)(hu:J6 (.int u)=true)(Ht:a ≠ b)(hw:wy a b none ≠ [])(hm:m < 60):ld n wy m (.int a) (.int b) (.int l) (.int u) = .good:=by
 unfold ld
 rw[show jT (.int (a:Int)) 0 ((n:Int) - 1)=true from decide_eq_true (by omega),show jT (.int (b:Int)) 0 ((n:Int) - 1)=true from decide_eq_true (by omega),show jT (.int l) 1 60=true from decide_eq_true hl,hu,if_neg (by decide),if_neg (by decide),if_neg (by decide)]
 rw[if_neg (by
  rintro (h | h)
  ·have h:(a:Int)=(b:Int):=h
   omega
  ·have h:wy ((a:Int)).toNat ((b:Int)).toNat none=[]:=h
   rw[toNat_natCast,toNat_natCast]at h
   exact hw h),if_neg (by omega)]
noncomputable def jR (p:Int × Int):PyData := .tuple [.int p.1, .int p.2]
theorem j7 {K:Frag}{H:Hp}:∀ {vs:List V}{ps:List (Int × Int)},AB H vs ps->hZ K H vs (ps.map jR):=fun Af=>by
 induction Af with
 | nil=>exact .nil
 | cons zz r ih=>obtain⟨t,e,h⟩:=zz;exact .cons (by subst e;exact .tup (An.of h) (.cons (.int _) (.cons (.int _) .nil))) ih
theorem qH (ps:List (Int × Int)):BX (.list (ps.map jR)) 64:=(bN (m:=1) fun z hz=>by
 obtain⟨p,_,rfl⟩:=mem_map.mp hz
 exact dG (m:=0) fun y hy=>by
  simp only[mem_cons,not_mem_nil,or_false]at hy
  rcases hy with rfl | rfl<;>exact bR _).le (by decide)
theorem pH (ms:List Mv):BX (.list (ms.map qZ)) 64:=(bN (m:=1) fun z hz=>by
 obtain⟨m,_,rfl⟩:=mem_map.mp hz
 exact ia m).le (by decide)
theorem FP:BX (.list []) 64:=(bN (m:=0) fun z hz=>by cases hz).le (by decide)
theorem wX {α:Type}(f:α->PyData)(l:List α):PyData.eqv (.list (l.map f)) (.list [])=l.isEmpty:=by
 cases l<;>simp[PyData.eqv,PyData.eqvAll]
theorem neN {K:Frag}{x y:V}{H:Hp}{Q:VK}{α:Type}{f:α->PyData}{l:List α}(h1:iS K H x (.list (l.map f)))(h2:iS K H y (.list []))(s:BX (.list (l.map f)) 64)(q:Q (.bl (!l.isEmpty)) H):yE K x y H Q :=
 ⟨_,_,h1,h2,s.shaped (le_refl _),FP.shaped (le_refl _),by rw[wX];exact q⟩
theorem sO {ex:List Addr}{H H1 H2:Hp}(s:Ab H H1)(o:Ai ex H1 H2)(hn:∀ b ∈ ex,H b=none):Ab H H2:=fun b u e=>o b _ (fun z=>by rw[hn b z]at e;cases e) (s b u e)
noncomputable def vD:V->PyData
 | .int i => .int i
 | .str t => .str t
 | _ => .none
noncomputable def vJ (m:List V):PyData := .tuple (m.map vD)
theorem qo {K:Frag}{H:Hp}:∀ {m:List V},(∀ x ∈ m,vm x)->hZ K H m (m.map vD)
 | [],_ => .nil
 | x :: m,h=>by
  refine .cons ?_ (qo fun y hy=>h y (mem_cons_of_mem _ hy))
  rcases h x mem_cons_self with ⟨i,rfl⟩ | ⟨t,rfl,_⟩
  ·exact .int i
  ·exact .str t
theorem k9 {K:Frag}{H:Hp}:∀ {vs:List V}{ms:List (List V)},Paired (Bc H) vs ms->(∀ m ∈ ms,∀ x ∈ m,vm x)->hZ K H vs (ms.map vJ)
 | _,_, .nil,_ => .nil
 | _,_, .cons ⟨t,e,h⟩ r,hm=>by
  subst e
  exact .cons (.tup (An.of h) (qo (hm _ mem_cons_self))) (k9 r fun m Fg=>hm m (mem_cons_of_mem _ Fg))
theorem Bn.done {a:YA}{s:YS}(J:Bn a s)(d:List (List V)):Bn a { s with done:=d }:=⟨J.lanes,J.lies,J.Bd,J.Eg,J.lets,J.Bm,J.Bl,J.Cc,J.Bj,J.last,J.head,J.first,J.Dt,J.sum⟩
theorem SU {a:YA}{Aw:List V}(h:Aw.length=a.ps.length):JK a (Y0 Aw a.n):=by
 refine⟨by show(Aw.map rf).length=_;rw[length_map];exact h,by show(List.replicate a.n []).length=_;rw[length_replicate],fun k ln hk=>?_,fun p qs hp=>?_,fun m t ht=>?_,fun d hd=>?_⟩
 ·have hk:(Aw.map rf)[k]? = some ln:=hk
  rw[List.getElem?_map]at hk
  cases hr:Aw[k]? with
  | none=>rw[hr]at hk;cases hk
  | some v=>rw[hr]at hk;cases hk;rfl
 ·have hp:(List.replicate a.n ([]:List (Int × Int)))[p]? = some qs:=hp
  exact eq_of_mem_replicate (mem_of_getElem? hp)
 ·have ht:([]:List cj)[m]? = some t:=ht
  cases ht
 ·have hd:d ∈ ([]:List (List V)):=hd
  cases hd
noncomputable def lim (xs:List Nat)(t:Nat):Nat:=if t=0 then 0 else xs.getD (t - 1) 0 + 1
theorem zq {xs:List Nat}(hs:xs.Pairwise (· < ·)){t p:Nat}(h:xs[t]? = some p):lim xs t <= p:=by
 unfold lim
 by_cases h0:t=0
 ·rw[if_pos h0];omega
 ·rw[if_neg h0]
  obtain⟨ht,e⟩:=List.getElem?_eq_some_iff.mp h
  have h1:=pairwise_iff_getElem.mp hs (t - 1) t (by omega) ht (by omega)
  rw[getD_eq_getElem?_getD,List.getElem?_eq_getElem (by omega)]
  rw[e]at h1
  exact h1
theorem uG {xs:List Nat}{t p:Nat}(h:xs[t]? = some p):lim xs (t + 1)=p + 1:=by
 unfold lim
 rw[if_neg (by omega),Nat.add_sub_cancel,getD_eq_getElem?_getD,h];rfl
theorem wP {xs:List Nat}(h:∀ p ∈ xs,p < 100):lim xs xs.length <= 100:=by
 unfold lim
 by_cases h0:xs.length=0
 ·rw[if_pos h0];omega
 ·rw[if_neg h0,getD_eq_getElem?_getD,List.getElem?_eq_getElem (show xs.length - 1 < xs.length by omega)]
  exact h _ (getElem_mem _)
end K61
namespace L2
open PySem
theorem Ac.ex {P:Program}{w:World}{K:Frag}{mg:Str->Option Value}{base:Heap}{CX:lD}{k:Nat}{f:Addr}{fd:FuncData}{ps:List Str} {ι:Type} {sp:ι->Sp} (h:∀ i,Ac P w K mg base CX k f fd ps (sp i)):Ac P w K mg base CX k f fd ps (fun vs H Q E=>∃ i,sp i vs H Q E) :=
 ⟨fun vs H Q E Af=>by obtain⟨i,q⟩:=Af;exact(h i).len vs H Q E q,fun A outer s H args us vs Q E hr he hb hv Af=>by obtain⟨i,hs⟩:=Af;exact(h i).run A outer s H args us vs Q E hr he hb hv hs⟩
end L2
namespace K61
open PySem L2
variable {P:Program}{w:World}{K:Frag}{mg:Str->Option Value}{base:Heap}
noncomputable def bB (ps:List (Int × Int))(p:Nat):List (Option Nat):=none :: (eG Prod.snd ps (p:Int)).map some
theorem xf (ps:List (Int × Int))(p:Nat):[V.Av] ++ bL (eG Prod.snd ps (p:Int))=(bB ps p).map cV:=by
 unfold bB bL
 rw[map_cons,map_map];rfl
theorem oV (ps:List (Int × Int))(p:Nat):((bB ps p).map vi).Pairwise (· < ·):=by
 unfold bB
 rw[map_cons,map_map,pairwise_cons]
 refine⟨fun x hx=>?_,?_⟩
 ·obtain⟨k,_,rfl⟩:=mem_map.mp hx
  show 0 < k + 1
  omega
 ·refine List.Pairwise.map _ (fun a b h=>?_) (List.Pairwise.filter _ pairwise_lt_range)
  show a + 1 < b + 1
  omega
theorem kB {ps:List (Int × Int)}{p:Nat}{cc:Option Nat}(h:cc ∈ bB ps p):vi cc <= ps.length/\∀ k,cc=some k->k ∈ eG Prod.snd ps (p:Int):=by
 rcases mem_cons.mp h with rfl | h
 ·exact⟨zero_le _,fun k e=>by cases e⟩
 ·obtain⟨k,hk,rfl⟩:=mem_map.mp h
  refine⟨?_,fun k' e=>by cases e;exact hk⟩
  have:=mem_range.mp (mem_filter.mp hk).1
  show k + 1 <= _
  omega
noncomputable def si:Sp:=fun vs H Q _=>∃ (l:Addr)(Ap:List V)(ps:List (Int × Int))(n:Nat)(cl:Int),vs=[.int n, .ref l, .int cl]/\H l=some (.lst Ap)/\AB H Ap ps/\(∀ p ∈ ps,jp n p=true)/\ps.length <= 10/\2 <= n/\n <= 5 /\
 ∀ (D:Addr)(Aw:List V)(rs:List Rw)(H':Hp),Ab H H'->H D=none->H' D=some (.lst Aw)->DA H' Aw rs->DR n ps 50000 rs->Q (.ref D) H'
noncomputable abbrev P0:List Str:=["_law_places", "_law_lanes_here", "_law_cell", "_law_rows_here", "_law_place", "_law_out", "_law_cames", "_law_goal", "_law_came", "_law_draw", "_law_ways"]
noncomputable def zU (s:Stmt):Scope:=match s with
 | .Assign _ (.BinOp _ _ (.ListComp _ _ sc _) _) _=>sc
 | _=>{ kind := .function,names:=[],isGenerator:=false,isCoroutine:=false }
noncomputable def lf:List Stmt:=oR (qW (aE jg) 1)
noncomputable def wU:List Stmt:=oR (qW (oR (qW lf 2)) 0)
theorem B9:ao P0 ["_law_places", "_law_lanes_here", "_law_cell"] (ah jg):=L2.AG
theorem Nc:Bv P0 (ah jg) (vb (qW lf 0)) ["_law_lanes_here", "_law_place"] [1,4]:=L2.Cu
theorem Nd:Bv P0 (ah jg) (zU (qW lf 1)) ["_law_lanes_here", "_law_place"] [1,4]:=L2.Cu
theorem Nf:Bv P0 (ah jg) (vb (qW wU 1)) ["_law_draw"] [9]:=L2.Cu
theorem xH:(["_law_lane", "_law_lanes_here", "_law_place"]:List Str).Nodup:=by decide +kernel
theorem Ng:(["_law_lane", "_law_draw"]:List Str).Nodup:=by decide +kernel
theorem wk {f fm:Addr}{fd dm:FuncData}(F:AA K "_law_rows" "_law_rows" jg f fd)(T:dE mg)(mm:mg "_law_mixed" = some (.ref fm))(km:keepIn K (.ref fm)=true)(bm:Binds K dm ["_law_cell", "_law_k"] [])(Gm:Ac P w K mg base aC 1 fm dm ["_law_cell", "_law_k"] lK) :
  Ac P w K mg base aC 2 f fd ["_law_places", "_law_lanes_here", "_law_cell"] si:=by
 refine F.ok B9 (fun vs H Q E h=>?_) (fun cdv A outer s H vs Q E hr h=>?_)
 ·obtain⟨l,Ap,ps,n,cl,rfl,_⟩:=h
  rfl
 ·obtain⟨l,Ap,ps,n,cl,rfl,gl,FD,Aj,B4,En,IW,q⟩:=h
  refine⟨_,af (aA (i:=3) B9.nd rfl (Or.inl rfl) (aX ad))
   (af (bI PassesOwn.never rfl (aM rfl T.range (aa (pv 0) ad)) (ay (i:=4) B9.nd rfl (Or.inr rfl))
    (af (c8 (i:=5) (own:=["_law_lane"]) (capN:=["_law_lanes_here", "_law_place"]) (cap:=[1,4]) Nc rfl B9.nd rfl rfl (aM rfl T.range (aa (av aq rfl T.len PySem.boot_len (aa (pv 1) ad)) ad))
     (fun C s' H' fp=>⟨ay (i:=0) xH rfl (Or.inl rfl),cr (aw bC (ax (show oZ _ (kS K) from aF) (ax (show oZ _ (tJ K) from aL) (pv 1) (pv 0) (fun _ _=>rfl)) aj (fun _ _=>rfl)) (pv 2) (aB _)),pv 0⟩))
    (af (aA (i:=6) B9.nd rfl (Or.inl rfl) (aG yP (aX (aa cv ad)) (bA (own:=["_law_lane"]) (capN:=["_law_lanes_here", "_law_place"]) (cap:=[1,4]) Nd rfl (aM rfl T.range (aa (av aq rfl T.len PySem.boot_len (aa (pv 1) ad)) ad))
     (fun C s' H' fp=>⟨ay (i:=0) xH rfl (Or.inl rfl),cr (aw bC (ax (show oZ _ (kS K) from aF) (ax (show oZ _ (tJ K) from aL) (pv 1) (pv 0) (fun _ _=>rfl)) aj (fun _ _=>rfl)) (pv 2) (aB _)),pv 0⟩))))
    (ai (bI PassesOwn.never rfl (aM rfl T.range (aa (pv 0) ad)) (ay (i:=7) B9.nd rfl (Or.inl rfl))
     (ai (bI PassesOwn.never rfl (cb (pv 6)) (ay (i:=8) B9.nd rfl (Or.inl rfl))
      (af (aA (i:=9) B9.nd rfl (Or.inr rfl) (au Gm hr rfl mm km bm .nil ap (aa (pv 2) (aa (aG bT (aG bT (av aq rfl T.len PySem.boot_len (aa (pv 3) ad)) (aG jn aj (pv 4))) (aG jn aj (pv 7))) ad))))
      (af (c8 (i:=10) (own:=["_law_lane"]) (capN:=["_law_draw"]) (cap:=[9]) Nf rfl B9.nd rfl rfl (cb (pv 5))
       (fun C s' H' fp=>⟨ay (i:=0) Ng rfl (Or.inl rfl),cr (PW.pt (fK (aw bC (aG ua (aG tX (pv 1) (aG bT aj (pv 0))) aj) aj (aB _)) (e9 (aw bC (aG bG (pv 1) aj) aj (aB _))))),pv 0⟩))
      (ai (aP (aw jS (pv 4) (pv 7) (aB _))
       (ai (aN (cu plainAttrs_list PySem.F.slot_list_append PySem.F.type_list_append bD (pv 3) (aa (bJ (aa (pv 4) (aa (pv 7) (aa (pv 8) (aa (pv 10) ad))))) ad)))) aH)))))))))))
   (ai (ar (pv 3)))),?_⟩
  have Fm:Ap.length=ps.length:=Paired.length FD
  refine⟨zero_le _,fun D hD=>?_⟩
  have s0:=(Ab.refl H).new (o := .lst []) hD
  have g0:(upd H D (.lst [])) D=some (.lst []):=ac
  show dO 3 (V.ref D) _ _ _
  generalize upd H D (.lst [])=H0 at s0 g0 ⊢
  refine⟨_,rfl,(n:Int),rfl,by omega,by omega,?_⟩
  rw[toNat_natCast]
  refine bE (n:=n) (fun i σ H2=>∃ (a4 a5 a6 a7 a8 a9 ES:Option V)(Aw:List V)(rs:List Rw),Ab H H2/\H2 D=some (.lst Aw)/\C0 D H2 Aw rs/\DR n ps (i * 10000) rs/\σ=[some (.int n),some (.ref l),some (.int cl),some (.ref D),a4,a5,a6,a7,a8,a9,ES])
   ⟨none,none,none,none,none,none,none,[],[],s0,g0, .nil,⟨List.Pairwise.nil,(fun r hr=>by cases hr),(fun r hr=>by cases hr),(fun r hr=>by cases hr)⟩,rfl⟩ ?_ ?_
  rotate_left
  ·rintro σ H2 ⟨a4,a5,a6,a7,a8,a9,ES,Aw,rs,s2,g2,hR,hO,rfl⟩
   exact⟨_,rfl,q D Aw rs H2 s2 hD g2 hR.rws (hO.up (by omega))⟩
  rintro p σ H2 hpn ⟨a4,a5,a6,a7,a8,a9,ES,Aw,rs,s2,g2,hR,hO,rfl⟩
  rw[zero_add]
  have pick:∀ (sel:Int × Int->Int)(j:Nat)(Hx:Hp)(sx:Ab H Hx)(σ0:St),True:=fun _ _ _ _ _=>True.intro
  refine⟨_,rfl,l,_,rfl, .inl (Ah.of (s2 _ _ gl)),(Ap.length:Int),rfl,by omega,by omega,?_⟩
  rw[toNat_natCast,Fm]
  refine qv (sel:=Prod.fst) (ps:=ps) (pl:=(p:Int)) (by rw[sizeLine_eq];omega) (fun z acc N pr hpr h=>?_) (fun Ou Xv=>?_)
  ·obtain⟨v,hv,u,rfl,gu⟩:=AB.F6 FD hpr
   refine⟨_,rfl,_,rfl,l,Ap,_,_,rfl,rfl,Ah.of (s2 _ _ gl),ak hv,u,_,0,_,rfl,rfl,An.of (s2 _ _ gu),ak (j:=0) rfl,_,rfl,rfl,_,rfl,?_⟩
   rw[fU]
   cases hb:decide (pr.1=(p:Int)) with
   | true =>
    have BW:decide (Prod.fst pr=(p:Int))=true:=hb
    rw[BW]at h
    exact aK ⟨_,rfl,h⟩
   | false =>
    have BW:decide (Prod.fst pr=(p:Int))=false:=hb
    rw[BW]at h
    exact aI h
  have Xw:∀ sel:Int × Int->Int,(eG sel ps (p:Int)).length <= 10:=fun sel=>by
   have:=length_filter_le (fun k=>decide (sel (ps.getD k (0,0))=(p:Int))) (List.range ps.length)
   rw[length_range]at this
   unfold eG
   omega
  have u1:=(Ab.refl H2).new (o := .lst (bL (eG Prod.fst ps (p:Int)))) Xv
  have gO:(upd H2 Ou (.lst (bL (eG Prod.fst ps (p:Int))))) Ou=some (.lst (bL (eG Prod.fst ps (p:Int)))):=ac
  have nO:Ou ≠ D:=Ne.symm (ag g2 Xv)
  show dO 5 (V.ref Ou) _ (upd H2 Ou (.lst (bL (eG Prod.fst ps (p:Int))))) _
  generalize upd H2 Ou (.lst (bL (eG Prod.fst ps (p:Int))))=H3 at u1 gO ⊢
  have s3:=s2.trans u1
  refine⟨by show 1 <= sizeLine;decide,fun o1 ho1=>?_⟩
  have u2:=(Ab.refl H3).new (o := .lst [.Av]) ho1
  have SV:(upd H3 o1 (.lst [.Av])) o1=some (.lst [.Av]):=ac
  generalize upd H3 o1 (.lst [.Av])=H4 at u2 SV ⊢
  have s4:=s3.trans u2
  refine⟨_,rfl,l,_,rfl, .inl (Ah.of (s4 _ _ gl)),(Ap.length:Int),rfl,by omega,by omega,?_⟩
  rw[toNat_natCast,Fm]
  refine qv (sel:=Prod.snd) (ps:=ps) (pl:=(p:Int)) (by rw[sizeLine_eq];omega) (fun z acc N pr hpr h=>?_) (fun o2 BV=>?_)
  ·obtain⟨v,hv,u,rfl,gu⟩:=AB.F6 FD hpr
   refine⟨_,rfl,_,rfl,l,Ap,_,_,rfl,rfl,Ah.of (s4 _ _ gl),ak hv,u,_,1,_,rfl,rfl,An.of (s4 _ _ gu),ak (j:=1) rfl,_,rfl,rfl,_,rfl,?_⟩
   rw[fU]
   cases hb:decide (pr.2=(p:Int)) with
   | true =>
    have BW:decide (Prod.snd pr=(p:Int))=true:=hb
    rw[BW]at h
    exact aK ⟨_,rfl,h⟩
   | false =>
    have BW:decide (Prod.snd pr=(p:Int))=false:=hb
    rw[BW]at h
    exact aI h
  have u3:=(Ab.refl H4).new (o := .lst (bL (eG Prod.snd ps (p:Int)))) BV
  have go2:(upd H4 o2 (.lst (bL (eG Prod.snd ps (p:Int))))) o2=some (.lst (bL (eG Prod.snd ps (p:Int)))):=ac
  have Nh:(upd H4 o2 (.lst (bL (eG Prod.snd ps (p:Int))))) o1=some (.lst [.Av]):=by rw[ae (ag SV BV)];exact SV
  generalize upd H4 o2 (.lst (bL (eG Prod.snd ps (p:Int))))=H5 at u3 go2 Nh ⊢
  have OR:=Xw Prod.snd
  refine⟨o1,o2,_,_,rfl,rfl,Nh,go2,by unfold bL;rw[length_map,sizeLine_eq];simp only[length_singleton];omega,fun C hC=>?_⟩
  rw[xf]
  have u4:=(Ab.refl H5).new (o := .lst ((bB ps p).map cV)) hC
  have gC:(upd H5 C (.lst ((bB ps p).map cV))) C=some (.lst ((bB ps p).map cV)):=ac
  have Xx:Ab H2 H5:=u1.trans (u2.trans u3)
  have nC:C ≠ D:=Ne.symm (ag (Xx _ _ g2) hC)
  show dO 6 (V.ref C) _ (upd H5 C (.lst ((bB ps p).map cV))) _
  generalize upd H5 C (.lst ((bB ps p).map cV))=H6 at u4 gC ⊢
  have SW:=Xx.trans u4
  have gO6:=u4 _ _ (u3 _ _ (u2 _ _ gO))
  refine⟨_,rfl,(n:Int),rfl,by omega,by omega,?_⟩
  rw[toNat_natCast]
  refine bE (n:=n) (fun i σ H7=>∃ (a7 a8 a9 ES:Option V)(Aw:List V)(rs:List Rw),Ab H H7/\H7 D=some (.lst Aw)/\H7 Ou=some (.lst (bL (eG Prod.fst ps (p:Int))))/\H7 C=some (.lst ((bB ps p).map cV))/\C0 D H7 Aw rs/\DR n ps ((p * 100 + i) * 100) rs/\σ=[some (.int n),some (.ref l),some (.int cl),some (.ref D),some (.int (p:Int)),some (.ref Ou),some (.ref C),a7,a8,a9,ES])
   ⟨_,_,_,_,Aw,rs,s2.trans SW,SW _ _ g2,gO6,gC,hR.same SW,hO.up (by omega),rfl⟩ ?_ ?_
  rotate_left
  ·rintro σ H7 ⟨a7,a8,a9,ES,Aw,rs,s7,g7,_,_,SX,SY,rfl⟩
   exact⟨_,_,_,_,_,_,_,Aw,rs,s7,g7,SX,SY.up (by omega),rfl⟩
  rintro i σ H7 hi ⟨a7,a8,a9,ES,Aw,rs,s7,g7,gO7,Xy,SX,SY,rfl⟩
  rw[zero_add]
  refine⟨_,rfl,C,rfl,⟨_,Ah.of Xy⟩,?_⟩
  have D7:((bB ps p).map cV).length=(bB ps p).length:=length_map ..
  refine gR (K:=K) (a:=C) (xs:=(bB ps p).map cV) (fun j σ Hb=>∃ (a8 a9 ES:Option V)(Aw:List V)(rs:List Rw),Ab H Hb/\Hb D=some (.lst Aw)/\Hb Ou=some (.lst (bL (eG Prod.fst ps (p:Int))))/\Hb C=some (.lst ((bB ps p).map cV))/\C0 D Hb Aw rs/\DR n ps ((p * 100 + i) * 100 + lim ((bB ps p).map vi) j) rs/\σ=[some (.int n),some (.ref l),some (.int cl),some (.ref D),some (.int (p:Int)),some (.ref Ou),some (.ref C),some (.int (i:Int)),a8,a9,ES])
   ⟨_,_,_,Aw,rs,s7,g7,gO7,Xy,SX,SY.up (by omega),rfl⟩ (fun j σ Hb _ Af=>by obtain⟨_,_,_,_,_,_,_,_,g,_⟩:=Af;exact Ah.of g) ?_ ?_
  rotate_left
  ·rintro σ Hb ⟨a8,a9,ES,Aw,rs,sb,gb,IX,P2,Ni,JL,rfl⟩
   rw[D7,← length_map (f:=vi) (as:=bB ps p)]at JL
   have:=wP (xs:=(bB ps p).map vi) fun x hx=>by
    obtain⟨cc,Jq,rfl⟩:=mem_map.mp hx
    have:=(kB Jq).1
    omega
   exact⟨_,_,_,_,Aw,rs,sb,gb,IX,P2,Ni,JL.up (by omega),rfl⟩
  rintro j v σ Hb hv ⟨a8,a9,ES,Aw,rs,sb,gb,IX,P2,Ni,JL,rfl⟩
  obtain⟨cc,hcj,rfl⟩:∃ cc,(bB ps p)[j]? = some cc/\cV cc=v:=by
   rw[List.getElem?_map]at hv
   cases hx:(bB ps p)[j]? with
   | none=>rw[hx]at hv;cases hv
   | some cc=>rw[hx]at hv;exact⟨cc,rfl,Option.some.inj hv⟩
  obtain⟨hcl2,Ta⟩:=kB (mem_of_getElem? hcj)
  have Nj:((bB ps p).map vi)[j]? = some (vi cc):=by rw[List.getElem?_map,hcj];rfl
  have hlp:=zq (oV ps p) Nj
  have hls:=uG Nj
  have DB:Aw.length=rs.length:=Paired.length Ni
  have hrm:=JL.len
  refine⟨_,rfl,_,rfl,D,_,rfl, .inl (Ah.of gb),_,rfl,_,_,rfl,rfl, .inl ⟨by decide,by decide⟩,_,_,rfl,rfl,_,rfl,_,_,rfl,rfl, .inl ⟨by decide,by decide⟩,_,_,rfl,rfl,cl,Aw.length + 100 * p + 10 * i,?_,by omega,fun d hd=>?_⟩
  ·show [V.int cl,V.int (((Aw.length:Nat):Int) + 100 * (p:Int) + 10 * (i:Int))] ++ []=_
   rw[show((Aw.length + 100 * p + 10 * i:Nat):Int)=((Aw.length:Nat):Int) + 100 * (p:Int) + 10 * (i:Int) by omega];rfl
  obtain⟨m,rfl⟩:∃ m:Nat,d=(m:Int):=⟨d.toNat,by omega⟩
  generalize Nk:eG Prod.fst ps (p:Int)=out at IX ⊢
  have Ij:out.length <= 10:=by rw[← Nk];exact Xw _
  refine⟨_,rfl,Ou,rfl,⟨_,Ah.of IX⟩,?_⟩
  refine rC (fun k=>m.testBit (3 + k) || decide ((m:Int) % 3=0)) (by rw[sizeLine_eq];omega) (Ah.of IX) (fun k acc N hk h=>?_) (fun Wa Tc=>?_)
  ·refine⟨_,rfl,_,rfl,_,_,rfl,rfl,_,_,rfl,rfl,(show (0:Int) <= 3 + (k:Int) by omega),_,_,rfl,rfl,rfl,_,rfl,?_⟩
   dsimp only
   rw[show (3:Int) + (k:Int)=((3 + k:Nat):Int) by omega,SS]
   cases hb:m.testBit (3 + k) with
   | true=>rw[hb,Bool.true_or]at h;exact aK (aK ⟨_,rfl,h⟩)
   | false =>
    rw[hb,Bool.false_or]at h
    refine aI ⟨_,rfl,_,_,rfl,rfl,(by show (0:Int) < 3;decide),rfl,_,rfl,?_⟩
    rw[fU]
    cases GJ:decide ((m:Int) % 3=0) with
    | true=>rw[GJ]at h;exact aK ⟨_,rfl,h⟩
    | false=>rw[GJ]at h;exact aI h
  generalize OK:(out.filter fun k=>m.testBit (3 + k) || decide ((m:Int) % 3=0))=us at Tc ⊢
  have husl:us.length <= 10:=by rw[← OK];exact le_trans (length_filter_le _ _) Ij
  have Td:∀ k ∈ us,k ∈ out:=fun k hk=>by rw[← OK]at hk;exact(mem_filter.mp hk).1
  have u5:=(Ab.refl Hb).new (o := .lst (bL us)) Tc
  have gW:(upd Hb Wa (.lst (bL us))) Wa=some (.lst (bL us)):=ac
  have nW:Wa ≠ D:=Ne.symm (ag gb Tc)
  show dO 10 (V.ref Wa) _ (upd Hb Wa (.lst (bL us))) _
  generalize upd Hb Wa (.lst (bL us))=Hc at u5 gW ⊢
  refine⟨_,rfl,_,rfl,rfl,_,rfl,?_⟩
  rw[fU]
  by_cases Te:(p:Int)=(i:Int)
  ·rw[decide_eq_true Te]
   exact aI ⟨_,_,_,Aw,rs,sb.trans u5,u5 _ _ gb,u5 _ _ IX,u5 _ _ P2,Ni.same u5,JL.up (by omega),rfl⟩
  rw[decide_eq_false Te]
  refine aK ⟨_,rfl, .inl ⟨rfl,_,Ah.of (u5 _ _ gb)⟩,_,rfl,_,rfl,_,rfl,_,rfl,by show 4 <= sizeLine;decide,fun tt Fc=>?_⟩
  have u6:=u5.new (o := .tup [.int (p:Int), .int (i:Int),cV cc, .ref Wa]) Fc
  have gT:(upd Hc tt (.tup [.int (p:Int), .int (i:Int),cV cc, .ref Wa])) tt=some (.tup [.int (p:Int), .int (i:Int),cV cc, .ref Wa]):=ac
  have Xz:(upd Hc tt (.tup [.int (p:Int), .int (i:Int),cV cc, .ref Wa])) Wa=some (.lst (bL us)):=by rw[ae (ag gW Fc)];exact gW
  generalize upd Hc tt (.tup [.int (p:Int), .int (i:Int),cV cc, .ref Wa])=Hf at u6 gT Xz ⊢
  have X0:=u6 _ _ gb
  refine⟨D,Aw,_,rfl,rfl,X0,by rw[sizeLine_eq];omega,?_⟩
  have Tf:eJ n ps ⟨(p:Int),(i:Int),cc,us⟩ = true:=by
   unfold eJ
   have ho:jp n ((p:Int),(i:Int))=true:=by
    unfold jp
    simp only[Bool.and_eq_true,decide_eq_true_eq,Bool.not_eq_true',decide_eq_false_iff_not]
    exact⟨⟨by omega,by omega⟩,⟨by omega,by omega⟩,Te⟩
   rw[ho,Bool.true_and]
   have hs:(us.all fun z=>decide (z ∈ eG Prod.fst ps (p:Int)))=true:=by
    rw[all_eq_true]
    exact fun z hz=>decide_eq_true (by rw[Nk];exact Td z hz)
   dsimp only
   rw[hs,Bool.and_true]
   cases cc with
   | none=>rfl
   | some k=>exact decide_eq_true (Ta k rfl)
  have X6:tG ⟨(p:Int),(i:Int),cc,us⟩ = (p * 100 + i) * 100 + vi cc:=by
   unfold tG
   show(((p:Int)).toNat * 100 + ((i:Int)).toNat) * 100 + vi cc=_
   rw[toNat_natCast,toNat_natCast]
  have hOn:=JL.snoc (r:=⟨(p:Int),(i:Int),cc,us⟩) (by rw[X6];omega) Tf (by show us.length <= 40;omega)
  refine⟨_,_,_,Aw ++ [.ref tt],rs ++ [⟨(p:Int),(i:Int),cc,us⟩],fun b o e=>by rw[ae (ag e hD)];exact u6 _ _ (sb _ _ e),ac,?_,?_,?_,hOn.up (by rw[X6,hls];omega),rfl⟩
  ·rw[ae nO];exact u6 _ _ IX
  ·rw[ae nC];exact u6 _ _ P2
  ·have hRf:=C0.snoc (r:=⟨(p:Int),(i:Int),cc,us⟩) ⟨tt,Wa,rfl,⟨gT,Xz⟩,nW⟩ (Ni.same u6)
   exact C0.off X0 hRf
noncomputable def TC (ts:Ts)(tn:n0):Bool->Addr
 | true=>tn.near
 | false=>ts.told
noncomputable def JJ (P:Program)(w:World)(ts:Ts)(tn:n0):Bool->TJ
 | true=>JH P w tn
 | false=>CA P w ts
noncomputable def okE (n:Nat)(e:Nat × Nat):jp n (zp e)=true↔(e.1 < n/\e.2 < n/\e.1 ≠ e.2):=by
 unfold jp zp
 simp only[Bool.and_eq_true,decide_eq_true_eq,Bool.not_eq_true',decide_eq_false_iff_not]
 constructor
 ·rintro⟨⟨h1,h2⟩,⟨h3,h4⟩,h5⟩;exact⟨by omega,by omega,fun z=>h5 (by rw[z])⟩
 ·rintro⟨h1,h2,h3⟩;exact⟨⟨by omega,by omega⟩,⟨by omega,by omega⟩,by omega⟩
noncomputable def xM (n:Nat)(kvs:List dC):Wf:=fun p g k=>if p < n/\g < n then Nb kvs p g k else []
theorem rM {n:Nat}{es:Es}{kvs:List dC}(h:nv n es kvs n)(p g:Nat)(k:Option Nat):(∀ z ∈ xM n kvs p g k,z < es.length)/\(xM n kvs p g k).length <= es.length:=by
 have h1:∀ z ∈ xM n kvs p g k,z < es.length:=fun z hz=>by
  unfold xM at hz
  by_cases JM:p < n/\g < n
  ·rw[if_pos JM]at hz;exact xN h JM.2 hz
  ·rw[if_neg JM]at hz;cases hz
 refine⟨h1,dJ _ _ ?_ h1⟩
 unfold xM
 by_cases JM:p < n/\g < n
 ·rw[if_pos JM];exact mF _
 ·rw[if_neg JM];exact nodup_nil
noncomputable def sC (P:Program)(w:World)(K:Frag)(c:Cs)(ts:Ts)(tn:n0):Sp:=fun vs H Q _=>∃ (sc:Addr)(ns:List Int),vs=[.ref sc]/\Ah K H sc (ns.map V.int) /\
 ∀ (b:Bool)(x lx AF lt:Addr)(n:Nat)(Ao:List V)(ps:List (Int × Int))(wy:Wf)(H':Hp),Ab H H'->H x=none->AO c (TC ts tn b) (JJ P w ts tn b) H' x lx AF lt n Ao ps wy->(∀ p g k,(wy p g k).length <= 400)->(∀ p ∈ ps,jp n p=true)->ps.length <= 8->2 <= n->n <= 5->Q (.ref x) H'
structure TbM (P:Program)(w:World)(K:Frag)(mg:Str->Option Value)(base:Heap)(c:Cs)(ts:Ts)(tn:n0)(fc fl fi fn ft fr:Addr)(dc dl di dn dt dr:FuncData):Prop where
 mc:mg "_law_cell_at" = some (.ref fc)
 kc:keepIn K (.ref fc)=true
 bc:Binds K dc ["_law_script", "_law_k"] []
 Gc:Ac P w K mg base aC 1 fc dc ["_law_script", "_law_k"] (nY K)
 ml:mg "_law_lanes" = some (.ref fl)
 kl:keepIn K (.ref fl)=true
 bl:Binds K dl ["_law_places", "_law_amount", "_law_cell"] []
 Gl:Ac P w K mg base aC 2 fl dl ["_law_places", "_law_amount", "_law_cell"] p9
 mi:mg "Land" = some (.ref c.land)
 Mi:Mk K c.land fi
 bi:Binds K di ["self", "places", "lanes"] []
 Gi:Ac P w K mg base (dR P w) 4 fi di ["self", "places", "lanes"] (sE K c)
 mn:mg "Nearer" = some (.ref tn.near)
 Mn:Mk K tn.near fn
 bn:Binds K dn ["self", "land"] []
 Gn:Ac P w K mg base aC 3 fn dn ["self", "land"] (sr P w c tn)
 mt:mg "Told" = some (.ref ts.told)
 Mt:Mk K ts.told ft
 bt:Binds K dt ["self", "land", "rows"] []
 Gt:Ac P w K mg base (dR P w) 5 ft dt ["self", "land", "rows"] (sd P w K c ts)
 mr:mg "_law_rows" = some (.ref fr)
 kr:keepIn K (.ref fr)=true
 br:Binds K dr ["_law_places", "_law_lanes_here", "_law_cell"] []
 Gr:Ac P w K mg base aC 2 fr dr ["_law_places", "_law_lanes_here", "_law_cell"] si
noncomputable def iL (a:YA)(ps:List (Int × Int)):Prop:=∀ p ∈ ps,∃ x y:Nat,p=((x:Int),(y:Int))/\x < a.n/\y < a.n/\x ≠ y/\a.wy x y none ≠ []
noncomputable def pE (c:Cs)(C:Addr)(J:TJ):Sp:=fun vs H Q _=>∃ (a:YA),vs=[.ref a.tb]/\vk c C J H a/\∀ (D:Addr)(Bo:List V)(bs:List (Int × Int))(H':Hp),Ab H H'->H D=none->H' D=some (.lst Bo)->AB H' Bo bs->iL a bs->bs.length <= 1000->Q (.ref D) H'
noncomputable def lL (c:Cs)(C:Addr)(J:TJ):Sp:=fun vs H Q _=>∃ (a:YA)(cl:Int),vs=[.ref a.tb, .int cl]/\vk c C J H a/\∀ (D:Addr)(rs:List Int)(H':Hp),Ab H H'->H D=none->H' D=some (.lst (rs.map V.int))->rs.length=a.ps.length->(∀ r ∈ rs,1 <= r/\r <= 60)->Q (.ref D) H'
theorem FQ:ao ["_law_script", "_law_places", "_law_lanes_here", "_law_land"] ["_law_script"] (ah t7):=L2.AG
theorem wz {c:Cs}{ts:Ts}{tn:n0}{f fc fl fi fn ft fr:Addr}{fd dc dl di dn dt dr:FuncData}(F:AA K "_law_table" "_law_table" t7 f fd)(M:TbM P w K mg base c ts tn fc fl fi fn ft fr dc dl di dn dt dr) :
  Ac P w K mg base aC 7 f fd ["_law_script"] (sC P w K c ts tn):=by
 refine F.ok FQ (fun vs H Q E h=>?_) (fun cdv A outer s H vs Q E hr h=>?_)
 ·obtain⟨sc,ns,rfl,_⟩:=h
  rfl
 ·obtain⟨sc,ns,rfl,hS,q⟩:=h
  have Bb:Al 1 _:=hr.mono (by decide)
  have Bw:Al 2 _:=hr.mono (by decide)
  have Dn:Al 4 _:=hr.mono (by decide)
  have HD:Al 5 _:=hr.mono (by decide)
  refine⟨_,af (aA (i:=1) FQ.nd rfl (Or.inl rfl) (aG bT aj (aG bG (au M.Gc Bb rfl M.mc M.kc M.bc .nil ap (aa (pv 0) (aa aj ad))) aj)))
   (af (aA (i:=2) FQ.nd rfl (Or.inl rfl) (au M.Gl Bw rfl M.ml M.kl M.bl .nil ap (aa (pv 1) (aa (aG bG (aG fA (au M.Gc Bb rfl M.mc M.kc M.bc .nil ap (aa (pv 0) (aa aj ad))) aj) aj) (aa (au M.Gc Bb rfl M.mc M.kc M.bc .nil ap (aa (pv 0) (aa aj ad))) ad)))))
   (af (aA (i:=3) FQ.nd rfl (Or.inl rfl) (c4 M.Mi M.Gi HD rfl M.mi M.bi .nil eO (aa (pv 1) (aa (pv 2) ad))))
   (af (aP (aw bC (aG bG (au M.Gc Bb rfl M.mc M.kc M.bc .nil ap (aa (pv 0) (aa aj ad))) aj) aj (aB _)) (ai (ar (c4 M.Mn M.Gn Dn rfl M.mn M.bn .nil ap (aa (pv 3) ad)))) aH)
   (ai (ar (c4 M.Mt M.Gt hr rfl M.mt M.bt .nil eO (aa (pv 3) (aa (au M.Gr Bw rfl M.mr M.kr M.br .nil ap (aa (pv 1) (aa (pv 2) (aa (aG fA (au M.Gc Bb rfl M.mc M.kc M.bc .nil ap (aa (pv 0) (aa aj ad))) aj) ad)))) ad)))))))),?_⟩
  refine⟨_,rfl,sc,ns,0,rfl,hS,fun d0=>⟨_,_,rfl,rfl,(by show (0:Int) < 4;decide),_,_,rfl,rfl,?_⟩⟩
  obtain⟨n,hn,En,IW⟩:∃ n:Nat,(2:Int) + d0 % 4=(n:Int)/\2 <= n/\n <= 5:=⟨(2 + d0 % 4).toNat,by omega,by omega,by omega⟩
  dsimp only
  rw[hn]
  refine⟨_,rfl,_,rfl,sc,ns,0,rfl,hS,fun d1=>⟨_,_,rfl,rfl,⟨by decide,by decide⟩,_,_,rfl,rfl,(by show (0:Int) < 9;decide),_,rfl,sc,ns,1,rfl,hS,fun d2=>?_⟩⟩
  obtain⟨m,hm,hm9⟩:∃ m:Nat,d1 / 4 % 9=(m:Int)/\m < 9:=⟨(d1 / 4 % 9).toNat,by omega,by omega⟩
  refine⟨n,m,d2,by rw[← hm];rfl,En,by omega,by omega,fun l Ap es H1 s1 nl gl FD Cq Ct HE=>?_⟩
  have Fm:Ap.length=es.length:=by rw[Paired.length FD,length_map]
  have B4:(es.map zp).length=es.length:=length_map ..
  have Aj:∀ p ∈ es.map zp,jp n p=true:=fun p hp=>by
   obtain⟨e,he,rfl⟩:=mem_map.mp hp
   exact(okE n e).mpr ⟨(Cq e he).1,(Cq e he).2,Ct e he⟩
  have gd:=uQ (ps:=es.map zp) (n:=n) (by omega) (by omega) (by omega) Aj
  refine⟨_,rfl,_,rfl,fun xl Cb nx Mb Hg=>?_⟩
  have s2:Ab H1 (upd (upd H1 Cb (.own xl)) xl (.ins c.land Cb [])):=Ab.new (Ab.new (Ab.refl H1) Mb) (by rw[ae (Ne.symm Hg)];exact nx)
  refine⟨xl,Cb,(n:Int),l,Ap,_,rfl,ac,Ah.of (s2 _ _ gl),AB.same s2 FD,by omega,(fun h=>by rw[gd]at h;cases h),(fun k h=>by rw[gd]at h;cases h),(fun k h=>by rw[gd]at h;cases h),fun _ H3 lt Ao off hL=>⟨rfl,?_⟩⟩
  have s3:Ab H1 H3:=fun b o e=>off b o (ag e nx) (s2 _ _ e)
  have Fq:=s1.trans s3
  refine⟨_,rfl,sc,ns,2,rfl,Fq.seq hS,fun d3=>⟨_,_,rfl,rfl,(by show (0:Int) < 2;decide),rfl,_,rfl,?_⟩⟩
  cases hb:decide (V.int (d3 % 2)=V.int 0) with
  | true =>
   refine aK ⟨_,rfl,fun tb ET nt Tg Th=>?_⟩
   have s4:Ab H3 (upd (upd H3 ET (.own tb)) tb (.ins tn.near ET [])):=Ab.new (Ab.new (Ab.refl H3) Tg) (by rw[ae (Ne.symm Th)];exact nt)
   refine⟨tb,ET,xl,Cb,lt,Ao,n,es,rfl,ac,⟨s4 _ _ hL.1,s4 _ _ hL.2.1,AB.same s4 hL.2.2⟩,Cq,by omega,by omega,fun H5 de kvs Ti X7 hE=>⟨rfl,?_⟩⟩
   have s5:Ab H3 H5:=fun b o e=>Ti b o (ag e nt) (s4 _ _ e)
   refine q true tb xl Cb lt n Ao (es.map zp) (xM n kvs) H5 (Fq.trans s5) (Fq.free nt) ⟨⟨ET,xl,de,kvs,es,X7,hE,by omega,fun p g k hp hg=>by unfold xM;rw[if_pos ⟨hp,hg⟩]⟩,⟨ET,_,X7.1,rfl,rfl⟩,⟨s5 _ _ hL.1,s5 _ _ hL.2.1,AB.same s5 hL.2.2⟩,by omega,by omega,fun p g k _ _ z hz=>by rw[B4];exact(rM hE p g k).1 z hz⟩ (fun p g k=>by have:=(rM hE p g k).2;omega) Aj (by omega) En IW
  | false =>
   refine aI ⟨_,rfl,_,rfl,_,rfl,_,rfl,sc,ns,2,rfl,Fq.seq hS,fun d4=>⟨_,_,rfl,rfl,⟨by decide,by decide⟩,?_⟩⟩
   refine⟨l,Ap,es.map zp,n,_,rfl,s3 _ _ gl,AB.same s3 FD,Aj,by omega,En,IW,fun D Aw rs H4 s4 hD gD hR hO=>?_⟩
   have DB:Aw.length=rs.length:=Paired.length hR
   have hrm:=hO.len
   refine fun tb ET nt Tg Th=>?_
   have s6:Ab H4 (upd (upd H4 ET (.own tb)) tb (.ins ts.told ET [])):=Ab.new (Ab.new (Ab.refl H4) Tg) (by rw[ae (Ne.symm Th)];exact nt)
   have Tj:=s4.trans s6
   refine⟨tb,ET,xl,Cb,lt,D,(n:Int),Ao,Aw,es.map zp,rs,rfl,ac,⟨Tj _ _ hL.1,Tj _ _ hL.2.1,AB.same Tj hL.2.2⟩,Ah.of (s6 _ _ gD),DA.same s6 hR,by omega,by omega,fun r hr=>⟨fun k hk=>by have:=kj (hO.fit r hr) k hk;omega,by have:=hO.Bd r hr;omega⟩,(fun i e=>by rw[hO.good]at e;cases e),fun _ H7 de kvs Tn X8 hd7 hv7=>⟨rfl,?_⟩⟩
   have s7:Ab H4 H7:=fun b o e=>Tn b o (ag e nt) (s6 _ _ e)
   have P4:=s4.trans s7
   have FK:∀ r ∈ rs,∀ k ∈ r.s,k < (es.map zp).length:=fun r hr=>kj (hO.fit r hr)
   refine q false tb xl Cb lt n Ao (es.map zp) (JI rs) H7 (Fq.trans P4) (Fq.free (s4.free nt)) ⟨⟨ET,de,_,kvs,rs,X8,hd7,hv7,(fun r hr k hk=>by have:=FK r hr k hk;omega),rfl⟩,⟨ET,_,X8,rfl,rfl⟩,⟨P4 _ _ hL.1,P4 _ _ hL.2.1,AB.same P4 hL.2.2⟩,by omega,by omega,fun p g k _ _ z hz=>(rL FK p g k).1 z hz⟩ (fun p g k=>by have:=(rL FK p g k).2;omega) Aj (by omega) En IW
noncomputable abbrev NBg:List Str:=["_law_table_here", "_law_found", "_law_place", "_law_goal"]
theorem FR:ao NBg ["_law_table_here"] (ah oz):=L2.AG
theorem uu {c:Cs}{J:TJ}{C f fw:Addr}{fd dw:FuncData}(F:AA K "_law_begins" "_law_begins" oz f fd)(T:dE mg)(L:lC K c)(W:Wy K C fw dw J)(Gw:Ac P w K mg base aC 3 fw dw ["self", "place", "goal", "came"] (dY J)) :
  Ac P w K mg base aC 4 f fd ["_law_table_here"] (pE c C J):=by
 refine F.ok FR (fun vs H Q E h=>?_) (fun cdv A outer s H vs Q E hr h=>?_)
 ·obtain⟨a,rfl,_⟩:=h
  rfl
 ·obtain⟨a,rfl,hT,q⟩:=h
  have hu:=hr.units
  have hn:=hT.RB
  refine⟨_,af (aA (i:=1) FR.nd rfl (Or.inl rfl) (aX ad))
   (af (bI PassesOwn.never rfl (aM rfl T.range (aa (al (al (pv 0) rfl) rfl) ad)) (ay (i:=2) FR.nd rfl (Or.inl rfl))
    (ai (bI PassesOwn.never rfl (aM rfl T.range (aa (al (al (pv 0) rfl) rfl) ad)) (ay (i:=3) FR.nd rfl (Or.inl rfl))
     (ai (aP (iK (PW.pt (kT (aw jS (pv 2) (pv 3) (aB _)) (iJ (aw (yN hu) (aD (pv 0) W.cl W.m Gw hr W.b .nil ap (aa (pv 2) (aa (pv 3) (aa cv ad)))) (aX ad) (aB _))))))
      (ai (aN (cu plainAttrs_list PySem.F.slot_list_append PySem.F.type_list_append bD (pv 1) (aa (bJ (aa (pv 2) (aa (pv 3) ad))) ad)))) aH)))))
   (ai (ar (pv 1)))),?_⟩
  obtain⟨C5,fst,Cj,AM,B7⟩:=hT.i
  refine⟨zero_le _,fun D hD=>?_⟩
  have s0:=(Ab.refl H).new (o := .lst []) hD
  have g0:(upd H D (.lst [])) D=some (.lst []):=ac
  show dO 1 (V.ref D) _ _ _
  generalize upd H D (.lst [])=H0 at s0 g0 ⊢
  refine⟨_,rfl,a.tb,C,C5,fst,_,rfl,s0 _ _ Cj,W.cl,W.nl,AM,a.lx,c.land,a.AF,_,_,rfl,s0 _ _ hT.l.1,L.cl,L.np,rfl,(a.n:Int),rfl,by omega,by omega,?_⟩
  rw[toNat_natCast]
  refine bE (n:=a.n) (fun i σ H2=>∃ (a2 a3:Option V)(Bo:List V)(bs:List (Int × Int)),Ab H H2/\H2 D=some (.lst Bo)/\AB H2 Bo bs/\iL a bs/\bs.length <= i * 12/\σ=[some (.ref a.tb),some (.ref D),a2,a3])
   ⟨none,none,[],[],s0,g0, .nil,(fun p hp=>by cases hp),by show 0 <= _;omega,rfl⟩ ?_ ?_
  rotate_left
  ·rintro σ H2 ⟨a2,a3,Bo,bs,s2,g2,hL,hP,P5,rfl⟩
   exact⟨_,rfl,q D Bo bs H2 s2 hD g2 hL hP (by omega)⟩
  rintro i σ H2 hi ⟨a2,a3,Bo,bs,s2,g2,hL,hP,P5,rfl⟩
  rw[zero_add]
  refine⟨_,rfl,a.tb,C,C5,fst,_,rfl,s2 _ _ Cj,W.cl,W.nl,AM,a.lx,c.land,a.AF,_,_,rfl,s2 _ _ hT.l.1,L.cl,L.np,rfl,(a.n:Int),rfl,by omega,by omega,?_⟩
  rw[toNat_natCast]
  refine bE (n:=a.n) (fun j σ H3=>∃ (a3:Option V)(Bo:List V)(bs:List (Int × Int)),Ab H H3/\H3 D=some (.lst Bo)/\AB H3 Bo bs/\iL a bs/\bs.length <= i * 12 + j/\σ=[some (.ref a.tb),some (.ref D),some (.int (i:Int)),a3])
   ⟨_,Bo,bs,s2,g2,hL,hP,by omega,rfl⟩ ?_ ?_
  rotate_left
  ·rintro σ H3 ⟨a3,Bo,bs,s3,g3,CI,P6,hb3,rfl⟩
   exact⟨_,_,Bo,bs,s3,g3,CI,P6,by omega,rfl⟩
  rintro j σ H3 hj ⟨a3,Bo,bs,s3,g3,CI,P6,hb3,rfl⟩
  rw[zero_add]
  have hbl3:Bo.length=bs.length:=Paired.length CI
  refine⟨fun b H4=>Ab H3 H4/\b=decide (i ≠ j/\a.wy i j none ≠ []),?_,?_⟩
  ·refine⟨_,rfl,_,rfl,rfl,_,rfl,?_⟩
   rw[bK]
   by_cases X9:(i:Int)=(j:Int)
   ·rw[decide_eq_true X9]
    exact aI ⟨Ab.refl H3,by rw[decide_eq_false (fun z=>z.1 (by omega))]⟩
   ·rw[decide_eq_false X9]
    refine aK ⟨_,rfl,a.tb,C5,fst,rfl,s3 _ _ Cj,B7,_,rfl,_,rfl,a.tb,a.n,a.wy,i,j,none,rfl,(AO.keep W hT (Ab.Am s3)).j,hi,hj,fun Dw H4 s4 hDw XA=>⟨zero_le _,fun o7 HG=>?_⟩⟩
    have s5:=s4.new (o := .lst []) HG
    have Nl:(upd H4 o7 (.lst [])) Dw=some (.lst (nV (a.wy i j none))):=by rw[ae (ag XA HG)];exact XA
    have g7:(upd H4 o7 (.lst [])) o7=some (.lst (([]:List Int).map V.int)):=ac
    generalize upd H4 o7 (.lst [])=H5 at s5 Nl g7 ⊢
    refine⟨Dw,o7,iz (a.wy i j none),[],rfl,rfl,by rw[← pZ];exact Ah.of Nl,Ah.of g7,_,rfl,s5,?_⟩
    by_cases hw:a.wy i j none=[]
    ·rw[decide_eq_true (show iz (a.wy i j none)=[] by rw[hw];rfl),decide_eq_false (fun z=>z.2 hw)];rfl
    ·rw[decide_eq_false (show ¬ iz (a.wy i j none)=[] from fun z=>hw (by unfold iz at z;exact List.map_eq_nil_iff.mp z)),decide_eq_true ⟨by omega,hw⟩];rfl
  rintro b H4 ⟨s4,rfl⟩
  by_cases hw:i ≠ j/\a.wy i j none ≠ []
  ·rw[decide_eq_true hw]
   refine aK ⟨_,rfl, .inl ⟨rfl,_,Ah.of (s4 _ _ g3)⟩,_,rfl,_,rfl,by show 2 <= sizeLine;decide,fun t1 h1=>?_⟩
   have u1:=s4.new (o := .tup [.int (i:Int), .int (j:Int)]) h1
   have v1:(upd H4 t1 (.tup [.int (i:Int), .int (j:Int)])) t1=some (.tup [.int (i:Int), .int (j:Int)]):=ac
   generalize upd H4 t1 (.tup [.int (i:Int), .int (j:Int)])=H5 at u1 v1 ⊢
   have P7:=u1 _ _ g3
   have XB:Ax H5 (upd H5 D (.lst (Bo ++ [.ref t1]))):=mG P7
   refine⟨D,Bo,_,rfl,rfl,P7,by rw[sizeLine_eq];omega,?_⟩
   refine⟨_,Bo ++ [.ref t1],bs ++ [((i:Int),(j:Int))],fun b o e=>by rw[ae (ag e hD)];exact u1 _ _ (s3 _ _ e),ac,AB.snoc (p:=((i:Int),(j:Int))) ⟨t1,rfl,XB _ _ v1 True.intro⟩ (XB.DL (AB.same u1 CI)),fun p hp=>?_,by rw[length_append,length_singleton];omega,rfl⟩
   rcases mem_append.mp hp with hp | hp
   ·exact P6 p hp
   ·rw[mem_singleton.mp hp];exact⟨i,j,rfl,hi,hj,hw.1,hw.2⟩
  ·rw[decide_eq_false hw]
   exact aI ⟨_,Bo,bs,s3.trans s4,s4 _ _ g3,AB.same s4 CI,P6,by omega,rfl⟩
theorem Tp:ao ["_law_table_here", "_law_cell"] ["_law_table_here", "_law_cell"] (ah gB):=L2.AG
theorem Tq:Bv ["_law_table_here", "_law_cell"] (ah gB) (vK ((aE gB).getD 0 (.Pass ⟨0,0,0,0⟩))) ["_law_cell"] [1]:=L2.Cu
theorem Tt:(["_law_lane", "_law_cell"]:List Str).Nodup:=by decide +kernel
theorem qV {c:Cs}{J:TJ}{C f fw fm:Addr}{fd dw dm:FuncData}(F:AA K "_law_rooms" "_law_rooms" gB f fd)(T:dE mg)(L:lC K c)(W:Wy K C fw dw J)(mm:mg "_law_mixed" = some (.ref fm))(km:keepIn K (.ref fm)=true)(bm:Binds K dm ["_law_cell", "_law_k"] [])(Gm:Ac P w K mg base aC 1 fm dm ["_law_cell", "_law_k"] lK) :
  Ac P w K mg base aC 2 f fd ["_law_table_here", "_law_cell"] (lL c C J):=by
 refine F.ok Tp (fun vs H Q E h=>?_) (fun cdv A outer s H vs Q E hr h=>?_)
 ·obtain⟨a,cl,rfl,_⟩:=h
  rfl
 ·obtain⟨a,cl,rfl,hT,q⟩:=h
  have h40:=hT.Bd
  refine⟨_,ai (ar (bA (own:=["_law_lane"]) (capN:=["_law_cell"]) (cap:=[1]) Tq rfl (aM rfl T.range (aa (av aq rfl T.len PySem.boot_len (aa (al (al (pv 0) rfl) rfl) ad)) ad)) (fun C s' H' fp=>⟨ay (i:=0) Tt rfl (Or.inl rfl),ca,aG bT aj (aG bG (au Gm hr rfl mm km bm .nil ap (aa (pv 1) (aa (pv 0) ad))) aj)⟩))),?_⟩
  obtain⟨C5,fst,Cj,AM,B7⟩:=hT.i
  have Tu:a.Ao.length=a.ps.length:=Paired.length hT.l.2.2
  refine⟨_,rfl,a.tb,C,C5,fst,_,rfl,Cj,W.cl,W.nl,AM,a.lx,c.land,a.AF,_,_,rfl,hT.l.1,L.cl,L.nl,rfl,a.lt,_,rfl, .inr (An.of hT.l.2.1),((a.Ao.length:Nat):Int),rfl,by omega,by omega,?_⟩
  rw[toNat_natCast,Tu]
  refine bQ a.ps.length (by rw[sizeLine_eq];omega) (fun i acc H'=>H' = H/\∃ rs:List Int,acc=rs.map V.int/\rs.length=i/\∀ r ∈ rs,1 <= r/\r <= 60) ⟨rfl,[],rfl,rfl,fun r hr=>by cases hr⟩ (fun i acc H' h=>by obtain⟨_,rs,rfl,e,_⟩:=h;rw[length_map];omega) (fun i acc H' hi h=>?_) (fun acc H' h=>?_)
  ·obtain⟨rfl,rs,rfl,e,LF⟩:=h
   refine⟨hi,fun v H2 y=>?_⟩
   obtain⟨rfl,rfl⟩:=y
   rw[zero_add]
   refine⟨_,rfl,_,rfl,cl,i,rfl,by omega,fun d hd=>⟨_,_,rfl,rfl,(by show (0:Int) < 3;decide),_,_,rfl,rfl,rfl,rs ++ [1 + d % 3],by rw[map_append];rfl,by rw[length_append,e];rfl,fun r hr=>?_⟩⟩
   rcases mem_append.mp hr with hr | hr
   ·exact LF r hr
   ·rw[mem_singleton.mp hr];omega
  ·obtain⟨rfl,rs,rfl,e,LF⟩:=h
   exact⟨le_refl _,fun D hD=>q D rs _ ((Ab.refl H').new hD) hD ac e LF⟩
noncomputable def FU (N:Addr->Prop)(H:Hp)(v:V)(ln:ck):Prop:=∃ t ql Au,v = .ref t/\H t=some (.tup [.int ln.r, .int ln.b,hV ln.h, .ref ql])/\H ql=some (.lst Au)/\AB H Au ln.qs/\N ql
noncomputable def FV (N:Addr->Prop)(H:Hp)(v:V)(way:List Nat):Prop:=∃ t,v = .ref t/\H t=some (.lst (nV way))/\N t
noncomputable def FW (N:Addr->Prop)(H:Hp)(v:V)(qs:List (Int × Int)):Prop:=∃ t Au,v = .ref t/\H t=some (.lst Au)/\AB H Au qs/\N t
theorem FU.same {N:Addr->Prop}{H H':Hp}(s:Ab H H')(v:V)(ln:ck)(h:FU N H v ln):FU N H' v ln:=by
 obtain⟨t,ql,Au,e,h1,h2,h3,h4⟩:=h
 exact⟨t,ql,Au,e,s _ _ h1,s _ _ h2,AB.same s h3,h4⟩
theorem FV.same {N:Addr->Prop}{H H':Hp}(s:Ab H H')(v:V)(y:List Nat)(h:FV N H v y):FV N H' v y:=by
 obtain⟨t,e,h1,h2⟩:=h
 exact⟨t,e,s _ _ h1,h2⟩
theorem FW.same {N:Addr->Prop}{H H':Hp}(s:Ab H H')(v:V)(qs:List (Int × Int))(h:FW N H v qs):FW N H' v qs:=by
 obtain⟨t,Au,e,h1,h2,h3⟩:=h
 exact⟨t,Au,e,s _ _ h1,AB.same s h2,h3⟩
noncomputable def hD:Option Int->PyData
 | none => .none
 | some z => .int z
noncomputable def lnD (ln:ck):PyData := .tuple [.int ln.r, .int ln.b,hD ln.h, .list (ln.qs.map jR)]
noncomputable def wyD (y:List Nat):PyData := .list (y.map fun z:Nat => .int z)
noncomputable def hpD (qs:List (Int × Int)):PyData := .list (qs.map jR)
theorem qq {K:Frag}{H:Hp}:∀ us:List Nat,hZ K H (nV us) (us.map fun z:Nat=>PyData.int z)
 | [] => .nil
 | u :: us => .cons (.int _) (qq us)
theorem l5 {K:Frag}{H:Hp}{α:Type}{R:V->α->Prop}{f:α->PyData}(h:∀ v a,R v a->iS K H v (f a)):∀ {vs:List V}{as:List α},Paired R vs as->hZ K H vs (as.map f):=fun Af=>by
 induction Af with
 | nil=>exact .nil
 | cons x r ih=>exact .cons (h _ _ x) ih
theorem Nm {K:Frag}{H:Hp}(h:Option Int):iS K H (hV h) (hD h):=by cases h<;>first | exact .Av | exact .int _
theorem pG (ps:List (Int × Int)):BX (.list (ps.map jR)) 2:=bN (m:=1) fun z hz=>by
 obtain⟨p,_,rfl⟩:=mem_map.mp hz
 exact dG (m:=0) fun y hy=>by
  simp only[mem_cons,not_mem_nil,or_false]at hy
  rcases hy with rfl | rfl<;>exact bR _
theorem j8 {α:Type}{R:Hp->V->α->Prop}{g:TG}{te:TE}{σ0:St}{H:Hp}{Q:VK}(mono:∀ {H H':Hp},Ab H H'->∀ v a,R H v a->R H' v a)(as:List α)(hn:as.length < sizeLine)
  (hs:∀ (i:Nat)(a:α)(H1:Hp)(N:V->Hp->Prop),as[i]? = some a->Ab H H1->(∀ v H2,Ab H1 H2->R H2 v a->N v H2)->g (.int i) σ0 H1 fun σ2 H2=>te σ2 H2 N)
  (hq:∀ D vs H1,Ab H H1->H1 D=none->Paired (R H1) vs as->Q (.ref D) (upd H1 D (.lst vs))):dQ (vn 0 as.length) g nI te σ0 Q H:=by
 refine bQ as.length hn (fun i acc H'=>Ab H H'/\Paired (R H') acc (as.take i)) ⟨Ab.refl _, .nil⟩ (fun i acc H' h=>by rw[Paired.length h.2];exact length_take_le _ _) (fun i acc H' hi h=>?_) (fun acc H' h=>?_)
 ·obtain⟨s,hL⟩:=h
  refine⟨hi,fun v H2 y=>?_⟩
  obtain⟨rfl,rfl⟩:=y
  rw[zero_add]
  refine hs i as[i] H2 (fun y H4=>Ab H H4/\Paired (R H4) (acc ++ [y]) (as.take (i + 1))) (List.getElem?_eq_getElem hi) s fun v H3 s3 hv=>⟨s.trans s3,?_⟩
  rw[take_succ,List.getElem?_eq_getElem hi]
  exact Paired.snoc hv (Paired.mono (mono s3) hL)
 ·obtain⟨s,hL⟩:=h
  rw[take_length]at hL
  exact⟨le_refl _,fun D hD=>hq D acc H' s hD hL⟩
noncomputable def iT (s:YS):List (List Nat):=s.U.map fun t=>t.way
noncomputable abbrev YA.twin (a:YA)(y dy ro la le li dn:Addr):YA:={ a with y:=y,dy:=dy,ro:=ro,la:=la,le:=le,li:=li,dn:=dn }
noncomputable abbrev yx (ys:Ys)(ex:List Addr):Ys:={ ys with ex:=ex }
structure XC (K:Frag)(ys:Ys)(H:Hp)(a:YA)(s:YS):Prop where
 Y:AH K ys H a s
 ok:mz a.ps.length s.rooms=true
 l1:s.lanes.length <= 900
 l2:s.U.length <= 900
 l3:s.lies.length <= 900
 l4:s.done.length <= 100000
noncomputable def sI (K:Frag)(c:Cs)(TC:Addr)(J:TJ)(ys:Ys):Sp:=fun vs H Q _=>∃ (a:YA)(s:YS),vs=[.ref a.y]/\XC K ys H a s/\vk c TC J H a /\
 ∀ (y dy ro la le li dn:Addr)(v1 v2 v3:List V)(H':Hp),Ab H H'->H y=none->H a.la=some (.lst v1)->H a.le=some (.lst v2)->H a.li=some (.lst v3)->H' y=some (.ins ys.Ad dy (pc a.tb ro la le li dn))->An K H' ro s.rooms->H' la=some (.lst v1)->H' le=some (.lst v2)->H' li=some (.lst v3)->H' dn=some (.lst [])->(∀ b ∈ [la,le,li,dn],H b=none)->[la,le,li,dn].Nodup->Q (.ref y) H'
noncomputable def rZ (K:Frag)(c:Cs)(TC:Addr)(J:TJ)(ys:Ys):Sp:=fun vs H Q _=>∃ (a:YA)(s:YS),vs=[.ref a.y]/\XC K ys H a s/\vk c TC J H a /\
 ∀ (y dy ro la le li dn:Addr)(H':Hp),Ab H H'->(∀ b ∈ [la,le,li,dn],H b=none)->AH K (yx ys (a.four ++ ys.ex)) H' (a.twin y dy ro la le li dn) s->Q (.ref y) H'
theorem wG {m:Nat}{rs:List V}(h:mz m rs=true):rs.length=m/\∀ v ∈ rs,∃ r,v = .int r:=by
 unfold mz at h
 rw[Bool.and_eq_true,decide_eq_true_eq,all_eq_true]at h
 exact⟨h.1,fun v hv=>gJ (h.2 v hv)⟩
structure Tv (K:Frag)(H B B':Hp)(C y dy la:Addr)(fs:Fs)(vs:List V):Prop where
 s:Ab H B'
 g:B' y=some (.ins C dy fs)
 l:B' la=some (.lst vs)
 n:H la=none
 k:∀ b xs,B b=some (.lst xs)->B' b=some (.lst xs)/\b ≠ la
 r:∀ r xs,An K B r xs->An K B' r xs
theorem gF {K:Frag}{H B:Hp}{C y dy la:Addr}{fs:Fs}{vs:List V}(f:Str)(sB:Ab H B)(ny:H y=none)(gy:B y=some (.ins C dy fs))(hl:B la=none) :
  Tv K H B (upd (upd B la (.lst vs)) y (.ins C dy (aJ f (.ref la) fs))) C y dy la (aJ f (.ref la) fs) vs:=by
 have u:=(Ab.refl B).new (o := .lst vs) hl
 have nl:la ≠ y:=Ne.symm (ag gy hl)
 refine⟨fun b o e=>by rw[ae (ag e ny)];exact u _ _ (sB _ _ e),ac,by rw[ae nl];exact ac,sB.free hl,fun b xs e=>⟨?_,ag e hl⟩,fun r xs h=>dX (u _ _ gy) (bq u h)⟩
 rw[ae (aU e gy (by intro z;cases z))];exact u _ _ e
theorem vq {K:Frag}{ys:Ys}{H B:Hp}{a:YA}{s:YS}{y dy ro la le li dn:Addr}{v1 v2 v3 v4:List V}{dn':List (List V)}(hY:AH K ys H a s)(sB:Ab H B)
  (g1:H a.la=some (.lst v1)) (g2:H a.le=some (.lst v2)) (g3:H a.li=some (.lst v3))
  (i:B y=some (.ins ys.Ad dy (pc a.tb ro la le li dn))) (r:An K B ro s.rooms) (b1:B la=some (.lst v1)) (b2:B le=some (.lst v2)) (b3:B li=some (.lst v3)) (b4:B dn=some (.lst v4)) (p4:Paired (Bc B) v4 dn')
  (fr:∀ b ∈ [la,le,li,dn],H b=none) (nd:[la,le,li,dn].Nodup):AH K (yx ys (a.four ++ ys.ex)) B (a.twin y dy ro la le li dn) { s with done:=dn' }:=by
 obtain⟨w1,h1,p1⟩:=hY.AZ
 obtain⟨w2,h2,p2⟩:=hY.hle
 obtain⟨w3,h3,p3⟩:=hY.Ca
 rw[g1]at h1;cases h1
 rw[g2]at h2;cases h2
 rw[g3]at h3;cases h3
 have Nn:∀ p:Addr,(∃ o,H p=some o)->p ∉ a.la :: a.le :: a.li :: a.dn :: ys.ex->p ∉ la :: le :: li :: dn :: (yx ys (a.four ++ ys.ex)).ex:=fun p ⟨o,ho⟩ hn z=>by
  have e:la :: le :: li :: dn :: (yx ys (a.four ++ ys.ex)).ex=[la,le,li,dn] ++ (a.la :: a.le :: a.li :: a.dn :: ys.ex):=rfl
  rw[e]at z
  rcases mem_append.mp z with z | z
  ·rw[fr p z]at ho;cases ho
  ·exact hn z
 refine⟨i,r,⟨v1,b1,Paired.mono (fun v ln z=>?_) p1⟩,⟨v2,b2,Paired.mono (fun v t z=>?_) p2⟩,⟨v3,b3,Paired.mono (fun v q z=>z.keep (Ab.Am sB)) p3⟩,⟨v4,b4,p4⟩,nd,fun b hb=>?_⟩
 ·obtain⟨x,dx,pa,Au,ev,L,n⟩:=z
  exact⟨x,dx,pa,Au,ev,L.same sB,Nn pa ⟨_,L.lst⟩ n⟩
 ·obtain⟨x,dx,wa,ev,hx,hw,n⟩:=z
  exact⟨x,dx,wa,ev,sB _ _ hx,sB _ _ hw,Nn wa ⟨_,hw⟩ n⟩
 ·obtain⟨xs,hz⟩:=Ak.Dr hY b hb
  exact⟨xs,sB _ _ hz⟩
theorem Np:ao ["self", "other"] ["self"] (ah tE):=L2.AG
theorem wF {c:Cs}{ys:Ys}{J:TJ}{TC nr f GX fy:Addr}{fd GZ dy:FuncData}(F:AA K "bare_twin" "Yard.bare_twin" tE f fd)(T:dE mg)(Y:hU K ys)(W:Wy K TC GX GZ J)
  (my:mg "Yard" = some (.ref ys.Ad)) (My:Mk K ys.Ad fy) (JN:Binds K dy ["self", "table", "rooms"] []) (Gy:Ac P w K mg base (dR P w) 4 fy dy ["self", "table", "rooms"] (ph K c TC J (yx ys []) nr)) :
  Ac P w K mg base aC 6 f fd ["self"] (sI K c TC J ys):=by
 refine F.ok Np (fun vs H Q E h=>?_) (fun cdv A outer s H vs Q E hr h=>?_)
 ·obtain⟨a,s,rfl,_⟩:=h
  rfl
 ·obtain⟨a,st,rfl,hW,hT,q⟩:=h
  have HD:Al 5 _:=hr.mono (by decide)
  refine⟨_,af (aA (i:=1) Np.nd rfl (Or.inl rfl) (c4 My Gy HD rfl my JN .nil eO (aa (al (pv 0) rfl) (aa (al (pv 0) rfl) ad))))
   (af (aT (pv 1) (aY aS rfl T.list PySem.Pv.boot_list (aa (al (pv 0) rfl) ad)) rfl)
   (af (aT (pv 1) (aY aS rfl T.list PySem.Pv.boot_list (aa (al (pv 0) rfl) ad)) rfl)
   (af (aT (pv 1) (aY aS rfl T.list PySem.Pv.boot_list (aa (al (pv 0) rfl) ad)) rfl)
   (ai (ar (pv 1)))))),?_⟩
  have hY:=hW.Y
  obtain⟨DB,hri⟩:=wG hW.ok
  obtain⟨v1,g1,p1⟩:=hY.AZ
  obtain⟨v2,g2,p2⟩:=hY.hle
  obtain⟨v3,g3,p3⟩:=hY.Ca
  have Eg:=hT.Bd
  refine⟨_,rfl,a.y,ys.Ad,a.dy,_,_,rfl,hY.ins,Y.cl,Y.n1,rfl,_,rfl,a.y,ys.Ad,a.dy,_,_,rfl,hY.ins,Y.cl,Y.n2,rfl,fun y dy ny Nq Nr=>?_⟩
  have s1:Ab H (upd (upd H dy (.own y)) y (.ins ys.Ad dy [])):=Ab.new (Ab.new (Ab.refl H) Nq) (by rw[ae (Ne.symm Nr)];exact ny)
  refine⟨y,dy,a.tb,a.lx,a.AF,a.lt,a.n,a.Ao,a.ps,a.wy,_,st.rooms,rfl,ac,AO.keep W hT (Ab.Am s1),(fun b hb=>by cases hb), .inr ⟨a.ro,rfl, .inr (bq s1 hY.GV),by omega,(fun v hv=>by obtain⟨r,rfl⟩:=hri v hv;exact .int r),fun h=>by rw[hW.ok]at h;cases h⟩,fun _ ro RG Mg I0 dn H5 o5 FE Hh J8 JA hN=>⟨rfl,?_⟩⟩
  have s5:Ab H H5:=fun b o e=>o5 b o (fun z=>by rw[mem_singleton.mp z,ny]at e;cases e) (s1 _ _ e)
  have RI:H dn=none:=s1.free JA
  have g5:=hN.ins
  have ro5:An K H5 ro st.rooms:=hN.GV
  have dn5:H5 dn=some (.lst []):=by
   obtain⟨vs,gv,pv⟩:=hN.BD
   have e:(Y0 st.rooms a.n).done=[]:=rfl
   rw[e]at pv
   cases pv
   exact gv
  clear hN o5 s1
  refine⟨_,rfl,a.y,ys.Ad,a.dy,_,_,rfl,s5 _ _ hY.ins,Y.cl,Y.n3,rfl,a.la,v1,rfl, .inl (Ah.of (s5 _ _ g1)),fun la AZ=>?_⟩
  have S6:=gF (K:=K) (vs:=v1) "lanes" s5 ny g5 AZ
  refine⟨_,rfl,y,ys.Ad,dy,_,rfl,(Ab.refl H5).new (o := .lst v1) AZ _ _ g5,Y.cl,Y.n3,by show 6 < 1000;decide,?_⟩
  generalize upd (upd H5 la (.lst v1)) y (.ins ys.Ad dy (aJ "lanes" (.ref la) (pc a.tb ro RG Mg I0 dn)))=H6 at S6 ⊢
  have g6:H6 y=some (.ins ys.Ad dy (pc a.tb ro la Mg I0 dn)):=S6.g
  refine⟨_,rfl,a.y,ys.Ad,a.dy,_,_,rfl,S6.s _ _ hY.ins,Y.cl,Y.n4,rfl,a.le,v2,rfl, .inl (Ah.of (S6.s _ _ g2)),fun le hle=>?_⟩
  have S7:=gF (K:=K) (vs:=v2) "letters" S6.s ny g6 hle
  refine⟨_,rfl,y,ys.Ad,dy,_,rfl,(Ab.refl H6).new (o := .lst v2) hle _ _ g6,Y.cl,Y.n4,by show 6 < 1000;decide,?_⟩
  generalize upd (upd H6 le (.lst v2)) y (.ins ys.Ad dy (aJ "letters" (.ref le) (pc a.tb ro la Mg I0 dn)))=H7 at S7 ⊢
  have g7:H7 y=some (.ins ys.Ad dy (pc a.tb ro la le I0 dn)):=S7.g
  refine⟨_,rfl,a.y,ys.Ad,a.dy,_,_,rfl,S7.s _ _ hY.ins,Y.cl,Y.n5,rfl,a.li,v3,rfl, .inl (Ah.of (S7.s _ _ g3)),fun li Ca=>?_⟩
  have S8:=gF (K:=K) (vs:=v3) "lies" S7.s ny g7 Ca
  refine⟨_,rfl,y,ys.Ad,dy,_,rfl,(Ab.refl H7).new (o := .lst v3) Ca _ _ g7,Y.cl,Y.n5,by show 6 < 1000;decide,?_⟩
  generalize upd (upd H7 li (.lst v3)) y (.ins ys.Ad dy (aJ "lies" (.ref li) (pc a.tb ro la le I0 dn)))=H8 at S8 ⊢
  have g8:H8 y=some (.ins ys.Ad dy (pc a.tb ro la le li dn)):=S8.g
  obtain⟨d6,nd6⟩:=S6.k _ _ dn5
  obtain⟨d7,nd7⟩:=S7.k _ _ d6
  obtain⟨d8,nd8⟩:=S8.k _ _ d7
  obtain⟨a7,na7⟩:=S7.k _ _ S6.l
  obtain⟨a8,na8⟩:=S8.k _ _ a7
  obtain⟨e8,ne8⟩:=S8.k _ _ S7.l
  have fr:∀ b ∈ [la,le,li,dn],H b=none:=fun b hb=>by
   simp only[mem_cons,not_mem_nil,or_false]at hb
   rcases hb with rfl | rfl | rfl | rfl
   ·exact S6.n
   ·exact S7.n
   ·exact S8.n
   ·exact RI
  refine⟨_,rfl,q y dy ro la le li dn v1 v2 v3 H8 S8.s ny g1 g2 g3 g8 (S8.r _ _ (S7.r _ _ (S6.r _ _ ro5))) a8 e8 S8.l d8 fr ?_⟩
  simp only[nodup_cons,mem_cons,not_mem_nil,or_false,not_or,not_false_eq_true,and_true,nodup_nil]
  exact⟨⟨na7,na8,Ne.symm nd6⟩,⟨ne8,Ne.symm nd7⟩,Ne.symm nd8⟩
theorem Nt:ao ["self", "other"] ["self"] (ah oa):=L2.AG
theorem ub {c:Cs}{ys:Ys}{J:TJ}{TC f GX fb:Addr}{fd GZ db:FuncData}(F:AA K "twin" "Yard.twin" oa f fd)(T:dE mg)(Y:hU K ys)(W:Wy K TC GX GZ J)
  (mb:bz K ys.Ad "bare_twin" fb) (bb:Binds K db ["self"] []) (Gb:Ac P w K mg base aC 6 fb db ["self"] (sI K c TC J ys)) :
  Ac P w K mg base aC 7 f fd ["self"] (rZ K c TC J ys):=by
 refine F.ok Nt (fun vs H Q E h=>?_) (fun cdv A outer s H vs Q E hr h=>?_)
 ·obtain⟨a,s,rfl,_⟩:=h
  rfl
 ·obtain⟨a,st,rfl,hW,hT,q⟩:=h
  refine⟨_,af (aA (i:=1) Nt.nd rfl (Or.inl rfl) (aW (pv 0) Y.cl mb Gb hr bb .nil ap))
   (af (aT (pv 1) (aY aS rfl T.list PySem.Pv.boot_list (aa (al (pv 0) rfl) ad)) rfl)
   (ai (ar (pv 1)))),?_⟩
  have hY:=hW.Y
  obtain⟨v4,g4,p4⟩:=hY.BD
  refine⟨_,rfl,a.y,a.dy,_,rfl,hY.ins,rfl,a,st,rfl,hW,hT,fun y dy ro la le li dn v1 v2 v3 H5 s5 ny g1 g2 g3 g5 r5 a5 e5 i5 d5 fr nd=>?_⟩
  refine⟨_,rfl,a.y,ys.Ad,a.dy,_,_,rfl,s5 _ _ hY.ins,Y.cl,Y.n6,rfl,a.dn,v4,rfl, .inl (Ah.of (s5 _ _ g4)),fun dn' BD=>?_⟩
  have S6:=gF (K:=K) (vs:=v4) "done" s5 ny g5 BD
  refine⟨_,rfl,y,ys.Ad,dy,_,rfl,(Ab.refl H5).new (o := .lst v4) BD _ _ g5,Y.cl,Y.n6,by show 6 < 1000;decide,?_⟩
  generalize upd (upd H5 dn' (.lst v4)) y (.ins ys.Ad dy (aJ "done" (.ref dn') (pc a.tb ro la le li dn)))=H6 at S6 ⊢
  have g6:H6 y=some (.ins ys.Ad dy (pc a.tb ro la le li dn')):=S6.g
  obtain⟨c1,n1⟩:=S6.k _ _ a5
  obtain⟨c2,n2⟩:=S6.k _ _ e5
  obtain⟨c3,n3⟩:=S6.k _ _ i5
  have XD:∀ b ∈ [la,le,li,dn'],H b=none:=fun b hb=>by
   simp only[mem_cons,not_mem_nil,or_false]at hb
   rcases hb with rfl | rfl | rfl | rfl
   ·exact fr _ (by simp)
   ·exact fr _ (by simp)
   ·exact fr _ (by simp)
   ·exact S6.n
  refine⟨_,rfl,q y dy ro la le li dn' H6 S6.s XD (vq (dn':=st.done) hY S6.s g1 g2 g3 g6 (S6.r _ _ r5) c1 c2 c3 S6.l (Paired.mono (fun v m z=>Bc.keep (Ab.Am S6.s) z) p4) XD ?_)⟩
  simp only[nodup_cons,mem_cons,not_mem_nil,or_false,not_or,not_false_eq_true,and_true,nodup_nil]at nd ⊢
  exact⟨⟨nd.1.1,nd.1.2.1,n1⟩,⟨nd.2.1.1,n2⟩,n3⟩
theorem BQ.rooms {a:YA}{s s':YS}{m:Mv}(h:BQ a s m s'):s'.rooms=s.rooms:=by cases h<;>rfl
structure CB (s s':YS):Prop where
 rooms:s'.rooms=s.rooms
 done:∃ e,s'.done=s.done ++ e/\∀ d ∈ e,∀ x ∈ d,vm x
theorem CB.refl (s:YS):CB s s:=⟨rfl,[],(append_nil _).symm,fun d hd=>by cases hd⟩
theorem CB.trans {s s1 s2:YS}(h:CB s s1)(g:CB s1 s2):CB s s2:=by
 obtain⟨e,he,se⟩:=h.done
 obtain⟨e',P8,se'⟩:=g.done
 refine⟨g.rooms.trans h.rooms,e ++ e',by rw[P8,he,append_assoc],fun d hd=>?_⟩
 rcases mem_append.mp hd with hd | hd
 ·exact se d hd
 ·exact se' d hd
theorem Nu (m:Mv):∀ x ∈ dD m,vm x:=by
 cases m<;>intro x hx<;>simp only[dD,mem_cons,not_mem_nil,or_false]at hx
 ·rcases hx with rfl | rfl | rfl<;>first | exact Or.inl ⟨_,rfl⟩ | exact Or.inr ⟨_,rfl,by decide +kernel⟩
 ·rcases hx with rfl | rfl | rfl<;>first | exact Or.inl ⟨_,rfl⟩ | exact Or.inr ⟨_,rfl,by decide +kernel⟩
 ·rcases hx with rfl | rfl<;>first | exact Or.inl ⟨_,rfl⟩ | exact Or.inr ⟨_,rfl,by decide +kernel⟩
 ·rcases hx with rfl | rfl<;>first | exact Or.inl ⟨_,rfl⟩ | exact Or.inr ⟨_,rfl,by decide +kernel⟩
theorem CB.move {a:YA}{s s':YS}{m:Mv}(h:BQ a s m s'):CB s { s' with done:=s.done ++ [dD m] } :=
 ⟨h.rooms,[dD m],rfl,fun d hd=>by rw[mem_singleton.mp hd];exact Nu m⟩
theorem CB.post (s:YS)(x y l u:Int):CB s (i3 s x y l u):=by
 refine⟨rfl,[[.str "post", .int x, .int y, .int l, .int u]],rfl,fun d hd z hz=>?_⟩
 rw[mem_singleton.mp hd]at hz
 simp only[mem_cons,not_mem_nil,or_false]at hz
 rcases hz with rfl | rfl | rfl | rfl | rfl<;>first | exact Or.inl ⟨_,rfl⟩ | exact Or.inr ⟨_,rfl,by decide +kernel⟩
theorem Bn.post {a:YA}{s:YS}(J:Bn a s){x y:Nat}{l u:Int}(hx:x < a.n)(hy:y < a.n)(hl:0 <= l/\l <= 60)(hf:s.U.length < 60):Bn a (i3 s x y l u):=by
 have el:∀ (m:Nat)(t:cj),(i3 s x y l u).U[m]? = some t->s.U[m]? = some t∨(m=s.U.length/\t = ⟨x,y,l,u,0,[]⟩):=fun m t ht=>by
  have ht:(s.U ++ [(⟨(x:Int),(y:Int),l,u,0,[]⟩:cj)])[m]? = some t:=ht
  by_cases hm:m < s.U.length
  ·rw[List.getElem?_append_left hm]at ht;exact .inl ht
  ·have h3:=(List.getElem?_eq_some_iff.mp ht).1
   rw[length_append,length_singleton]at h3
   have em:m=s.U.length:=by omega
   subst em
   rw[List.getElem?_concat_length]at ht
   cases ht
   exact .inr ⟨rfl,rfl⟩
 have eo:∀ (m:Nat)(t:cj),s.U[m]? = some t->(i3 s x y l u).U[m]? = some t:=fun m t ht=>by
  show(s.U ++ [(⟨(x:Int),(y:Int),l,u,0,[]⟩:cj)])[m]? = some t
  rw[List.getElem?_append_left (List.getElem?_eq_some_iff.mp ht).1];exact ht
 refine⟨J.lanes,J.lies,?_,J.Eg,fun m t ht=>?_,fun m t ht=>?_,fun k ln hk q hq=>?_,fun m t ht=>?_,fun m t ht hg=>?_,fun m t ht i l' hi he=>?_,fun m t ht l' ln D4 AQ=>?_,J.first,fun k ln hk m t hm ht=>?_,?_⟩
 ·show(s.U ++ [_]).length <= 60
  rw[length_append,length_singleton];omega
 ·rcases el m t ht with h | ⟨_,rfl⟩
  ·exact J.lets m t h
  ·exact⟨x,y,rfl,rfl,hx,hy⟩
 ·rcases el m t ht with h | ⟨_,rfl⟩
  ·exact J.Bm m t h
  ·exact⟨(fun l hl=>by cases hl),nodup_nil⟩
 ·obtain⟨m,t,e,ht,IS⟩:=J.Bl k ln hk q hq
  exact⟨m,t,e,eo m t ht,IS⟩
 ·rcases el m t ht with h | ⟨_,rfl⟩
  ·exact J.Cc m t h
  ·exact⟨Int.le_refl _,hl.1,hl.2⟩
 ·rcases el m t ht with h | ⟨_,rfl⟩
  ·exact J.Bj m t h hg
  ·rfl
 ·rcases el m t ht with h | ⟨_,rfl⟩
  ·exact J.last m t h i l' hi he
  ·cases hi
 ·rcases el m t ht with h | ⟨_,rfl⟩
  ·exact J.head m t h l' ln D4 AQ
  ·cases D4
 ·obtain⟨m2,t2,e2,FL,_⟩:=J.Bl k ln hk _ hm
  have e2:(m:Int)=(m2:Int):=e2
  have e2:m=m2:=by omega
  subst e2
  rcases el m t ht with h | ⟨e,_⟩
  ·exact J.Dt k ln hk m t hm h
  ·rw[e]at FL
   rw[List.getElem?_eq_none (le_refl _)]at FL
   cases FL
 ·have h:=J.sum
  have e:fR (i3 s x y l u)=fR s:=by
   show((s.U ++ [(⟨(x:Int),(y:Int),l,u,0,[]⟩:cj)]).map _).sum=_
   rw[map_append,List.sum_append]
   simp[fR]
  rw[e];exact h
noncomputable def sj (K:Frag)(c:Cs)(TC:Addr)(J:TJ)(ys:Ys):Sp:=fun vs H Q _=>∃ (a:YA)(s:YS)(bg cs:Addr)(Bo:List V)(bs:List (Int × Int))(ns:List Int),vs=[.ref a.y, .ref bg, .ref cs]/\AH K ys H a s/\vk c TC J H a/\Bn a s/\H bg=some (.lst Bo)/\AB H Bo bs/\iL a bs/\bs.length <= 1000/\bg ∉ a.four/\H cs=some (.lst (ns.map V.int))/\cs ∉ a.four/\ns.length <= 10/\s.U.length + ns.length <= 59/\s.done.length <= 9000 /\
 ∀ (H':Hp)(s':YS),Ai [a.le,a.dn] H H'->AH K ys H' a s'->Bn a s'->CB s s'->s'.U.length <= s.U.length + ns.length->s'.done.length <= s.done.length + ns.length->Q .Av H'
noncomputable abbrev NLp:List Str:=["_law_yard", "_law_begins_here", "_law_cells", "_law_cell", "_law_start", "_law_goal"]
theorem FX:ao NLp ["_law_yard", "_law_begins_here", "_law_cells"] (ah kQ):=L2.AG
theorem wm {c:Cs}{ys:Ys}{x:Xs}{J:TJ}{TC f fw fp:Addr}{fd dw dp:FuncData}(F:AA K "_law_posts" "_law_posts" kQ f fd)(T:dE mg)(Y:hU K ys)(W:Wy K TC fw dw J)
  (mp:bz K ys.Ad "post" fp) (bp:Binds K dp M4 []) (Gp:Ac P w K mg base (dR P w) 4 fp dp M4 (nQ K c TC J ys x)) :
  Ac P w K mg base aC 5 f fd ["_law_yard", "_law_begins_here", "_law_cells"] (sj K c TC J ys):=by
 refine F.ok FX (fun vs H Q E h=>?_) (fun cdv A outer s H vs Q E hr h=>?_)
 ·obtain⟨a,s,bg,cs,Bo,bs,ns,rfl,_⟩:=h
  rfl
 ·obtain⟨a,st,bg,cs,Bo,bs,ns,rfl,hY,hT,hJ,gbg,P9,Tw,P5,nbg,XE,ncs,hnl,OR,hdl0,q⟩:=h
  have hu:=hr.units
  refine⟨_,ai (bI PassesOwn.never rfl (cb (pv 2)) (ay (i:=3) FX.nd rfl (Or.inl rfl))
   (ai (aP (aw (jm hu) (pv 1) (aX ad) (aB _))
    (af (kX (ax aL (pv 1) (aG bG (aG fA (pv 3) aj) (av aq rfl T.len PySem.boot_len (aa (pv 1) ad))) (fun _ _=>rfl)) (jk rfl (bZ (ay (i:=4) FX.nd rfl (Or.inl rfl)) (bZ (ay (i:=5) FX.nd rfl (Or.inl rfl)) gH))))
    (ai (aN (aD (pv 0) Y.cl mp Gp hr bp .nil eO (aa (pv 4) (aa (pv 5) (aa (aG bT aj (aG bG (pv 3) aj)) (aa (aG bG (aG fA (pv 3) aj) (aG tY aj aj)) ad)))))))) aH))),?_⟩
  refine⟨_,rfl,cs,rfl,⟨_,Ah.of XE⟩,?_⟩
  refine gR (K:=K) (a:=cs) (xs:=ns.map V.int) (fun i σ H2=>∃ (a4 a5 a6:Option V)(s2:YS),Ai [a.le,a.dn] H H2/\H2 cs=some (.lst (ns.map V.int))/\H2 bg=some (.lst Bo)/\AH K ys H2 a s2/\Bn a s2/\CB st s2/\s2.U.length <= st.U.length + i/\s2.done.length <= st.done.length + i/\σ=[some (.ref a.y),some (.ref bg),some (.ref cs),a4,a5,a6])
   ⟨none,none,none,st,Ab.AJ (Ab.refl H),XE,gbg,hY,hJ,CB.refl _,by omega,by omega,rfl⟩ (fun i σ H2 _ Af=>by obtain⟨_,_,_,_,_,g,_⟩:=Af;exact Ah.of g) ?_ ?_
  rotate_left
  ·rintro σ H2 ⟨a4,a5,a6,s2,o2,_,_,C6,PB,Ck,h1,h2,rfl⟩
   rw[length_map]at h1 h2
   exact q H2 s2 o2 C6 PB Ck h1 h2
  rintro i v σ H2 hv ⟨a4,a5,a6,s2,o2,g2,Nv,C6,PB,Ck,h1,h2,rfl⟩
  have hi:i < ns.length:=by have:=(List.getElem?_eq_some_iff.mp hv).1;rw[length_map]at this;exact this
  obtain⟨d,rfl⟩:∃ d,v=V.int d:=by
   rw[List.getElem?_map,List.getElem?_eq_getElem hi]at hv
   exact⟨_,(Option.some.inj hv).symm⟩
  have Nw:∀ b ∈ [a.le,a.dn],∃ xs,H b=some (.lst xs):=fun b hb=>by
   simp only[mem_cons,not_mem_nil,or_false]at hb
   rcases hb with rfl | rfl
   ·exact hY.Ba _ (by simp)
   ·exact hY.Ba _ (by simp)
  have Tx:vk c TC J H2 a:=AO.keep W hT (Ai.Am Nw o2)
  have Tz:AB H2 Bo bs:=(Ai.Am Nw o2).DL P9
  have hbv:Bo.length=bs.length:=Paired.length P9
  have in4:∀ z:Addr,z ∉ a.four->z ∉ [a.le,a.dn]:=fun z hz h=>hz (by simp only[mem_cons,not_mem_nil,or_false]at h ⊢;rcases h with h | h<;>simp[h])
  refine⟨_,rfl,zero_le _,fun o7 HG=>?_⟩
  have s4:=(Ab.refl H2).new (o := .lst []) HG
  have g7:(upd H2 o7 (.lst [])) o7=some (.lst []):=ac
  generalize upd H2 o7 (.lst [])=H4 at s4 g7 ⊢
  have M7:=Ak.same C6 s4
  have o4:Ai [a.le,a.dn] H H4:=o2.trans (Ab.AJ s4)
  have Nx:=AB.same s4 Tz
  refine neN (f:=jR) (l:=bs) (.lst (Ah.of (s4 _ _ Nv)) (j7 Nx)) (.lst (Ah.of g7) .nil) (qH _) ⟨_,rfl,?_⟩
  cases Cv:bs.isEmpty with
  | true=>exact aI ⟨_,_,_,s2,o4,s4 _ _ g2,s4 _ _ Nv,M7,PB,Ck,by omega,by omega,rfl⟩
  | false =>
  have Ny:0 < Bo.length:=by
   rw[hbv]
   cases bs with
   | nil=>cases Cv
   | cons _ _=>exact Nat.succ_pos _
  have np:(0:Int) < ((Bo.length:Nat):Int):=by omega
  have z1:=emod_nonneg (d / 4) (show((Bo.length:Nat):Int) ≠ 0 by omega)
  have z2:=emod_lt_of_pos (d / 4) np
  obtain⟨k,hk,T1⟩:∃ k:Nat,d / 4 % ((Bo.length:Nat):Int)=(k:Int)/\k < Bo.length:=⟨(d / 4 % ((Bo.length:Nat):Int)).toNat,by omega,by omega⟩
  have IY:=List.getElem?_eq_getElem T1
  obtain⟨pr,hpr,pt,T2,Ds⟩:=Paired.at Nx IY
  rw[T2]at IY
  obtain⟨a',b',rfl,XF,XG,Ht,hw⟩:=Tw pr (mem_of_getElem? hpr)
  refine aK ⟨_,rfl,_,rfl,_,_,rfl,rfl,⟨by decide,by decide⟩,_,rfl,bg,_,rfl, .inl (Ah.of (s4 _ _ Nv)),_,_,rfl,rfl,np,bg,Bo,(k:Int), .ref pt,rfl,congrArg V.int hk,Ah.of (s4 _ _ Nv),ak IY,pt,_,rfl,An.of Ds,rfl,_,_,rfl,_,_,rfl,rfl,?_⟩
  refine⟨_,rfl,a.y,a.dy,_,rfl,M7.ins,rfl,_,rfl,_,rfl,_,rfl,_,_,rfl,rfl,(by show (0:Int) < 4;decide),_,_,rfl,rfl,_,rfl,_,_,rfl,rfl,⟨by decide,by decide⟩,_,_,rfl,rfl,⟨by decide,by decide,by decide⟩,_,_,rfl,rfl,(by show (0:Int) < 10 ^ (60:Int).toNat;decide +kernel),?_⟩
  have w1:=emod_nonneg (d / 4) (show(10 ^ (60:Int).toNat:Int) ≠ 0 by decide +kernel)
  have w2:=emod_lt_of_pos (d / 4) (show (0:Int) < 10 ^ (60:Int).toNat by decide +kernel)
  have l1:=emod_nonneg d (show (4:Int) ≠ 0 by decide)
  have l2:=emod_lt_of_pos d (show (0:Int) < 4 by decide)
  dsimp only
  generalize d / 4 % 10 ^ (60:Int).toNat=wd at w1 w2 ⊢
  have hwd:J6 (.int wd)=true:=by
   unfold J6
   exact decide_eq_true (by rw[if_neg (by omega)];exact w2)
  obtain⟨len,hlen,LP⟩:∃ len:Int,1 + d % 4=len/\1 <= len/\len <= 60:=⟨_,rfl,by omega,by omega⟩
  rw[hlen]
  have gd:=qM (n:=a.n) (wy:=a.wy) (m:=s2.U.length) XF XG LP hwd Ht hw (by omega)
  have LG:vk c TC J H4 a:=AO.keep W Tx (Ab.Am s4)
  have DJ:s2.done.length <= 10000:=by omega
  refine⟨a.y,a.dy,a.tb,a.ro,a.la,a.le,a.li,a.dn,a.lx,a.AF,a.lt,a.n,a.Ao,a.ps,a.wy,s2, .int a', .int b', .int len, .int wd,rfl,M7,LG, .int _, .int _, .int _, .int _,by omega,DJ,(fun h=>by rw[gd]at h;cases h),(fun h=>by rw[gd]at h;cases h),(fun h=>by rw[gd]at h;cases h),(fun h=>by rw[gd]at h;cases h),(fun h=>by rw[gd]at h;cases h),fun _ H5 o5 Fn=>?_⟩
  refine⟨_,_,_,i3 s2 a' b' len wd,o4.trans o5,o5 _ _ (in4 _ ncs) (s4 _ _ g2),o5 _ _ (in4 _ nbg) (s4 _ _ Nv),Fn,PB.post XF XG ⟨by omega,LP.2⟩ (by omega),Ck.trans (CB.post _ _ _ _ _),?_,?_,rfl⟩
  ·show(s2.U ++ [_]).length <= _
   rw[length_append,length_singleton];omega
  ·show(s2.done ++ [_]).length <= _
   rw[length_append,length_singleton];omega
structure Sd (N:Addr->Prop)(H:Hp)(a:YA)(s:YS)(t L W X M D:Addr)(Ap CT Du As AE:List V):Prop where
 gt:H t=some (.lst [.ref L, .ref W, .ref X, .ref M, .ref D])
 gl:H L=some (.lst Ap)
 pl:Paired (FU N H) Ap s.lanes
 gw:H W=some (.lst CT)
 pw:Paired (FV N H) CT (iT s)
 gx:H X=some (.lst Du)
 px:Paired (FW N H) Du s.lies
 gm:H M=some (.lst As)
 pm:Paired (Bc H) As ((bu a s).map dD)
 gd:H D=some (.lst AE)
 pd:Paired (Bc H) AE s.done
 n:∀ z ∈ [t,L,W,X,M,D],N z
noncomputable def JO (N:Addr->Prop)(H:Hp)(v:V)(as:YA × YS):Prop:=∃ t L W X M D Ap CT Du As AE,v = .ref t/\Sd N H as.1 as.2 t L W X M D Ap CT Du As AE
theorem iN {H H':Hp}(s:Ab H H')(v:V)(m:List V)(h:Bc H v m):Bc H' v m:=h.keep (Ab.Am s)
theorem Sd.same {N:Addr->Prop}{H H':Hp}{a:YA}{s:YS}{t L W X M D:Addr}{Ap CT Du As AE:List V}(e:Ab H H')(h:Sd N H a s t L W X M D Ap CT Du As AE):Sd N H' a s t L W X M D Ap CT Du As AE :=
 ⟨e _ _ h.gt,e _ _ h.gl,Paired.mono (fun v l=>FU.same e v l) h.pl,e _ _ h.gw,Paired.mono (fun v l=>FV.same e v l) h.pw,e _ _ h.gx,Paired.mono (fun v l=>FW.same e v l) h.px,e _ _ h.gm,Paired.mono (fun v l=>iN e v l) h.pm,e _ _ h.gd,Paired.mono (fun v l=>iN e v l) h.pd,h.n⟩
theorem JO.same {N:Addr->Prop}{H H':Hp}(e:Ab H H')(v:V)(as:YA × YS)(h:JO N H v as):JO N H' v as:=by
 obtain⟨t,L,W,X,M,D,Ap,CT,Du,As,AE,ev,h⟩:=h
 exact⟨t,L,W,X,M,D,Ap,CT,Du,As,AE,ev,h.same e⟩
noncomputable def T3 (as:YA × YS):PyData := .list [.list (as.2.lanes.map lnD), .list ((iT as.2).map wyD), .list (as.2.lies.map hpD), .list ((bu as.1 as.2).map qZ), .list (as.2.done.map vJ)]
theorem uV {K:Frag}{N:Addr->Prop}{H:Hp}{v:V}{as:YA × YS}(Dq:∀ d ∈ as.2.done,∀ x ∈ d,vm x)(h:JO N H v as):iS K H v (T3 as):=by
 obtain⟨t,L,W,X,M,D,Ap,CT,Du,As,AE,rfl,h⟩:=h
 refine .lst (Ah.of h.gt) (.cons (.lst (Ah.of h.gl) (l5 (fun v ln h=>?_) h.pl)) (.cons (.lst (Ah.of h.gw) (l5 (fun v y h=>?_) h.pw)) (.cons (.lst (Ah.of h.gx) (l5 (fun v qs h=>?_) h.px)) (.cons (.lst (Ah.of h.gm) (fF h.pm)) (.cons (.lst (Ah.of h.gd) (k9 h.pd Dq)) .nil)))))
 ·obtain⟨t,ql,Au,rfl,h1,h2,h3,_⟩:=h
  exact .tup (An.of h1) (.cons (.int _) (.cons (.int _) (.cons (Nm _) (.cons (.lst (Ah.of h2) (j7 h3)) .nil))))
 ·obtain⟨t,rfl,h1,_⟩:=h
  exact .lst (Ah.of h1) (qq _)
 ·obtain⟨t,Au,rfl,h1,h2,_⟩:=h
  exact .lst (Ah.of h1) (j7 h2)
theorem v5 {m:List V}(h:∀ x ∈ m,vm x):BX (vJ m) 1:=by
 unfold vJ
 refine dG (m:=0) fun y hy=>?_
 obtain⟨x,hx,rfl⟩:=mem_map.mp hy
 rcases h x hx with ⟨i,rfl⟩ | ⟨t,rfl,ht⟩
 ·exact bR _
 ·exact gr ht
theorem yk {as:YA × YS}(Dq:∀ d ∈ as.2.done,∀ x ∈ d,vm x):BX (T3 as) 5:=bN (m:=4) fun y hy=>by
 simp only[mem_cons,not_mem_nil,or_false]at hy
 rcases hy with rfl | rfl | rfl | rfl | rfl
 ·refine bN (m:=3) fun z hz=>?_
  obtain⟨ln,_,rfl⟩:=mem_map.mp hz
  refine dG (m:=2) fun y hy=>?_
  simp only[mem_cons,not_mem_nil,or_false]at hy
  rcases hy with rfl | rfl | rfl | rfl
  ·exact(bR _).le (by decide)
  ·exact(bR _).le (by decide)
  ·cases ln.h with
   | none=>exact EC.le (by decide)
   | some z=>exact(bR _).le (by decide)
  ·exact pG _
 ·refine(bN (m:=1) fun z hz=>?_).le (by decide)
  obtain⟨y,_,rfl⟩:=mem_map.mp hz
  refine bN (m:=0) fun x hx=>?_
  obtain⟨u,_,rfl⟩:=mem_map.mp hx
  exact bR _
 ·refine(bN (m:=2) fun z hz=>?_).le (by decide)
  obtain⟨qs,_,rfl⟩:=mem_map.mp hz
  exact pG _
 ·refine(bN (m:=1) fun z hz=>?_).le (by decide)
  obtain⟨m,_,rfl⟩:=mem_map.mp hz
  exact ia m
 ·refine(bN (m:=1) fun z hz=>?_).le (by decide)
  obtain⟨m,hm,rfl⟩:=mem_map.mp hz
  exact v5 (Dq m hm)
noncomputable def py (K:Frag)(c:Cs)(TC:Addr)(J:TJ)(ys:Ys):Sp:=fun vs H Q _=>∃ (N:Addr->Prop)(a:YA)(s:YS),(∀ z,H z=none->N z)/\vs=[.ref a.y, .int s.lanes.length, .int s.lies.length]/\Cz K c TC J ys H a s/\s.lanes.length <= 900/\s.lies.length <= 900/\s.U.length <= 900 /\
 ∀ (v:V)(H':Hp),Ab H H'->JO N H' v (a,s)->Q v H'
noncomputable abbrev PD:List Str:=["_law_yard", "_law_lanes_here", "_law_places", "_law_ways", "_law_told"]
structure XH (P:Program)(w:World)(K:Frag)(mg:Str->Option Value)(base:Heap)(c:Cs)(TC:Addr)(J:TJ)(ys:Ys)(ft fw fp fy fm fh:Addr)(dt dw dp dy dm dh:FuncData):Prop where
 mt:bz K ys.Ad "lane_told" ft
 bt:Binds K dt ["self", "lane"] []
 Gt:Ac P w K mg base aC 2 ft dt ["self", "lane"] (pA K ys)
 mw:bz K ys.Ad "way_told" fw
 bw:Binds K dw ["self", "number"] []
 Gw:Ac P w K mg base aC 1 fw dw ["self", "number"] (rX K ys)
 mp:bz K ys.Ad "posted" fp
 bp:Binds K dp ["self"] []
 Gp:Ac P w K mg base aC 1 fp dp ["self"] (lJ K ys)
 my:bz K ys.Ad "lying" fy
 S2:Binds K dy ["self", "place"] []
 Gy:Ac P w K mg base aC 1 fy dy ["self", "place"] (p7 K ys)
 mm:bz K ys.Ad "moves" fm
 bm:Binds K dm ["self"] []
 Gm:Ac P w K mg base aC 7 fm dm ["self"] (iE K c TC J ys)
 mh:bz K ys.Ad "history" fh
 bh:Binds K dh ["self"] []
 Gh:Ac P w K mg base aC 1 fh dh ["self"] (sF K ys)
theorem IZ:ao PD ["_law_yard", "_law_lanes_here", "_law_places"] (ah dZ):=L2.AG
theorem Nz:Bv PD (ah dZ) (vb ((aE dZ).getD 0 (.Pass ⟨0,0,0,0⟩))) ["_law_yard"] [0]:=L2.Cu
theorem N0:Bv PD (ah dZ) (vb ((aE dZ).getD 1 (.Pass ⟨0,0,0,0⟩))) ["_law_yard"] [0]:=L2.Cu
noncomputable def T4 (i:Nat)(s:Stmt):Scope:=match s with
 | .Return (some (.List es _)) _=>(match es.getD i (.Name "" ⟨0,0,0,0⟩) with
  | .ListComp _ _ sc _=>sc
  | _=>{ kind := .function,names:=[],isGenerator:=false,isCoroutine:=false })
 | _=>{ kind := .function,names:=[],isGenerator:=false,isCoroutine:=false }
theorem N1:Bv PD (ah dZ) (T4 2 ((aE dZ).getD 2 (.Pass ⟨0,0,0,0⟩))) ["_law_yard"] [0]:=L2.Cu
theorem N2:(["_law_number", "_law_yard"]:List Str).Nodup:=by decide +kernel
theorem N3:(["_law_lane", "_law_yard"]:List Str).Nodup:=by decide +kernel
theorem N4:(["_law_place", "_law_yard"]:List Str).Nodup:=by decide +kernel
theorem uf {c:Cs}{ys:Ys}{J:TJ}{TC f fw' ft fw fp fy fm fh:Addr}{fd dw' dt dw dp dy dm dh:FuncData}(F:AA K "_law_stand" "_law_stand" dZ f fd)(T:dE mg)(Y:hU K ys)(W':Wy K TC fw' dw' J)(S:XH P w K mg base c TC J ys ft fw fp fy fm fh dt dw dp dy dm dh) :
  Ac P w K mg base aC 8 f fd ["_law_yard", "_law_lanes_here", "_law_places"] (py K c TC J ys):=by
 refine F.ok IZ (fun vs H Q E h=>?_) (fun cdv A outer s H vs Q E hr h=>?_)
 ·obtain⟨_,a,s,_,rfl,_⟩:=h
  rfl
 ·obtain⟨N,a,st,FY,rfl,hI,Pn,Fb,WQ,q⟩:=h
  have Bb:Al 1 _:=hr.mono (by decide)
  have Bw:Al 2 _:=hr.mono (by decide)
  refine⟨_,af (c8 (i:=3) (own:=["_law_number"]) (capN:=["_law_yard"]) (cap:=[0]) Nz rfl IZ.nd rfl rfl (aM rfl T.range (aa (aW (pv 0) Y.cl S.mp S.Gp Bb S.bp .nil ap) ad)) (fun C s' H' fp=>⟨ay (i:=0) N2 rfl (Or.inl rfl),ca,aD (pv 1) Y.cl S.mw S.Gw Bb S.bw .nil ap (aa (pv 0) ad)⟩))
   (af (c8 (i:=4) (own:=["_law_lane"]) (capN:=["_law_yard"]) (cap:=[0]) N0 rfl IZ.nd rfl rfl (aM rfl T.range (aa (pv 1) ad)) (fun C s' H' fp=>⟨ay (i:=0) N3 rfl (Or.inl rfl),ca,aD (pv 1) Y.cl S.mt S.Gt Bw S.bt .nil ap (aa (pv 0) ad)⟩))
   (ai (ar (aX (aa (pv 4) (aa (pv 3) (aa (bA (own:=["_law_place"]) (capN:=["_law_yard"]) (cap:=[0]) N1 rfl (aM rfl T.range (aa (pv 2) ad)) (fun C s' H' fp=>⟨ay (i:=0) N4 rfl (Or.inl rfl),ca,aD (pv 1) Y.cl S.my S.Gy Bb S.S2 .nil ap (aa (pv 0) ad)⟩)) (aa (aW (pv 0) Y.cl S.mm S.Gm hr S.bm .nil ap) (aa (aW (pv 0) Y.cl S.mh S.Gh Bb S.bh .nil ap) ad))))))))),?_⟩
  have hY:=hI.Y
  have Eo:(iT st).length=st.U.length:=length_map ..
  refine⟨_,rfl,a.y,a.dy,_,rfl,hY.ins,rfl,a.y,a.dy,a.tb,a.ro,a.la,a.le,a.li,a.dn,st,rfl,hY,(st.U.length:Int),rfl,by omega,by omega,?_⟩
  rw[toNat_natCast,← Eo]
  refine j8 (R:=FV N) (fun s=>FV.same s) (iT st) (by rw[sizeLine_eq];omega) (fun i y H1 N' hy s1 hN=>?_) (fun W CT H1 s1 hW pW=>?_)
  ·have Cg:=Ak.same hY s1
   obtain⟨t,ht,rfl⟩:∃ t,st.U[i]? = some t/\t.way=y:=by
    unfold iT at hy
    rw[List.getElem?_map]at hy
    cases hx:st.U[i]? with
    | none=>rw[hx]at hy;cases hy
    | some t=>rw[hx]at hy;exact⟨t,rfl,Option.some.inj hy⟩
   exact⟨_,rfl,a.y,a.dy,_,rfl,Cg.ins,rfl,_,rfl,a.y,a.dy,a.tb,a.ro,a.la,a.le,a.li,a.dn,st,i,t,rfl,Cg,ht,fun x H2 s2 hx gx=>hN _ H2 s2 ⟨x,rfl,gx,FY _ (s1.free hx)⟩⟩
  have s2:=s1.new (o := .lst CT) hW
  have gW:(upd H1 W (.lst CT)) W=some (.lst CT):=ac
  have XI:=Paired.mono (fun v l=>FV.same ((Ab.refl H1).new (o := .lst CT) hW) v l) pW
  have nW:=FY _ (s1.free hW)
  show dO 3 (V.ref W) _ (upd H1 W (.lst CT)) _
  generalize upd H1 W (.lst CT)=H2 at s2 gW XI ⊢
  have C6:=Ak.same hY s2
  refine⟨_,rfl,(st.lanes.length:Int),rfl,by omega,by omega,?_⟩
  rw[toNat_natCast]
  refine j8 (R:=FU N) (fun s=>FU.same s) st.lanes (by rw[sizeLine_eq];omega) (fun i ln H9 N' AQ s9 hN=>?_) (fun L Ap H5 s5 hL pL=>?_)
  ·have HH:=Ak.same C6 s9
   exact⟨_,rfl,a.y,a.dy,_,rfl,HH.ins,rfl,_,rfl,a.y,a.dy,a.tb,a.ro,a.la,a.le,a.li,a.dn,st,i,ln,rfl,HH,AQ,fun t ql Au Hx sx F8 gt RS T5=>hN _ Hx sx ⟨t,ql,Au,rfl,gt,RS,T5,FY _ ((s2.trans s9).free F8)⟩⟩
  have u6:=s5.new (o := .lst Ap) hL
  have s6:=s2.trans u6
  have gL:(upd H5 L (.lst Ap)) L=some (.lst Ap):=ac
  have XJ:=Paired.mono (fun v l=>FU.same ((Ab.refl H5).new (o := .lst Ap) hL) v l) pL
  have nL:=FY _ ((s2.trans s5).free hL)
  show dO 4 (V.ref L) _ (upd H5 L (.lst Ap)) _
  generalize upd H5 L (.lst Ap)=H6 at u6 s6 gL XJ ⊢
  have HI:=Ak.same hY s6
  refine⟨_,rfl,_,rfl,_,rfl,(st.lies.length:Int),rfl,by omega,by omega,?_⟩
  rw[toNat_natCast]
  refine j8 (R:=FW N) (fun s=>FW.same s) st.lies (by rw[sizeLine_eq];omega) (fun i qs H9 N' C9 s9 hN=>?_) (fun X Du H7 s7 hX pX=>?_)
  ·have HH:=Ak.same HI s9
   exact⟨_,rfl,a.y,a.dy,_,rfl,HH.ins,rfl,_,rfl,a,st,i,qs,rfl,HH,C9,fun D Au Hx sx hD gD T5=>hN _ Hx sx ⟨D,Au,rfl,gD,T5,FY _ ((s6.trans s9).free hD)⟩⟩
  have u8:=s7.new (o := .lst Du) hX
  have s8:=s6.trans u8
  have gX:(upd H7 X (.lst Du)) X=some (.lst Du):=ac
  have XN:=Paired.mono (fun v l=>FW.same ((Ab.refl H7).new (o := .lst Du) hX) v l) pX
  have nX:=FY _ ((s6.trans s7).free hX)
  generalize upd H7 X (.lst Du)=H8 at u8 s8 gX XN ⊢
  have T6:=hI.same W' s8
  refine⟨_,rfl,a.y,a.dy,_,rfl,T6.Y.ins,rfl,a,st,rfl,T6,fun M As H9 s9 hM gM pM=>?_⟩
  have HH:=Ak.same T6.Y s9
  refine⟨_,rfl,a.y,a.dy,_,rfl,HH.ins,rfl,a.y,a.dy,a.tb,a.ro,a.la,a.le,a.li,a.dn,st,rfl,HH,fun D AE Ha sa hD gD pD=>?_⟩
  refine⟨by show 5 <= sizeLine;decide,fun t ht=>?_⟩
  have va:=(Ab.refl Ha).new (o := .lst [.ref L, .ref W, .ref X, .ref M, .ref D]) ht
  have v9:=sa.trans va
  have v8:=s9.trans v9
  have v6:=u8.trans v8
  have v2:=u6.trans v6
  have T7:=s8.trans v8
  refine q (.ref t) _ T7 ⟨t,L,W,X,M,D,Ap,CT,Du,As,AE,rfl,ac,v6 _ _ gL,Paired.mono (fun v l=>FU.same v6 v l) XJ,v2 _ _ gW,Paired.mono (fun v l=>FV.same v2 v l) XI,v8 _ _ gX,Paired.mono (fun v l=>FW.same v8 v l) XN,v9 _ _ gM,Paired.mono (fun v l=>iN v9 v l) pM,va _ _ gD,Paired.mono (fun v l=>iN va v l) pD,fun z hz=>?_⟩
  simp only[mem_cons,not_mem_nil,or_false]at hz
  rcases hz with rfl | rfl | rfl | rfl | rfl | rfl
  ·exact FY _ ((s8.trans (s9.trans sa)).free ht)
  ·exact nL
  ·exact nW
  ·exact nX
  ·exact FY _ (s8.free hM)
  ·exact FY _ ((s8.trans s9).free hD)
theorem AH.N5 {K:Frag}{ys:Ys}{e e':List Addr}{H H':Hp}{a:YA}{s:YS}(h:AH K (yx ys e) H a s)(o:Ab H H')(hx:∀ b ∈ e',b ∈ e∨(H b=none/\∃ zs,H' b=some (.lst zs))):AH K (yx ys e') H' a s:=by
 have Nn:∀ p:Addr,(∃ u,H p=some u)->p ∉ a.la :: a.le :: a.li :: a.dn :: e->p ∉ a.la :: a.le :: a.li :: a.dn :: e':=fun p ⟨u,hu⟩ hn z=>by
  have en:∀ q:List Addr,a.la :: a.le :: a.li :: a.dn :: q=[a.la,a.le,a.li,a.dn] ++ q:=fun _=>rfl
  rw[en]at z hn
  rcases mem_append.mp z with z | z
  ·exact hn (mem_append_left _ z)
  ·rcases hx p z with z | ⟨z,_⟩
   ·exact hn (mem_append_right _ z)
   ·rw[z]at hu;cases hu
 obtain⟨v1,h1,p1⟩:=h.AZ
 obtain⟨v2,h2,p2⟩:=h.hle
 have h':=Ak.same h o
 refine⟨h'.ins,h'.GV,⟨v1,o _ _ h1,Paired.mono (fun v ln z=>?_) p1⟩,⟨v2,o _ _ h2,Paired.mono (fun v t z=>?_) p2⟩,h'.Ca,h'.BD,h'.ne,fun b hb=>?_⟩
 ·obtain⟨x,dx,pa,Au,ev,L,n⟩:=z
  exact⟨x,dx,pa,Au,ev,L.same o,Nn pa ⟨_,L.lst⟩ n⟩
 ·obtain⟨x,dx,wa,ev,C4,hw,n⟩:=z
  exact⟨x,dx,wa,ev,o _ _ C4,o _ _ hw,Nn wa ⟨_,hw⟩ n⟩
 ·rcases hx b hb with z | ⟨_,z⟩
  ·obtain⟨zs,hz⟩:=h.hex b z
   exact⟨zs,o _ _ hz⟩
  ·exact z
theorem AH.FZ {K:Frag}{ys:Ys}{e:List Addr}{H H':Hp}{a:YA}{s:YS}(h:AH K ys H a s)(o:Ai e H H')(hs:∀ b ∈ e,b ∈ ys.ex)(hn:∀ b ∈ a.four,b ∉ e)(hl:∀ b ∈ e,∃ zs,H' b=some (.lst zs)):AH K ys H' a s:=by
 have o2:Ai (a.la :: a.le :: a.li :: a.dn :: ys.ex) H H':=o.mono fun b hb=>by simp[hs b hb]
 obtain⟨h1,h2,f1,f2,f3,f4⟩:=Ak.off h o2
 obtain⟨v1,a1,p1⟩:=h.AZ
 obtain⟨v2,a2,p2⟩:=h.hle
 obtain⟨v3,a3,p3⟩:=h.Ca
 obtain⟨v4,a4,p4⟩:=h.BD
 refine⟨h1,h2,⟨v1,o _ _ (hn _ (by simp)) a1,f1 _ _ p1⟩,⟨v2,o _ _ (hn _ (by simp)) a2,f2 _ _ p2⟩,⟨v3,o _ _ (hn _ (by simp)) a3,f3 _ _ p3⟩,⟨v4,o _ _ (hn _ (by simp)) a4,f4 _ _ p4⟩,h.ne,fun b hb=>?_⟩
 by_cases Cv:b ∈ e
 ·exact hl b Cv
 ·obtain⟨zs,hz⟩:=h.hex b hb
  exact⟨zs,o _ _ Cv hz⟩
theorem uv {m:Nat}{rs:List Int}(DB:rs.length=m)(JP:∀ r ∈ rs,1 <= r/\r <= 60):mz m (rs.map V.int)=true:=by
 unfold mz
 rw[length_map,DB,decide_eq_true rfl,Bool.true_and,all_eq_true]
 intro v hv
 obtain⟨r,G7,rfl⟩:=mem_map.mp hv
 exact decide_eq_true (JP r G7)
noncomputable def XO (K:Frag)(c:Cs)(TC:Addr)(J:TJ)(ys:Ys)(ex:List Addr)(H:Hp)(tb:Addr)(ps:List (Int × Int))(n:Nat)(wy:Wf)(rs:List Int):VK:=fun v H'=>∃ a:YA,v = .ref a.y/\a.tb=tb/\a.ps=ps/\a.n=n/\a.wy=wy/\Ab H H'/\(∀ z ∈ a.four,H z=none)/\Cz K c TC J (yx ys ex) H' a (Y0 (rs.map V.int) n)/\Bn a (Y0 (rs.map V.int) n)
theorem vp {P:Program}{w:World}{K:Frag}{c:Cs}{TC fw nr:Addr}{dw:FuncData}{J:TJ}{ys:Ys}{ex:List Addr}{H:Hp}{tb lx AF lt ra:Addr}{n:Nat}{Ao:List V}{ps:List (Int × Int)}{wy:Wf}{rs:List Int}{E:XK}(W:Wy K TC fw dw J)
  (hT:AO c TC J H tb lx AF lt n Ao ps wy) (D1:∀ p g k,(wy p g k).length <= 400) (Aj:∀ p ∈ ps,jp n p=true) (hR:Ah K H ra (rs.map V.int)) (DB:rs.length=ps.length) (JP:∀ r ∈ rs,1 <= r/\r <= 60) (hp:ps.length <= 8) (hex:∀ b ∈ ex,∃ xs,H b=some (.lst xs)) :
  ∀ y dy,H y=none->H dy=none->dy ≠ y->ph K c TC J (yx ys ex) nr [.ref y, .ref tb, .ref ra] (upd (upd H dy (.own y)) y (.ins ys.Ad dy [])) (fun v H2=>v = .Av/\XO K c TC J ys ex H tb ps n wy rs (.ref y) H2) E:=by
 intro y dy ny Nq Nr
 have s4:Ab H (upd (upd H dy (.own y)) y (.ins ys.Ad dy [])):=Ab.new (Ab.new (Ab.refl H) Nq) (by rw[ae (Ne.symm Nr)];exact ny)
 have T8:=uv DB JP
 refine⟨y,dy,tb,lx,AF,lt,n,Ao,ps,wy,_,rs.map V.int,rfl,ac,hT.keep W (Ab.Am s4),(fun b hb=>let ⟨xs,hz⟩:=hex b hb; ⟨xs,s4 _ _ hz⟩), .inr ⟨ra,rfl, .inl (s4.seq hR),by rw[length_map];omega,(fun v hv=>by obtain⟨r,_,rfl⟩:=mem_map.mp hv;exact .int r),fun h=>by rw[T8]at h;cases h⟩,fun _ ro la le li dn H5 o5 FE Hh J8 JA hY=>⟨rfl,?_⟩⟩
 have s5:Ab H H5:=fun b o e=>o5 b o (fun z=>by rw[mem_singleton.mp z,ny]at e;cases e) (s4 _ _ e)
 have hO:MI ⟨y,dy,tb,ro,la,le,li,dn,lx,AF,lt,n,Ao,ps,wy⟩:=by
  refine⟨fun l pr hl=>?_,D1⟩
  have N6:=Aj pr (mem_of_getElem? hl)
  unfold jp at N6
  simp only[Bool.and_eq_true,decide_eq_true_eq,Bool.not_eq_true',decide_eq_false_iff_not]at N6
  exact⟨pr.2.toNat,by omega,by show pr.2.toNat < n;omega⟩
 have hJ:Bn ⟨y,dy,tb,ro,la,le,li,dn,lx,AF,lt,n,Ao,ps,wy⟩ (Y0 (rs.map V.int) n):=(SU (a:=⟨y,dy,tb,ro,la,le,li,dn,lx,AF,lt,n,Ao,ps,wy⟩) (by rw[length_map];exact DB)).jnv (zero_le _) (by show ps.length <= 40;omega)
 refine⟨⟨y,dy,tb,ro,la,le,li,dn,lx,AF,lt,n,Ao,ps,wy⟩,rfl,rfl,rfl,rfl,rfl,s5,fun z hz=>?_,⟨hY,hT.keep W (Ab.Am s5),hO,hJ.ok⟩,hJ⟩
 have hz:z ∈ [la,le,li,dn]:=hz
 simp only[mem_cons,not_mem_nil,or_false]at hz
 rcases hz with rfl | rfl | rfl | rfl
 ·exact s4.free FE
 ·exact s4.free Hh
 ·exact s4.free J8
 ·exact s4.free JA
theorem Bn.twin {a:YA}{s:YS}(J:Bn a s){y dy ro la le li dn:Addr}:Bn (a.twin y dy ro la le li dn) s:=⟨J.lanes,J.lies,J.Bd,J.Eg,J.lets,J.Bm,J.Bl,J.Cc,J.Bj,J.last,J.head,J.first,J.Dt,J.sum⟩
noncomputable def kA (ns:List Int)(k:Nat):Int:=ns.getD k 0
noncomputable def gZ (ns:List Int)(k:Nat):Int:=if kA ns (6 + k) % 3=0 then -1 - kA ns (6 + k) else kA ns (6 + k)
noncomputable def pB (K:Frag):Sp:=fun vs H Q _=>∃ (a:Addr)(ns:List Int)(k:Nat),vs=[.ref a, .int k]/\Ah K H a (ns.map V.int)/\Q (.int (kA ns k)) H
noncomputable def sJ (K:Frag):Sp:=fun vs H Q _=>∃ (a:Addr)(ns:List Int)(k:Nat),vs=[.ref a, .int k]/\Ah K H a (ns.map V.int)/\Q (.int (gZ ns k)) H
theorem ur {f:Addr}{fd:FuncData}(F:AA K "_law_cell_at" "_law_cell_at" pJ f fd)(T:dE mg):Ac P w K mg base aC 1 f fd ["_law_script", "_law_k"] (pB K):=by
 refine F.ok sN (fun vs H Q E h=>?_) (fun cdv A outer s H vs Q E hr h=>?_)
 ·obtain⟨a,ns,k,rfl,_⟩:=h
  rfl
 ·obtain⟨a,ns,k,rfl,hS,q⟩:=h
  refine⟨_,af (aP (aw jo (pv 1) (av aq rfl T.len PySem.boot_len (aa (pv 0) ad)) (aB _))
    (ai (ar (ax aL (pv 0) (pv 1) (fun _ _=>rfl)))) aH) (ai (ar aj)),?_⟩
  refine⟨_,rfl,_,rfl,a,_,rfl, .inl hS,_,_,rfl,rfl,_,rfl,?_⟩
  unfold kA at q
  refine KC (fun h=>?_) fun h=>?_
  ·have h':(k:Int) < ((ns.map V.int).length:Nat):=of_decide_eq_true h
   rw[length_map]at h'
   have hk:k < ns.length:=by omega
   rw[getD_eq_getElem?_getD,List.getElem?_eq_getElem hk]at q
   exact⟨_,rfl,_,rfl,a,_,k,V.int ns[k],rfl,rfl,hS,ak (by simp[hk]),q⟩
  ·have h':¬ (k:Int) < ((ns.map V.int).length:Nat):=fun z=>h (decide_eq_true z)
   rw[length_map]at h'
   rw[getD_eq_getElem?_getD,List.getElem?_eq_none (by omega)]at q
   exact q
theorem N7:ao ["_law_script", "_law_k", "_law_cell"] ["_law_script", "_law_k"] (ah yC):=L2.AG
theorem zk {f fc:Addr}{fd dc:FuncData}(F:AA K "_law_answer" "_law_answer" yC f fd)(mc:mg "_law_cell_at" = some (.ref fc))(kc:keepIn K (.ref fc)=true)(bc:Binds K dc ["_law_script", "_law_k"] [])(Gc:Ac P w K mg base aC 1 fc dc ["_law_script", "_law_k"] (pB K)) :
  Ac P w K mg base aC 2 f fd ["_law_script", "_law_k"] (sJ K):=by
 refine F.ok N7 (fun vs H Q E h=>?_) (fun cdv A outer s H vs Q E hr h=>?_)
 ·obtain⟨a,ns,k,rfl,_⟩:=h
  rfl
 ·obtain⟨a,ns,k,rfl,hS,q⟩:=h
  refine⟨_,af (aA (i:=2) N7.nd rfl (Or.inl rfl) (au Gc hr rfl mc kc bc .nil ap (aa (pv 0) (aa (aG bT aj (pv 1)) ad))))
   (af (aP (aw bC (aG bG (pv 2) aj) aj (aB _)) (ai (ar (aG cx (Kq xO aj) (pv 2)))) aH) (ai (ar (pv 2)))),?_⟩
  refine⟨_,rfl,_,rfl,_,_,rfl,rfl,a,ns,6 + k,?_,hS,?_⟩
  ·show [V.ref a,V.int (6 + (k:Int))]=[V.ref a,V.int ((6 + k:Nat):Int)]
   rw[Int.natCast_add];rfl
  unfold gZ at q
  generalize kA ns (6 + k)=d at q ⊢
  refine⟨_,rfl,_,_,rfl,rfl,(by show (0:Int) < 3;decide),rfl,_,rfl,?_⟩
  dsimp only
  by_cases h0:d % 3=0
  ·rw[decide_eq_true (show V.int (d % 3)=V.int 0 by rw[h0])]
   rw[if_pos h0]at q
   exact aK ⟨_,rfl,_,rfl,_,_,rfl,rfl,q⟩
  ·rw[decide_eq_false (show ¬ V.int (d % 3)=V.int 0 from fun z=>h0 (V.int.inj z))]
   rw[if_neg h0]at q
   exact aI ⟨_,rfl,q⟩
theorem BQ.det {a:YA}{s s1 s2:YS}{m:Mv}(h1:BQ a s m s1)(h2:BQ a s m s2):s1=s2:=by
 cases h1 with
 | B8 ht hg hl AQ ho =>
  cases h2 with
  | B8 JQ hg' D4 Cp E3 =>
   rw[ht]at JQ;cases JQ
   rw[AQ]at Cp;cases Cp
   rfl
 | on hk hq ht hl AQ ho =>
  cases h2 with
  | on Eu BU JQ D4 Cp E3 =>
   rw[hk]at Eu;cases Eu
   rw[hq]at BU
   have e:=Option.some.inj BU
   have e1:=congrArg Prod.fst e
   have e2:=congrArg Prod.snd e
   have e1:=Int.ofNat.inj e1
   cases e1;cases e2
   rw[ht]at JQ;cases JQ
   rw[AQ]at Cp;cases Cp
   rfl
 | CS hk hq ht hg he C9 =>
  cases h2 with
  | CS Eu BU JQ hg' P8 N8 =>
   rw[hk]at Eu;cases Eu
   rw[hq]at BU
   have e:=Option.some.inj BU
   have e1:=congrArg Prod.fst e
   have e2:=congrArg Prod.snd e
   have e1:=Int.ofNat.inj e1
   cases e1;cases e2
   rw[he]at P8
   have e3:=Int.ofNat.inj P8
   cases e3
   rw[C9]at N8;cases N8
   rfl
 | back hk hb =>
  cases h2 with
  | back Eu BW=>rw[hk]at Eu;cases Eu;rfl
theorem BQ.twin {a:YA}{y dy ro la le li dn:Addr}{s s1:YS}{m:Mv}(h:BQ (a.twin y dy ro la le li dn) s m s1):BQ a s m s1:=by
 cases h with
 | B8 ht hg hl AQ ho=>exact .B8 ht hg hl AQ ho
 | on hk hq ht hl AQ ho=>exact .on hk hq ht hl AQ ho
 | CS hk hq ht hg he C9=>exact .CS hk hq ht hg he C9
 | back hk hb=>exact .back hk hb
theorem wI (a:YA)(s:YS)(y dy ro la le li dn:Addr):bu (a.twin y dy ro la le li dn) s=bu a s:=rfl
noncomputable def i4 (a:YA)(s:YS)(d:Int):Option Mv:=(bu a s)[(d % ((bu a s).length:Int)).toNat]?
noncomputable abbrev xj (s s1:YS)(m:Mv):YS:={ s1 with done:=s.done ++ [dD m] }
inductive Tr (a:YA)(g:Nat->Int)(s0:YS):List (YS × Mv)->YS->Prop
 | nil:Tr a g s0 [] s0
 | snoc {l:List (YS × Mv)} {s s1:YS} {m:Mv} (h:Tr a g s0 l s) (p:i4 a s (g l.length)=some m) (st:BQ a s m s1):Tr a g s0 (l ++ [(s,m)]) (xj s s1 m)
noncomputable def gj (l:List (YS × Mv))(s':YS)(k:Nat):YS:=(l[k]?.map (·.1)).getD s'
theorem Tr.Dt {a:YA}{g:Nat->Int}{s0 s':YS}{l:List (YS × Mv)}(h:Tr a g s0 l s'):gj l s' 0=s0:=by
 have key:(l=[]->s' = s0)/\∀ q,l[0]? = some q->q.1=s0:=by
  induction h with
  | nil=>exact⟨fun _=>rfl,fun q hq=>by cases hq⟩
  | @snoc l s s1 m h p st ih =>
   refine⟨fun e=>absurd e (by simp),fun q hq=>?_⟩
   cases l with
   | nil =>
    have e:(s,m)=q:=Option.some.inj hq
    rw[← e]
    exact ih.1 rfl
   | cons z r=>exact ih.2 q hq
 unfold gj
 cases e:l[0]? with
 | none =>
  refine key.1 ?_
  cases l with
  | nil=>rfl
  | cons z r=>cases e
 | some q=>exact key.2 q e
theorem Tr.step {a:YA}{g:Nat->Int}{s0 s':YS}{l:List (YS × Mv)}(h:Tr a g s0 l s'):∀ (k:Nat),k < l.length->∃ (s s1:YS)(m:Mv),l[k]? = some (s,m)/\gj l s' k=s/\i4 a s (g k)=some m/\BQ a s m s1/\gj l s' (k + 1)=xj s s1 m:=by
 induction h with
 | nil=>intro k hk;exact absurd hk (not_lt_zero _)
 | @snoc l s s1 m h p st ih =>
  intro k hk
  rw[length_append,length_singleton]at hk
  have e2:(l ++ [(s,m)])[l.length]? = some (s,m):=List.getElem?_concat_length
  have e3:(l ++ [(s,m)])[l.length + 1]? = none:=List.getElem?_eq_none (by rw[length_append,length_singleton];omega)
  by_cases IU:k < l.length
  ·obtain⟨t,t1,m',h1,h2,h3,h4,h5⟩:=ih k IU
   have e1:(l ++ [(s,m)])[k]? = some (t,m'):=by rw[List.getElem?_append_left IU];exact h1
   refine⟨t,t1,m',e1,by unfold gj;rw[e1];rfl,h3,h4,?_⟩
   by_cases XQ:k + 1 < l.length
   ·rw[← h5]
    unfold gj
    rw[List.getElem?_append_left XQ,List.getElem?_eq_getElem XQ];rfl
   ·have ek:k + 1=l.length:=by omega
    rw[← h5]
    unfold gj
    rw[ek,e2,List.getElem?_eq_none (le_refl _)];rfl
  ·have ek:k=l.length:=by omega
   subst ek
   refine⟨s,s1,m,e2,by unfold gj;rw[e2];rfl,p,st,?_⟩
   unfold gj
   rw[e3];rfl
theorem Tr.fin {a:YA}{g:Nat->Int}{s0 s':YS}{l:List (YS × Mv)}(h:Tr a g s0 l s'):gj l s' l.length=s':=by
 unfold gj
 rw[List.getElem?_eq_none (le_refl _)];rfl
theorem pN {a:YA}{s:YS}{d:Int}{m:Mv}(h:i4 a s d=some m):0 < (bu a s).length/\m ∈ bu a s:=by
 unfold i4 at h
 have:=(List.getElem?_eq_some_iff.mp h).1
 exact⟨by omega,mem_of_getElem? h⟩
noncomputable def DE (N:Addr->Prop)(H:Hp)(a:YA)(v:V)(s:YS):Prop:=∃ (p:Addr)(As:List V),v = .ref p/\N p/\H p=some (.lst As)/\Paired (Bc H) As ((bu a s).map dD)
theorem DE.off {N:Addr->Prop}{H H':Hp}{a:YA}{ex:List Addr}(k:Ax H H')(o:Ai ex H H')(hn:∀ z,N z->z ∉ ex)(v:V)(s:YS)(h:DE N H a v s):DE N H' a v s:=by
 obtain⟨p,As,e,n,g,r⟩:=h
 exact⟨p,As,e,n,o _ _ (hn _ n) g,Paired.mono (fun v m z=>z.keep k) r⟩
noncomputable abbrev dH:Stmt:=(aE iB).getD 10 (.Pass ⟨0,0,0,0⟩)
noncomputable abbrev NPk:List Str:=["_law_moves", "_law_script", "_law_asked"]
noncomputable abbrev T9:List Str:=["_law_script", "_law_asked"]
noncomputable def nR (K:Frag)(sc la:Addr)(ns:List Int):Sp:=fun vs H Q _=>∃ (p:Addr)(As Bp:List V),vs=[.ref p]/\H p=some (.lst As)/\p ≠ la/\H la=some (.lst Bp)/\Bp.length <= 1000/\(∀ H',Ai [la,p] H H'->Ah K H' sc (ns.map V.int)) /\
 ∀ (l:Addr)(H':Hp),Ai [la,p] H H'->H l=none->H' l=some (.lst As)->H' la=some (.lst (Bp ++ [.ref l]))->Q (.int (gZ ns Bp.length)) H'
noncomputable def pz (K:Frag)(c:Cs)(TC:Addr)(J:TJ)(ys:Ys)(pk sc la:Addr)(ns:List Int):Sp:=fun vs H Q _=>∃ (a:YA)(s:YS)(most:Int),vs=[.ref a.y, .ref pk, .int most]/\Cz K c TC J ys H a s/\Bn a s/\la ∈ ys.ex/\la ∉ a.four/\H la=some (.lst [])/\s.done.length <= 1000/\most <= 100/\(∀ H',Ai (la :: a.four) H H'->Ah K H' sc (ns.map V.int)) /\
 ∀ (D:Addr)(AE Bp:List V)(l:List (YS × Mv))(s':YS)(H':Hp),Ai (la :: a.four) H H'->AH K ys H' a s'->Bn a s'->CB s s'->Tr a (gZ ns) s l s'->H D=none->H' D=some (.lst AE)->Paired (Bc H') AE (l.map fun q=>dD q.2)->H' la=some (.lst Bp)->Paired (DE (fun z=>H z=none) H' a) Bp (l.map (·.1))->(l.length:Int) <= max 0 most->l.length <= 100->((l.length:Int) < most->bu a s' = [])->Q (.ref D) H'
theorem TB:jC NPk ["_law_moves"] T9 (ah dH):=⟨rfl,rfl,rfl,by decide +kernel,rfl,by decide +kernel,by decide +kernel,by decide +kernel,by decide +kernel⟩
theorem wo {f c' sc la fa:Addr}{clos:List (Str × Addr)}{doc pm BB:Value}{oc:Obj}{da:FuncData}{ns:List Int}(lk:base.get? f=some (PySem.W.fnMade "_law_pick" "law.<locals>._law_pick" (bv dH) (aE dH) (ah dH) clos doc pm c' BB))(El:base.get? c' = some oc)(BG:jF oc "law.<locals>._law_pick")(C:Lu base clos T9 [.ref sc, .ref la])(T:dE mg)
  (ma:mg "_law_answer" = some (.ref fa)) (ka:keepIn K (.ref fa)=true) (ba:Binds K da ["_law_script", "_law_k"] []) (Ga:Ac P w K mg base aC 2 fa da ["_law_script", "_law_k"] (sJ K)) :
  Ac P w K mg base aC 3 f (PySem.W.fnX "_law_pick" "law.<locals>._law_pick" (bv dH) (aE dH) (ah dH) clos .none .none doc pm none (.ref c') BB) ["_law_moves"] (nR K sc la ns):=by
 refine zG lk El BG TB C (fun vs H Q E h=>?_) (fun A outer s H vs Q E hr h=>?_)
 ·obtain⟨p,As,Bp,rfl,_⟩:=h
  rfl
 ·obtain⟨p,As,Bp,rfl,gp,Pp,gl,PF,Dq,q⟩:=h
  refine⟨_,af (aN (cu plainAttrs_list PySem.F.slot_list_append PySem.F.type_list_append bD (pv 2) (aa (aY aS rfl T.list PySem.Pv.boot_list (aa (pv 0) ad)) ad)))
   (af (aN (tV plainAttrs_list PySem.F.slot_list_clear PySem.F.type_list_clear uA (pv 0)))
   (ai (ar (au Ga hr rfl ma ka ba .nil ap (aa (pv 1) (aa (aG cx (av aq rfl T.len PySem.boot_len (aa (pv 2) ad)) aj) ad)))))),?_⟩
  refine⟨_,rfl, .inl ⟨rfl,_,Ah.of gl⟩,_,rfl,p,As,rfl, .inl (Ah.of gp),fun l hl=>?_⟩
  have s1:=(Ab.refl H).new (o := .lst As) hl
  have nlp:l ≠ p:=Ne.symm (ag gp hl)
  have nll:l ≠ la:=Ne.symm (ag gl hl)
  refine⟨la,Bp, .ref l,rfl,rfl,s1 _ _ gl,by rw[sizeLine_eq];omega,?_⟩
  have g2:(upd (upd H l (.lst As)) la (.lst (Bp ++ [.ref l]))) p=some (.lst As):=by rw[ae Pp];exact s1 _ _ gp
  refine⟨_,rfl, .inl ⟨rfl,_,Ah.of g2⟩,p,_,rfl,rfl,g2,?_⟩
  have o3:Ai [la,p] H (upd (upd (upd H l (.lst As)) la (.lst (Bp ++ [.ref l]))) p (.lst [])):=fun b o hb e=>by
   simp only[mem_cons,not_mem_nil,or_false,not_or]at hb
   rw[ae hb.2,ae hb.1]
   exact s1 _ _ e
  have Pt:(upd (upd (upd H l (.lst As)) la (.lst (Bp ++ [.ref l]))) p (.lst [])) l=some (.lst As):=by rw[ae nlp,ae nll];exact ac
  have Gj:(upd (upd (upd H l (.lst As)) la (.lst (Bp ++ [.ref l]))) p (.lst [])) la=some (.lst (Bp ++ [.ref l])):=by rw[ae (Ne.symm Pp)];exact ac
  generalize upd (upd (upd H l (.lst As)) la (.lst (Bp ++ [.ref l]))) p (.lst [])=H3 at o3 Pt Gj ⊢
  refine⟨_,rfl,_,rfl,la,_,rfl, .inl (Ah.of Gj),_,_,rfl,rfl,sc,ns,Bp.length,?_,Dq H3 o3,q l H3 o3 hl Pt Gj⟩
  show [V.ref sc,V.int ((((Bp ++ [V.ref l]).length:Nat):Int) - 1)]=[V.ref sc,V.int (Bp.length:Int)]
  rw[length_append,length_singleton,show(((Bp.length + 1:Nat):Int) - 1)=(Bp.length:Int) by omega]
noncomputable abbrev NRu:List Str:=["yard", "pick", "most", "made", "moves", "number", "move"]
theorem Eh:ao NRu ["yard", "pick", "most"] (ah yw):=L2.AG
theorem yU {c:Cs}{ys:Ys}{J:TJ}{TC f fw fm XR pk sc la:Addr}{fd dw dm dd dp:FuncData}{ns:List Int}(F:AA K "run" "run" yw f fd)(T:dE mg)(Y:hU K ys)(W:Wy K TC fw dw J)
  (mm:bz K ys.Ad "moves" fm) (bm:Binds K dm ["self"] []) (Gm:∀ ex,Ac P w K mg base aC 7 fm dm ["self"] (iE K c TC J (yx ys ex)))
  (md:bz K ys.Ad "do" XR) (bd:Binds K dd ["self", "move"] []) (Gd:∀ ex,Ac P w K mg base (dR P w) 8 XR dd ["self", "move"] (yj K c TC J (yx ys ex)))
  (hp:PySem.W.FnAt pk base) (bp:Binds K dp ["_law_moves"] []) (Gp:Ac P w K mg base aC 3 pk dp ["_law_moves"] (nR K sc la ns)) :
  Ac P w K mg base aC 9 f fd ["yard", "pick", "most"] (pz K c TC J ys pk sc la ns):=by
 refine F.ok Eh (fun vs H Q E h=>?_) (fun cdv A outer s H vs Q E hr h=>?_)
 ·obtain⟨a,s,most,rfl,_⟩:=h
  rfl
 ·obtain⟨a,st,most,rfl,hI,hJ,hlx,Po,AU,Wo,XS,Dq,q⟩:=h
  have hr3:Al 3 _:=hr.mono (by decide)
  have Ja:Al 7 _:=hr.mono (by decide)
  have GM:=Ac.ex Gm
  have GD:=Ac.ex Gd
  refine⟨_,af (aA (i:=3) Eh.nd rfl (Or.inl rfl) (aX ad))
   (af (aA (i:=4) Eh.nd rfl (Or.inl rfl) (aW (pv 0) Y.cl mm GM Ja bm .nil ap))
   (af (lU PassesOwn.never (PW.pt (kT (gG (pv 4) (fun _=>rfl)) (iJ (aw jo (av aq rfl T.len PySem.boot_len (aa (pv 3) ad)) (pv 2) (aB _)))))
    (af (aA (i:=5) Eh.nd rfl (Or.inl rfl) (tT (i:=1) Gp hp hr3 rfl (Or.inl rfl) bp .nil ap (aa (aY aS rfl T.list PySem.Pv.boot_list (aa (pv 4) ad)) ad)))
    (af (aA (i:=6) Eh.nd rfl (Or.inl rfl) (ax aL (pv 4) (aG bG (pv 5) (av aq rfl T.len PySem.boot_len (aa (pv 4) ad))) (fun _ _=>rfl)))
    (af (aN (aD (pv 0) Y.cl md GD hr bd .nil eO (aa (pv 6) ad)))
    (af (aN (cu plainAttrs_list PySem.F.slot_list_append PySem.F.type_list_append bD (pv 3) (aa (pv 6) ad)))
    (ai (aA (i:=4) Eh.nd rfl (Or.inl rfl) (aW (pv 0) Y.cl mm GM Ja bm .nil ap))))))))
   (ai (ar (pv 3))))),?_⟩
  refine⟨zero_le _,fun D hD=>?_⟩
  have s1:=(Ab.refl H).new (o := .lst []) hD
  have PH:(upd H D (.lst [])) D=some (.lst []):=ac
  generalize upd H D (.lst [])=H1 at s1 PH ⊢
  have Cg:AH K (yx ys (D :: ys.ex)) H1 a st:=AH.N5 (e:=ys.ex) hI.Y s1 fun b hb=>by
   rcases mem_cons.mp hb with rfl | hb
   ·exact .inr ⟨hD,_,PH⟩
   ·exact .inl hb
  have C7:Cz K c TC J (yx ys (D :: ys.ex)) H1 a st:=⟨Cg,AO.keep W hI.T (Ab.Am s1),hI.O,hI.G⟩
  have four:∀ z ∈ la :: a.four,∃ xs,H z=some (.lst xs):=fun z hz=>by
   rcases mem_cons.mp hz with rfl | hz
   ·exact⟨_,AU⟩
   ·exact hI.Y.Ba z hz
  have Gq:∀ z,H z=none->z ∉ la :: a.four:=fun z hz hm=>by obtain⟨xs,e⟩:=four z hm;rw[hz]at e;cases e
  have nD:=Gq D hD
  refine⟨_,rfl,a.y,a.dy,_,rfl,Cg.ins,rfl,D :: ys.ex,a,st,rfl,C7,fun M As H2 s2 hM gM pM=>?_⟩
  have JB:=s1.trans s2
  refine⟨fun m σ H'=>∃ (a5 a6:Option V)(M:Addr)(As AE Bp:List V)(l:List (YS × Mv))(s':YS),m=most.toNat - l.length/\Ai (la :: a.four) H H'/\AH K (yx ys (D :: ys.ex)) H' a s'/\Bn a s'/\CB st s'/\s'.done.length=st.done.length + l.length/\Tr a (gZ ns) st l s'/\H' D=some (.lst AE)/\Paired (Bc H') AE (l.map fun q=>dD q.2)/\H' la=some (.lst Bp)/\Paired (DE (fun z=>H z=none/\z ≠ D) H' a) Bp (l.map (·.1))/\(l.length:Int) <= max 0 most/\H M=none/\M ≠ D/\H' M=some (.lst As)/\Paired (Bc H') As ((bu a s').map dD) /\
    σ=[some (.ref a.y),some (.ref pk),some (.int most),some (.ref D),some (.ref M),a5,a6],
   ⟨most.toNat - 0,none,none,M,As,[],[],[],st,rfl,Ab.AJ JB,Ak.same Cg s2,hJ,CB.refl _,rfl, .nil,s2 _ _ PH, .nil,JB _ _ AU, .nil,by show (0:Int) <= _;omega,s1.free hM,Ne.symm (ag PH hM),gM,pM,rfl⟩,?_⟩
  rintro m σ H3 ⟨a5,a6,M,As,AE,Bp,l,s',rfl,o3,Cn,N9,XT,BD,HJ,IV,TF,Gj,TH,hlen,nM,nMD,JR,NA,rfl⟩
  have DJ:AE.length=l.length:=by rw[Paired.length TF,length_map]
  have PF:Bp.length=l.length:=by rw[Paired.length TH,length_map]
  have Fp:As.length=(bu a s').length:=by rw[Paired.length NA,length_map]
  have fin:l.length <= 100->((l.length:Int) < most->bu a s' = [])->Q (.ref D) H3:=fun h1 h2 =>
   q D AE Bp l s' H3 o3 (AH.N5 (e:=D :: ys.ex) (e':=ys.ex) Cn (Ab.refl _) fun b hb => .inl (mem_cons_of_mem _ hb)) N9 XT HJ hD IV TF Gj (Paired.mono (fun v s Af=>by obtain⟨p,As,e,n,g,r⟩:=Af;exact⟨p,As,e,n.1,g,r⟩) TH) hlen h1 h2
  refine⟨_,rfl,_, .inl ⟨As,Ah.of JR,rfl⟩,?_⟩
  cases XU:As.isEmpty with
  | true =>
   refine aI (aI ⟨_,rfl,fin (by omega) fun _=>?_⟩)
   have:As=[]:=List.isEmpty_iff.mp XU
   rw[this]at Fp
   exact List.length_eq_zero_iff.mp Fp.symm
  | false =>
  refine aK ⟨_,rfl,D,_,rfl, .inl (Ah.of IV),_,rfl,_,_,rfl,rfl,_,rfl,?_⟩
  rw[DJ]
  by_cases Jb:(l.length:Int) < most
  rotate_left
  ·rw[decide_eq_false Jb]
   exact aI ⟨_,rfl,fin (by omega) fun h=>absurd h Jb⟩
  rw[decide_eq_true Jb]
  have Ny:0 < As.length:=by
   cases As with
   | nil=>cases XU
   | cons _ _=>exact Nat.succ_pos _
  have NB:∀ z ∈ la :: a.four,∃ xs,H3 z=some (.lst xs):=fun z hz=>by
   rcases mem_cons.mp hz with rfl | hz
   ·exact⟨_,Gj⟩
   ·exact Cn.Ba z hz
  have NC:∀ z,H3 z=none->H z=none:=fun z hz=>by
   cases e:H z with
   | none=>rfl
   | some o =>
    by_cases hm:z ∈ la :: a.four
    ·obtain⟨xs,g⟩:=NB z hm;rw[hz]at g;cases g
    ·rw[o3 z o hm e]at hz;cases hz
  have nl4:la ≠ D:=fun e=>nD (by rw[e];exact mem_cons_self)
  refine aK ⟨fun σ' H'=>∃ (M:Addr)(As AE Bp:List V)(s1:YS)(mv:Mv)(a5 a6:Option V),Ai (la :: a.four) H H'/\AH K (yx ys (D :: ys.ex)) H' a (xj s' s1 mv)/\i4 a s' (gZ ns l.length)=some mv/\BQ a s' mv s1/\H' D=some (.lst AE)/\Paired (Bc H') AE ((l ++ [(s',mv)]).map fun q=>dD q.2)/\H' la=some (.lst Bp)/\Paired (DE (fun z=>H z=none/\z ≠ D) H' a) Bp ((l ++ [(s',mv)]).map (·.1))/\H M=none/\M ≠ D/\H' M=some (.lst As)/\Paired (Bc H') As ((bu a (xj s' s1 mv)).map dD) /\
    σ' = [some (.ref a.y),some (.ref pk),some (.int most),some (.ref D),some (.ref M),a5,a6],fun σ' H' ⟨M,As,AE,Bp,s1,mv,a5,a6,h1,h2,h3,h4,h5,h6,h7,h8,h9,h10,h11,h12,h13⟩=>?_,?_⟩
  ·have e1:(l ++ [(s',mv)]).length=l.length + 1:=by rw[length_append,length_singleton]
   refine⟨most.toNat - (l.length + 1),by omega,a5,a6,M,As,AE,Bp,l ++ [(s',mv)],xj s' s1 mv,by rw[e1],h1,h2,(N9.step h4).done _,XT.trans (CB.move h4),?_, .snoc HJ h3 h4,h5,h6,h7,h8,by rw[e1];omega,h9,h10,h11,h12,h13⟩
   show(s'.done ++ [_]).length=_
   rw[length_append,length_singleton,e1];omega
  refine⟨rfl,_,rfl,M,As,rfl, .inl (Ah.of JR),fun p hp=>?_⟩
  have s4:=(Ab.refl H3).new (o := .lst As) hp
  refine⟨p,As,Bp,rfl,ac,Ne.symm (ag Gj hp),s4 _ _ Gj,by omega,fun H' o'=>Dq H' fun b o hb e=>o' b o (fun z=>?_) (s4 _ _ (o3 b o hb e)),fun lq H5 o5 hlq glq XW=>?_⟩
  ·simp only[mem_cons,not_mem_nil,or_false]at z
   rcases z with rfl | rfl
   ·exact hb mem_cons_self
   ·rw[o3 b o hb e]at hp;cases hp
  have JS:Ai [la] H3 H5:=fun b o hb e=>o5 b o (fun z=>by
   simp only[mem_cons,not_mem_nil,or_false]at z hb
   rcases z with z | z
   ·exact hb z
   ·rw[z,hp]at e;cases e) (s4 _ _ e)
  have Jc:H3 lq=none:=s4.free hlq
  have gp4:(upd H3 p (.lst As)) p=some (.lst As):=ac
  clear o5
  have XX:Ax H3 H5:=Ai.Am (fun b hb=>by rw[mem_singleton.mp hb];exact⟨_,Gj⟩) JS
  have Fn:AH K (yx ys (D :: ys.ex)) H5 a s':=AH.FZ Cn JS (fun b hb=>by rw[mem_singleton.mp hb];exact mem_cons_of_mem _ hlx) (fun b hb z=>Po (by rw[← mem_singleton.mp z];exact hb)) fun b hb=>by rw[mem_singleton.mp hb];exact⟨_,XW⟩
  have n1:∀ {z:Addr},z ∉ la :: a.four->z ∉ [la]:=fun h z=>h (by rw[mem_singleton.mp z];exact mem_cons_self)
  have XY:=JS _ _ (n1 (Gq M nM)) JR
  have P7:=JS _ _ (n1 nD) IV
  have o5:Ai (la :: a.four) H H5:=o3.trans (JS.mono fun b hb=>by rw[mem_singleton.mp hb];exact mem_cons_self)
  have XZ:=Paired.mono (fun v m z=>Bc.keep XX z) NA
  have k5:Ax H H5:=Ai.Am four o5
  rw[PF]
  have np:(0:Int) < ((As.length:Nat):Int):=by omega
  have z1:=emod_nonneg (gZ ns l.length) (show((As.length:Nat):Int) ≠ 0 by omega)
  have z2:=emod_lt_of_pos (gZ ns l.length) np
  obtain⟨k,hk,T1⟩:∃ k:Nat,gZ ns l.length % ((As.length:Nat):Int)=(k:Int)/\k < As.length:=⟨(gZ ns l.length % ((As.length:Nat):Int)).toNat,by omega,by omega⟩
  have IY:=List.getElem?_eq_getElem T1
  obtain⟨mv,ND,pm,T2,Ya⟩:=Paired.at XZ IY
  obtain⟨m,hmk,rfl⟩:∃ m,(bu a s')[k]? = some m/\dD m=mv:=by
   rw[List.getElem?_map]at ND
   cases hx:(bu a s')[k]? with
   | none=>rw[hx]at ND;cases ND
   | some m=>rw[hx]at ND;exact⟨m,rfl,Option.some.inj ND⟩
  rw[T2]at IY
  have NG:i4 a s' (gZ ns l.length)=some m:=by
   unfold i4
   rw[← Fp,hk,toNat_natCast];exact hmk
  refine⟨_,rfl,_,rfl,_,rfl,M,_,rfl, .inl (Ah.of XY),_,_,rfl,rfl,np,M,As,(k:Int), .ref pm,rfl,congrArg V.int hk,Ah.of XY,ak IY,?_⟩
  have JT:Cz K c TC J (yx ys (D :: ys.ex)) H5 a s':=⟨Fn,AO.keep W hI.T k5,hI.O,N9.ok⟩
  refine⟨_,rfl,a.y,a.dy,_,rfl,Fn.ins,rfl,_,rfl,D :: ys.ex,a,s',pm,m,rfl,JT,Ya,mem_of_getElem? hmk,N9.Xm (by omega),fun H6 s6 CV o6 HI=>?_⟩
  have n4:∀ {z:Addr},z ∉ la :: a.four->z ∉ a.four:=fun h z=>h (mem_cons_of_mem _ z)
  have NJ:Ax H5 H6:=Ai.Am (fun z hz=>Fn.Ba z hz) o6
  have TK:=o6 _ _ (n4 nD) P7
  have ga6:=o6 _ _ Po XW
  have TL:H6 lq=some (.lst As):=o6 _ _ (n4 (Gq _ (NC _ Jc))) glq
  have Yb:lq ≠ D:=Ne.symm (ag IV Jc)
  refine⟨_,rfl, .inl ⟨rfl,_,Ah.of TK⟩,_,rfl,D,AE, .ref pm,rfl,rfl,TK,by rw[sizeLine_eq];omega,?_⟩
  have Jd:Ai [D] H6 (upd H6 D (.lst (AE ++ [.ref pm]))):=fun b o hb e=>by rw[ae (fun z=>hb (by rw[z];exact mem_cons_self))];exact e
  have PJ:(upd H6 D (.lst (AE ++ [.ref pm]))) D=some (.lst (AE ++ [.ref pm])):=ac
  generalize upd H6 D (.lst (AE ++ [.ref pm]))=H7 at Jd PJ ⊢
  have TM:Ax H6 H7:=Ai.Am (fun b hb=>by rw[mem_singleton.mp hb];exact⟨_,TK⟩) Jd
  have HK:AH K (yx ys (D :: ys.ex)) H7 a (xj s' s6 m):=AH.FZ HI Jd (fun b hb=>by rw[mem_singleton.mp hb];exact mem_cons_self) (fun b hb z=>nD (by rw[← mem_singleton.mp z];exact mem_cons_of_mem _ hb)) fun b hb=>by rw[mem_singleton.mp hb];exact⟨_,PJ⟩
  have o7:Ai (la :: a.four) H H7:=fun b o hb e=>Jd b o (fun z=>by rw[mem_singleton.mp z,hD]at e;cases e) (o6 b o (n4 hb) (o5 b o hb e))
  have k7:Ax H H7:=Ai.Am four o7
  have hJ7:Bn a (xj s' s6 m):=(N9.step CV).done _
  have hI7:Cz K c TC J (yx ys (D :: ys.ex)) H7 a (xj s' s6 m):=⟨HK,AO.keep W hI.T k7,hI.O,hJ7.ok⟩
  have Yc:=Jd la _ (fun z=>nl4 (mem_singleton.mp z)) ga6
  have TN:=Jd lq _ (fun z=>Yb (mem_singleton.mp z)) TL
  refine⟨_,rfl,a.y,a.dy,_,rfl,HK.ins,rfl,D :: ys.ex,a,xj s' s6 m,rfl,hI7,fun M8 TQ H8 s8 JU gM8 pM8=>?_⟩
  have Ye:Ax H3 H8:=((XX.trans NJ).trans TM).trans (Ab.Am s8)
  have o38:Ai (D :: la :: a.four) H3 H8:=fun b o hb e=>by
   simp only[mem_cons,not_or]at hb
   refine s8 _ _ (Jd b o (fun z=>hb.1 (mem_singleton.mp z)) (o6 b o (fun z=>?_) (JS b o (fun z=>hb.2.1 (mem_singleton.mp z)) e)))
   simp only[mem_cons,not_mem_nil,or_false]at z
   rcases z with z | z | z | z
   ·exact hb.2.2.1 z
   ·exact hb.2.2.2.1 z
   ·exact hb.2.2.2.2.1 z
   ·exact hb.2.2.2.2.2.1 z
  have TU:H M8=none:=by
   cases e:H M8 with
   | none=>rfl
   | some o =>
    by_cases hm:M8 ∈ la :: a.four
    ·rcases mem_cons.mp hm with z | z
     ·rw[z,Yc]at JU;cases JU
     ·obtain⟨xs,g⟩:=HK.Ba M8 z;rw[JU]at g;cases g
    ·rw[o7 M8 o hm e]at JU;cases JU
  refine⟨M8,TQ,AE ++ [.ref pm],Bp ++ [.ref lq],s6,m,_,_,fun b o hb e=>s8 _ _ (o7 b o hb e),Ak.same HK s8,NG,CV,s8 _ _ PJ,?_,s8 _ _ Yc,?_,TU,Ne.symm (ag PJ JU),gM8,pM8,rfl⟩
  ·rw[map_append]
   exact Paired.snoc ⟨pm,rfl,NJ.trans (TM.trans (Ab.Am s8)) _ _ Ya True.intro⟩ (Paired.mono (fun v m z=>Bc.keep Ye z) TF)
  ·rw[map_append]
   refine Paired.snoc ⟨lq,As,rfl,⟨NC _ Jc,Yb⟩,s8 _ _ TN,Paired.mono (fun v m z=>Bc.keep (((NJ.trans TM).trans (Ab.Am s8))) z) XZ⟩ (Paired.mono (fun v s z=>DE.off Ye o38 (fun z hz hm=>?_) v s z) TH)
   rcases mem_cons.mp hm with e | e
   ·exact hz.2 e
   ·exact Gq z hz.1 e
end K61
namespace L2
open PySem
theorem Ac.exP {P:Program}{w:World}{K:Frag}{mg:Str->Option Value}{base:Heap}{CX:lD}{k:Nat}{f:Addr}{fd:FuncData}{ps:List Str} {ι:Type} {p:ι->Prop} {sp:ι->Sp} (h:∀ i,p i->Ac P w K mg base CX k f fd ps (sp i)) (h0:∀ i vs H Q E,sp i vs H Q E->vs.length=ps.length):Ac P w K mg base CX k f fd ps (fun vs H Q E=>∃ i,p i/\sp i vs H Q E) :=
 ⟨fun vs H Q E Af=>by obtain⟨i,_,q⟩:=Af;exact h0 i vs H Q E q,fun A outer s H args us vs Q E hr he hb hv Af=>by obtain⟨i,hp,hs⟩:=Af;exact(h i hp).run A outer s H args us vs Q E hr he hb hv hs⟩
end L2
namespace K61
open PySem L2
variable {P:Program}{w:World}{K:Frag}{mg:Str->Option Value}{base:Heap}
theorem lp {H:Hp}{Tb:Addr}{ps:Array Value}{u:HO}(g:H Tb=some (.BE ps)):Ax H (upd H Tb u):=fun b o e n=>by
 by_cases h:b=Tb
 ·subst h;rw[g]at e;cases e;exact n.elim
 ·rw[ae h];exact e
theorem AH.tb {K:Frag}{ys:Ys}{H:Hp}{a:YA}{s:YS}{Tb:Addr}{ps:Array Value}{u:HO}(g:H Tb=some (.BE ps))(h:AH K ys H a s):AH K ys (upd H Tb u) a s:=by
 have k:=lp (u:=u) g
 have l:∀ b xs,H b=some (.lst xs)->upd H Tb u b=some (.lst xs):=fun b xs e=>by rw[ae (aU e g (by intro z;cases z))];exact e
 obtain⟨v1,a1,p1⟩:=h.AZ
 obtain⟨v2,a2,p2⟩:=h.hle
 obtain⟨v3,a3,p3⟩:=h.Ca
 obtain⟨v4,a4,p4⟩:=h.BD
 refine⟨k _ _ h.ins True.intro,?_,⟨v1,l _ _ a1,Paired.mono (fun v ln z=>?_) p1⟩,⟨v2,l _ _ a2,Paired.mono (fun v t z=>?_) p2⟩,⟨v3,l _ _ a3,Paired.mono (fun v q z=>z.keep k) p3⟩,⟨v4,l _ _ a4,Paired.mono (fun v m z=>z.keep k) p4⟩,h.ne,fun b hb=>let ⟨xs,e⟩:=h.hex b hb; ⟨xs,l _ _ e⟩⟩
 ·rcases h.GV with (e | ⟨o,e⟩) | e
  ·exact .inl (.inl (k _ _ e True.intro))
  ·exact .inl (.inr ⟨o,k _ _ e True.intro⟩)
  ·exact .inr e
 ·obtain⟨x,dx,pa,Au,e,L,n⟩:=z
  exact⟨x,dx,pa,Au,e,⟨k _ _ L.ins True.intro,l _ _ L.lst,k.DL L.Bl⟩,n⟩
 ·obtain⟨x,dx,wa,e,h1,h2,n⟩:=z
  exact⟨x,dx,wa,e,k _ _ h1 True.intro,l _ _ h2,n⟩
noncomputable def p8 (K:Frag)(Tb:Addr):Sp:=fun vs H Q _=>∃ (a:Addr)(ns:List Int),vs=[.ref a]/\Ah K H a (ns.map V.int)/\ns.length <= 63/\H Tb=some (.BE #[])/\∀ H',Q (.bl true) H'
noncomputable abbrev Yf:List Str:=["_law_script", "_law_table_here", "_law_lanes_here", "_law_places", "_law_rooms_here", "_law_yard", "_law_cells", "_law_other", "_law_most", "_law_asked", "_law_pick", "_law_made", "_law_k", "_law_moves"]
structure Yg (P:Program)(w:World)(K:Frag)(mg:Str->Option Value)(base:Heap)(c:Cs)(ts:Ts)(tn:n0)(ys:Ys)(nr:Addr)(fc fx ft NK fy fb fp fs fa fw fm fd fr:Addr)(dc dx dt PK dy db dp ds da dw dm dd dr:FuncData):Prop where
 mc:mg "_law_cell_at" = some (.ref fc)
 kc:keepIn K (.ref fc)=true
 bc:Binds K dc ["_law_script", "_law_k"] []
 Gc:Ac P w K mg base aC 1 fc dc ["_law_script", "_law_k"] (nY K)
 mx:mg "_law_mixed" = some (.ref fx)
 kx:keepIn K (.ref fx)=true
 bx:Binds K dx ["_law_cell", "_law_k"] []
 Gx:Ac P w K mg base aC 1 fx dx ["_law_cell", "_law_k"] lK
 mt:mg "_law_table" = some (.ref ft)
 kt:keepIn K (.ref ft)=true
 bt:Binds K dt ["_law_script"] []
 Gt:Ac P w K mg base aC 7 ft dt ["_law_script"] (sC P w K c ts tn)
 mro:mg "_law_rooms" = some (.ref NK)
 kro:keepIn K (.ref NK)=true
 bro:Binds K PK ["_law_table_here", "_law_cell"] []
 TV:∀ b,Ac P w K mg base aC 2 NK PK ["_law_table_here", "_law_cell"] (lL c (TC ts tn b) (JJ P w ts tn b))
 my:mg "Yard" = some (.ref ys.Ad)
 My:Mk K ys.Ad fy
 JN:Binds K dy ["self", "table", "rooms"] []
 Gy:∀ b ex,Ac P w K mg base (dR P w) 4 fy dy ["self", "table", "rooms"] (ph K c (TC ts tn b) (JJ P w ts tn b) (yx ys ex) nr)
 mb:mg "_law_begins" = some (.ref fb)
 kb:keepIn K (.ref fb)=true
 bb:Binds K db ["_law_table_here"] []
 Gb:∀ b,Ac P w K mg base aC 4 fb db ["_law_table_here"] (pE c (TC ts tn b) (JJ P w ts tn b))
 mp:mg "_law_posts" = some (.ref fp)
 kp:keepIn K (.ref fp)=true
 bp:Binds K dp ["_law_yard", "_law_begins_here", "_law_cells"] []
 Gp:∀ b ex,Ac P w K mg base aC 5 fp dp ["_law_yard", "_law_begins_here", "_law_cells"] (sj K c (TC ts tn b) (JJ P w ts tn b) (yx ys ex))
 ms:mg "_law_stand" = some (.ref fs)
 ks:keepIn K (.ref fs)=true
 bs:Binds K ds ["_law_yard", "_law_lanes_here", "_law_places"] []
 Gs:∀ b ex,Ac P w K mg base aC 8 fs ds ["_law_yard", "_law_lanes_here", "_law_places"] (py K c (TC ts tn b) (JJ P w ts tn b) (yx ys ex))
 ma:mg "_law_answer" = some (.ref fa)
 ka:keepIn K (.ref fa)=true
 ba:Binds K da ["_law_script", "_law_k"] []
 Ga:∀ Ar,Ac P w K mg Ar aC 2 fa da ["_law_script", "_law_k"] (sJ K)
 mw:bz K ys.Ad "twin" fw
 bw:Binds K dw ["self"] []
 Gw:∀ b ex,Ac P w K mg base aC 7 fw dw ["self"] (rZ K c (TC ts tn b) (JJ P w ts tn b) (yx ys ex))
 mm:bz K ys.Ad "moves" fm
 bm:Binds K dm ["self"] []
 Gm:∀ b ex,Ac P w K mg base aC 7 fm dm ["self"] (iE K c (TC ts tn b) (JJ P w ts tn b) (yx ys ex))
 md:bz K ys.Ad "do" fd
 bd:Binds K dd ["self", "move"] []
 Gd:∀ b ex,Ac P w K mg base (dR P w) 8 fd dd ["self", "move"] (yj K c (TC ts tn b) (JJ P w ts tn b) (yx ys ex))
 mr:mg "run" = some (.ref fr)
 kr:keepIn K (.ref fr)=true
 br:Binds K dr ["yard", "pick", "most"] []
noncomputable abbrev P1 (P:Program)(w:World)(K:Frag)(c:Cs)(ts:Ts)(tn:n0)(ys:Ys)(H:Hp)(sc:Addr):St->Hp->Prop:=fun σ Hc=>∃ (b:Bool)(tb Ro Ce la y dy ro l1 l2 l3 l4:Addr)(a:YA)(s:YS)(most:Int),Ab H Hc/\Cz K c (TC ts tn b) (JJ P w ts tn b) (yx ys (la :: [l1,l2,l3,l4])) Hc a s/\Cz K c (TC ts tn b) (JJ P w ts tn b) (yx ys (la :: a.four)) Hc (a.twin y dy ro l1 l2 l3 l4) s/\Bn a s/\Hc la=some (.lst [])/\(∀ z ∈ la :: (a.four ++ [l1,l2,l3,l4]),H z=none)/\la ∉ a.four/\la ∉ [l1,l2,l3,l4]/\(∀ z ∈ a.four,z ∉ [l1,l2,l3,l4])/\s.done.length <= 10/\(∀ d ∈ s.done,∀ x ∈ d,vm x)/\most <= 100/\a.ps.length <= 8/\a.n <= 5 /\
 σ=[some (.ref sc),some (.ref tb),some (.int a.ps.length),some (.int a.n),some (.ref Ro),some (.ref a.y),some (.ref Ce),some (.ref y),some (.int most),some (.ref la),none,none,none,none]
theorem BA:ao Yf ["_law_script"] (ah iB):=L2.AG
theorem NM:Bv Yf (ah iB) (vb ((aE iB).getD 5 (.Pass ⟨0,0,0,0⟩))) ["_law_script"] [0]:=L2.Cu
theorem NN:(["_law_k", "_law_script"]:List Str).Nodup:=by decide +kernel
noncomputable abbrev CSk:List (Nat × Str):=[(0, "_law_script"),(9, "_law_asked")]
noncomputable abbrev sh (P:Program)(w:World)(K:Frag)(c:Cs)(ts:Ts)(tn:n0)(ys:Ys)(pk:Addr)(AN:List V):Sp:=fun vs H Q E=>∃ i:(Bool × List Addr) × (Addr × Addr) × List Int,AN=[.ref i.2.1.1, .ref i.2.1.2]/\pz K c (TC ts tn i.1.1) (JJ P w ts tn i.1.1) (yx ys i.1.2) pk i.2.1.1 i.2.1.2 i.2.2 vs H Q E
theorem qF {c:Cs}{TC:Addr}{J:TJ}{ys:Ys}{pk sc la:Addr}{ns:List Int}{vs:List V}{H:Hp}{Q:VK}{E:XK}(h:pz K c TC J ys pk sc la ns vs H Q E):vs.length=3:=by
 obtain⟨_,_,_,rfl,_⟩:=h
 rfl
theorem zQ {clos:List (Str × Addr)}{doc pm BB:Value}{c':Addr}:Binds K (PySem.W.fnX "_law_pick" "law.<locals>._law_pick" (bv dH) (aE dH) (ah dH) clos .none .none doc pm none (.ref c') BB) ["_law_moves"] [] :=
 .all fun us hl=>match us,hl with
  | [_],_=>rfl
theorem zg {c:Cs}{ts:Ts}{tn:n0}{ys:Ys}{nr f cc Tb fc fx ft NK fy fb fp fs fa fw fm fd fr:Addr}{fW:Bool->Addr}{dW:Bool->FuncData}{df dc dx dt PK dy db dp ds da dw dm dd dr:FuncData}(F:AA K "law" "law" iB f df)(BG:df.code = .ref cc)(NS:Fi mg base cc Tb)(T:dE mg)(zll:kitOne K (.type "list") (.type "list")=some true)(L:lC K c)(Y:hU K ys)(W:∀ b,Wy K (TC ts tn b) (fW b) (dW b) (JJ P w ts tn b))
  (D:Yg P w K mg base c ts tn ys nr fc fx ft NK fy fb fp fs fa fw fm fd fr dc dx dt PK dy db dp ds da dw dm dd dr)
  (Gr:∀ (Ar:Heap)(pk sc la:Addr)(dp:FuncData)(ns:List Int),PySem.W.FnAt pk Ar->Binds K dp ["_law_moves"] []->Ac P w K mg Ar aC 3 pk dp ["_law_moves"] (nR K sc la ns)->∀ b ex,Ac P w K mg Ar aC 9 fr dr ["yard", "pick", "most"] (pz K c (TC ts tn b) (JJ P w ts tn b) (yx ys ex) pk sc la ns)):Ac P w K mg base aC 10 f df ["_law_script"] (p8 K Tb):=by
 refine F.okC BA (fun vs H Q E h=>?_) (fun cdv A0 outer s H vs Q E Yh hr h=>?_)
 ·obtain⟨a,ns,rfl,_⟩:=h
  rfl
 ·obtain⟨sc,ns,rfl,hS,hlen,Et,q⟩:=h
  rw[BG]at Yh
  have hu:=hr.units
  have Bb:Al 1 _:=hr.mono (by decide)
  have Bw:Al 2 _:=hr.mono (by decide)
  have Dn:Al 4 _:=hr.mono (by decide)
  have HD:Al 5 _:=hr.mono (by decide)
  have Ja:Al 7 _:=hr.mono (by decide)
  have TY:Al 8 _:=hr.mono (by decide)
  have GRo:=Ac.ex D.TV
  have GY:=Ac.ex fun i:Bool × List Addr=>D.Gy i.1 i.2
  have GB:=Ac.ex D.Gb
  have GP:=Ac.ex fun i:Bool × List Addr=>D.Gp i.1 i.2
  have GS:=Ac.ex fun i:Bool × List Addr=>D.Gs i.1 i.2
  have GW:=Ac.ex fun i:Bool × List Addr=>D.Gw i.1 i.2
  have GM:=Ac.ex fun i:Bool × List Addr=>D.Gm i.1 i.2
  have GD:=Ac.ex fun i:Bool × List Addr=>D.Gd i.1 i.2
  have GR:∀ {clos:List (Str × Addr)}{pk c':Addr}{oc:Obj}{doc pm BB:Value}{AN:List V}{Ar:Heap},Ar.get? pk=some (PySem.W.fnMade "_law_pick" "law.<locals>._law_pick" (bv dH) (aE dH) (ah dH) clos doc pm c' BB)->Ar.get? c' = some oc->jF oc "law.<locals>._law_pick"->Lu Ar clos T9 AN->Ac P w K mg Ar aC 9 fr dr ["yard", "pick", "most"] (sh P w K c ts tn ys pk AN) :=
   fun {clos pk c' oc doc pm BB AN Ar} h1 h2 h3 h4=>Ac.exP (fun i hi=>Gr Ar pk i.2.1.1 i.2.1.2 _ i.2.2 ⟨_,_,_,_,h1⟩ zQ (wo h1 h2 h3 (hi ▸ h4) T D.ma D.ka D.ba (D.Ga Ar)) i.1.1 i.1.2) fun i vs H Q E h=>qF h
  refine⟨_,tM 10 (af (aA (i:=1) BA.nd rfl (Or.inl rfl) (au D.Gt Ja rfl D.mt D.kt D.bt .nil ap (aa (pv 0) ad)))
   (af (aA (i:=2) BA.nd rfl (Or.inl rfl) (av aq rfl T.len PySem.boot_len (aa (al (al (pv 1) rfl) rfl) ad)))
   (af (aA (i:=3) BA.nd rfl (Or.inl rfl) (al (al (pv 1) rfl) rfl))
   (af (aA (i:=4) BA.nd rfl (Or.inl rfl) (au GRo Bw rfl D.mro D.kro D.bro .nil ap (aa (pv 1) (aa (au D.Gc Bb rfl D.mc D.kc D.bc .nil ap (aa (pv 0) (aa aj ad))) ad))))
   (af (aA (i:=5) BA.nd rfl (Or.inl rfl) (lb (c4 D.My GY HD rfl D.my D.JN .nil eO (aa (pv 1) (aa (pv 4) ad)))))
   (af (c8 (i:=6) (own:=["_law_k"]) (capN:=["_law_script"]) (cap:=[0]) NM rfl BA.nd rfl rfl (aM rfl T.range (aa (aG bT aj (aG bG (au D.Gc Bb rfl D.mc D.kc D.bc .nil ap (aa (pv 0) (aa aj ad))) aj)) ad)) (fun C s' H' fp=>⟨ay (i:=0) NN rfl (Or.inl rfl),ca,au D.Gx Bb rfl D.mx D.kx D.bx .nil ap (aa (au D.Gc Bb rfl D.mc D.kc D.bc .nil ap (aa (pv 1) (aa aj ad))) (aa (pv 0) ad))⟩))
   (af (aN (au GP HD rfl D.mp D.kp D.bp .nil ap (aa (pv 5) (aa (au GB Dn rfl D.mb D.kb D.bb .nil ap (aa (pv 1) ad)) (aa (pv 6) ad)))))
   (af (aA (i:=7) BA.nd rfl (Or.inl rfl) (aW (pv 5) Y.cl D.mw GW Ja D.bw .nil ap))
   (af (aA (i:=8) BA.nd rfl (Or.inl rfl) (aG cx (aG bG (au D.Gc Bb rfl D.mc D.kc D.bc .nil ap (aa (pv 0) (aa aj ad))) aj) aj))
   (ai (aA (i:=9) BA.nd rfl (Or.inr rfl) (aX ad))))))))))))
   (vP (i:=10) (qual := "law.<locals>._law_pick") (clos:=[("_law_script",s.heap.objs.size + 1),("_law_asked",s.heap.objs.size + 1 + 1)]) NS BA.nd rfl (Or.inl rfl) Yh.symm rfl rfl rfl rfl rfl (fun pk c' oc doc pm BB hco =>
    (af (aA (i:=11) BA.nd rfl (Or.inl rfl) (tU (cs:=CSk) (sps:=sh P w K c ts tn ys pk) (fun AN Ar B=>GR (B.pn _ (mem_cons_self ..)) (B.pn _ (mem_cons_of_mem _ (mem_cons_self ..))) hco (B.cap rfl (forall_mem_cons.mpr ⟨rfl,forall_mem_cons.mpr ⟨rfl,fun _ h=>nomatch h⟩⟩))) (forall_mem_cons.mpr ⟨⟨rfl,rfl,rfl⟩,forall_mem_cons.mpr ⟨⟨rfl,rfl,rfl⟩,fun _ h=>nomatch h⟩⟩) hr rfl D.mr D.kr D.br .nil ap (aa (pv 5) (aa (pv 10) (aa (pv 8) ad)))))
    (af (aP (PW.pt (fK (bS (bF (av fq rfl T.Iq PyProof.Rows.boot_isinstance (aa (pv 11) (aa (eC (v := .ty "list") rfl T.list PySem.Pv.boot_list rfl) ad))))) (fK (aw jS (av aq rfl T.len PySem.boot_len (aa (pv 11) ad)) (av aq rfl T.len PySem.boot_len (aa (pv 9) ad)) (aB _)) (e9 (aw tZ (av aq rfl T.len PySem.boot_len (aa (pv 11) ad)) (av (rE rfl) rfl T.max PyProof.Rows.boot_max (aa aj (aa (pv 8) ad))) (aB _)))))) (ai (ar jQ)) aH)
    (af (bI PassesOwn.never rfl (aM rfl T.range (aa (av aq rfl T.len PySem.boot_len (aa (pv 11) ad)) ad)) (ay (i:=12) BA.nd rfl (Or.inl rfl))
     (af (aA (i:=13) BA.nd rfl (Or.inl rfl) (aW (pv 7) Y.cl D.mm GM Ja D.bm .nil ap))
     (af (aP (PW.pt (fK (aw (jm hu) (ax aL (pv 9) (pv 12) (fun _ _=>rfl)) (pv 13) (aB _)) (e9 (aw (jm hu) (ax aL (pv 11) (pv 12) (fun _ _=>rfl)) (ax aL (pv 13) (aG bG (au (D.Ga base) Bw rfl D.ma D.ka D.ba .nil ap (aa (pv 0) (aa (pv 12) ad))) (av aq rfl T.len PySem.boot_len (aa (pv 13) ad))) (fun _ _=>rfl)) (aB _))))) (ai (ar jQ)) aH)
     (ai (aN (aD (pv 7) Y.cl D.md GD TY D.bd .nil eO (aa (ax aL (pv 11) (pv 12) (fun _ _=>rfl)) ad)))))))
    (af (kU (aP (PW.pt (kT (aw jo (av aq rfl T.len PySem.boot_len (aa (pv 11) ad)) (pv 8) (aB _)) (iJ (aw (jm hu) (aW (pv 7) Y.cl D.mm GM Ja D.bm .nil ap) (aX ad) (aB _))))) (ai (ar jQ)) aH))
    (ai (ar (c5 (yO hu) (au GS TY rfl D.ms D.ks D.bs .nil ap (aa (pv 5) (aa (pv 2) (aa (pv 3) ad)))) (au GS TY rfl D.ms D.ks D.bs .nil ap (aa (pv 7) (aa (pv 2) (aa (pv 3) ad)))) (aB _))))))))))
   ,?_⟩
  refine⟨P1 P w K c ts tn ys H sc,?_,?_⟩
  ·refine⟨_,rfl,sc,ns,rfl,hS,fun b tb lx AF lt n Ao ps wy H1 s1 RE hT D1 Aj TZ En IW=>?_⟩
   obtain⟨C5,fst,Cj,AM,B7⟩:=hT.i
   have Tu:Ao.length=ps.length:=Paired.length hT.l.2.2
   refine⟨_,rfl,tb,TC ts tn b,C5,fst,_,rfl,Cj,(W b).cl,(W b).nl,AM,lx,c.land,AF,_,_,rfl,hT.l.1,L.cl,L.nl,rfl,lt,_,rfl, .inr (An.of hT.l.2.1),?_⟩
   rw[Tu]
   refine⟨_,rfl,tb,TC ts tn b,C5,fst,_,rfl,Cj,(W b).cl,(W b).nl,AM,lx,c.land,AF,_,_,rfl,hT.l.1,L.cl,L.np,rfl,?_⟩
   refine⟨_,rfl,_,rfl,sc,ns,3,rfl,s1.seq hS,fun d3=>⟨b,⟨tb,tb,tb,tb,tb,tb,tb,tb,lx,AF,lt,n,Ao,ps,wy⟩,d3,rfl,hT,fun Ro rs H2 s2 hRo gRo DB JP=>?_⟩⟩
   have DB:rs.length=ps.length:=DB
   have Yi:=s1.trans s2
   have Tx:=hT.keep (W b) (Ab.Am s2)
   refine⟨XO K c (TC ts tn b) (JJ P w ts tn b) ys [] H2 tb ps n wy rs,⟨_,rfl,_,rfl,fun y dy ny Nq Nr=>⟨(b,[]),vp (P:=P) (w:=w) (ys:=ys) (ex:=[]) (nr:=nr) (W b) Tx D1 Aj (Ah.of gRo) DB JP TZ (fun z hz=>by cases hz) y dy ny Nq Nr⟩⟩,?_⟩
   rintro v H3 ⟨a,rfl,e1,e2,e3,e4,s3,fr,hI,hJ⟩
   have Fq:=Yi.trans s3
   have Yj:∀ z ∈ a.four,H z=none:=fun z hz=>Yi.free (fr z hz)
   refine⟨_,rfl,sc,ns,4,rfl,Fq.seq hS,fun d4=>⟨_,_,rfl,rfl,(by show (0:Int) < 4;decide),_,_,rfl,rfl,?_⟩⟩
   obtain⟨am,ham,ham5⟩:∃ am:Nat,(1:Int) + d4 % 4=(am:Int)/\am <= 4:=⟨(1 + d4 % 4).toNat,by omega,by omega⟩
   dsimp only
   rw[ham]
   refine⟨(am:Int),rfl,by omega,by omega,?_⟩
   rw[toNat_natCast]
   refine bQ am (by rw[sizeLine_eq];omega) (fun i acc H'=>H' = H3/\∃ ks:List Int,acc=ks.map V.int/\ks.length=i) ⟨rfl,[],rfl,rfl⟩ (fun i acc H' h=>by obtain⟨_,ks,rfl,e⟩:=h;rw[length_map];omega) (fun i acc H' hi h=>?_) (fun acc H' h=>?_)
   ·obtain⟨rfl,ks,rfl,e⟩:=h
    refine⟨hi,fun v H2 y=>?_⟩
    obtain⟨rfl,rfl⟩:=y
    rw[zero_add]
    exact⟨_,rfl,sc,ns,4,rfl,Fq.seq hS,fun d5=>⟨_,rfl,d5,i,rfl,by omega,fun d hd=>⟨rfl,ks ++ [d],by rw[map_append];rfl,by rw[length_append,e];rfl⟩⟩⟩
   obtain⟨rfl,ks,rfl,Ee⟩:=h
   refine⟨le_refl _,fun Ce Yk=>?_⟩
   have s4:=(Ab.refl H').new (o := .lst (ks.map V.int)) Yk
   have Yl:(upd H' Ce (.lst (ks.map V.int))) Ce=some (.lst (ks.map V.int)):=ac
   have nCe:Ce ∉ a.four:=fun z=>by obtain⟨xs,hx⟩:=hI.Y.Ba Ce z;rw[Yk]at hx;cases hx
   show dO 6 (V.ref Ce) _ (upd H' Ce (.lst (ks.map V.int))) _
   generalize upd H' Ce (.lst (ks.map V.int))=H4 at s4 Yl ⊢
   have sH4:=Fq.trans s4
   have Ua:=hI.same (W b) s4
   refine⟨_,rfl,_,rfl,b,a,by rw[e1];rfl,Ua.T,fun Bg Bo bs H5 s5 hBg gBg P9 Tw P5=>?_⟩
   have JT:=Ua.same (W b) s5
   have nBg:Bg ∉ a.four:=fun z=>by obtain⟨xs,hx⟩:=Ua.Y.Ba Bg z;rw[hBg]at hx;cases hx
   refine⟨_,rfl,(b,[]),a,_,Bg,Ce,Bo,bs,ks,rfl,JT.Y,JT.T,hJ,gBg,P9,Tw,P5,nBg,s5 _ _ Yl,nCe,by omega,by show 0 + ks.length <= 59;omega,by show 0 <= 9000;decide,fun H6 s' o6 HI JV Ym h1 h2=>?_⟩
   have two:∀ z:Addr,z ∈ [a.le,a.dn]->z ∈ a.four:=fun z hz=>by simp only[mem_cons,not_mem_nil,or_false]at hz ⊢;rcases hz with rfl | rfl<;>simp
   have Yn:Ab H H6:=sO (sH4.trans s5) o6 fun z hz=>Yj z (two z hz)
   have NJ:Ax H5 H6:=Ai.Am (fun z hz=>JT.Y.Ba z (two z hz)) o6
   have LH:=AO.keep (W b) JT.T NJ
   have h1:s'.U.length <= 0 + ks.length:=h1
   have h2:s'.done.length <= 0 + ks.length:=h2
   obtain⟨dn',Je,Jf⟩:=Ym.done
   have Je:s'.done=[] ++ dn':=Je
   refine⟨_,rfl,a.y,a.dy,_,rfl,HI.ins,rfl,(b,[]),a,s',rfl,⟨HI,by rw[Ym.rooms,e2];exact uv DB JP,by rw[JV.lanes,e2];omega,by have:=JV.Bd;omega,by rw[JV.lies,e3];omega,by omega⟩,LH,fun y dy ro l1 l2 l3 l4 H7 s7 KN HK=>?_⟩
   have Yo:=AO.keep (W b) LH (Ab.Am s7)
   have Ub:=Yn.trans s7
   have NO:AH K (yx ys [l1,l2,l3,l4]) H7 a s':=AH.N5 (e:=[]) HI s7 fun z hz => .inr ⟨KN z hz,HK.Ba z hz⟩
   have dj:∀ z ∈ a.four,z ∉ [l1,l2,l3,l4]:=fun z hz F3=>by obtain⟨xs,hx⟩:=HI.Ba z hz;rw[KN z F3]at hx;cases hx
   refine⟨_,rfl,sc,ns,5,rfl,Ub.seq hS,fun d5=>⟨_,_,rfl,rfl,(by show (0:Int) < 70;decide),_,_,rfl,rfl,?_⟩⟩
   have z2:=emod_lt_of_pos d5 (show (0:Int) < 70 by decide)
   dsimp only
   refine⟨zero_le _,fun la AZ=>?_⟩
   have s8:=(Ab.refl H7).new (o := .lst []) AZ
   have AU:(upd H7 la (.lst [])) la=some (.lst []):=ac
   have nl0:la ∉ a.four:=fun z=>by obtain⟨xs,hx⟩:=NO.Ba la z;rw[AZ]at hx;cases hx
   have nl1:la ∉ [l1,l2,l3,l4]:=fun z=>by obtain⟨xs,hx⟩:=HK.Ba la z;rw[AZ]at hx;cases hx
   refine⟨b,tb,Ro,Ce,la,y,dy,ro,l1,l2,l3,l4,a,s',d5 % 70 - 9,Ub.trans s8,⟨AH.N5 (e:=[l1,l2,l3,l4]) NO s8 fun z hz=>?_,AO.keep (W b) Yo (Ab.Am s8),hI.O,JV.ok⟩,⟨AH.N5 (e:=a.four ++ []) HK s8 fun z hz=>?_,AO.keep (W b) Yo (Ab.Am s8),⟨hI.O.1,hI.O.2⟩,JV.twin.ok⟩,JV,AU,fun z hz=>?_,nl0,nl1,dj,by omega,?_,by omega,by rw[e2];exact TZ,by rw[e3];exact IW,by rw[e2,e3];rfl⟩
   ·rcases mem_cons.mp hz with rfl | hz
    ·exact .inr ⟨AZ,_,AU⟩
    ·exact .inl hz
   ·rcases mem_cons.mp hz with rfl | hz
    ·exact .inr ⟨AZ,_,AU⟩
    ·exact .inl (mem_append_left _ hz)
   ·rcases mem_cons.mp hz with rfl | hz
    ·exact Ub.free AZ
    ·rcases mem_append.mp hz with hz | hz
     ·exact Yj z hz
     ·exact Yn.free (KN z hz)
   ·rw[Je,List.nil_append];exact Jf
  ·rintro σ Hc ⟨b,tb,Ro,Ce,la,y,dy,ro,l1,l2,l3,l4,a,st,most,NP,PL,C7,hJ,AU,DY,Uc,NQ,Yp,hd10,Jf,XS,TZ,IW,rfl⟩
   have HL:=NP _ _ Et
   refine⟨#[],HL,True.intro,rfl,fun pk c' oc doc pm BB Io PM=>?_⟩
   have EU:Cz K c (TC ts tn b) (JJ P w ts tn b) (yx ys (la :: [l1,l2,l3,l4])) (upd Hc Tb (.BE Io)) a st:=⟨AH.tb HL PL.Y,AO.keep (W b) PL.T (lp HL),PL.O,PL.G⟩
   have Ei:Cz K c (TC ts tn b) (JJ P w ts tn b) (yx ys (la :: a.four)) (upd Hc Tb (.BE Io)) (a.twin y dy ro l1 l2 l3 l4) st:=⟨AH.tb HL C7.Y,AO.keep (W b) C7.T (lp HL),C7.O,C7.G⟩
   have Ed:upd Hc Tb (.BE Io) la=some (.lst []):=by rw[ae (aU AU HL (by intro z;cases z))];exact AU
   have Dq:∀ H',Ai (la :: (a.four ++ [l1,l2,l3,l4])) (upd Hc Tb (.BE Io)) H'->Ah K H' sc (ns.map V.int):=fun H' o=>by
    rcases hS with (e | ⟨u,e⟩) | e
    ·exact .inl (.inl (o _ _ (fun z=>by rw[DY _ z]at e;cases e) (by rw[ae (aU (NP _ _ e) HL (by intro z;cases z))];exact NP _ _ e)))
    ·exact .inl (.inr ⟨u,o _ _ (fun z=>by rw[DY _ z]at e;cases e) (by rw[ae (aU (NP _ _ e) HL (by intro z;cases z))];exact NP _ _ e)⟩)
    ·exact .inr e
   generalize upd Hc Tb (.BE Io)=Hd at EU Ei Ed Dq ⊢
   refine⟨[.ref sc, .ref la], .cons rfl (.cons rfl .nil),_,rfl,_,rfl,_,rfl,((b,la :: [l1,l2,l3,l4]),(sc,la),ns),rfl,a,st,most,rfl,EU,hJ,mem_cons_self,Uc,Ed,by omega,XS,(fun H' o=>Dq H' (o.mono fun z hz=>(mem_cons.mp hz).elim (fun e=>by rw[e];exact mem_cons_self) fun hz=>mem_cons_of_mem _ (mem_append_left _ hz))),fun Dm AE Bp l s' He oe Yq Ez hGe HJ hDm JW Yr Ud Yt hlen h100 Ue=>?_⟩
   have DJ:AE.length=l.length:=by rw[Paired.length Yr,length_map]
   have PF:Bp.length=l.length:=by rw[Paired.length Yt,length_map]
   have four:∀ z ∈ la :: a.four,∃ xs,Hd z=some (.lst xs):=fun z hz=>by
    rcases mem_cons.mp hz with rfl | hz
    ·exact⟨_,Ed⟩
    ·exact EU.Y.Ba z hz
   have ke:Ax Hd He:=Ai.Am four oe
   have ff:∀ z ∈ [l1,l2,l3,l4],z ∉ la :: a.four:=fun z hz F3=>by
    rcases mem_cons.mp F3 with e | F3
    ·exact NQ (e ▸ hz)
    ·exact Yp z F3 hz
   have Jg:AH K (yx ys (la :: a.four)) He (a.twin y dy ro l1 l2 l3 l4) st:=AH.FZ Ei.Y oe (fun z hz=>hz) ff fun z hz=>by
    rcases mem_cons.mp hz with rfl | hz
    ·exact⟨_,Ud⟩
    ·exact Yq.Ba z hz
   have NR:=AO.keep (W b) Ei.T ke
   have Ug:=AO.keep (W b) EU.T ke
   have NU:∀ z,Hd z=none->z ∉ [l1,l2,l3,l4]:=fun z hz hm=>by obtain⟨xs,hx⟩:=Ei.Y.Ba z hm;rw[hz]at hx;cases hx
   have Yu:=NU Dm hDm
   refine⟨_,rfl, .ref Dm,_, "list",true,rfl, .lst JW,zll,_,rfl,aI ⟨_,rfl,Dm,_,rfl, .inl (Ah.of JW),_,rfl,la,_,rfl, .inl (Ah.of Ud),rfl,_,rfl,?_⟩⟩
   rw[DJ,PF]
   refine KD rfl ⟨_,rfl,Dm,_,rfl, .inl (Ah.of JW),_,rfl,_,_,rfl,_,_,rfl,rfl,_,rfl,?_⟩
   rw[DJ,decide_eq_false (by split<;>omega)]
   refine aI ⟨_,rfl,Dm,_,rfl, .inl (Ah.of JW),((AE.length:Nat):Int),rfl,by omega,by omega,?_⟩
   rw[toNat_natCast,DJ]
   refine bE (lo:=0) (n:=l.length) (fun k σ Hx=>∃ (PN PQ:Option V),Ai [l1,l2,l3,l4] He Hx/\AH K (yx ys (la :: a.four)) Hx (a.twin y dy ro l1 l2 l3 l4) (gj l s' k)/\Bn a (gj l s' k)/\(gj l s' k).done.length <= 10 + k/\σ=[some (.ref sc),some (.ref tb),some (.int a.ps.length),some (.int a.n),some (.ref Ro),some (.ref a.y),some (.ref Ce),some (.ref y),some (.int most),some (.ref la),some (.ref pk),some (.ref Dm),PN,PQ])
    ⟨none,none,Ab.AJ (Ab.refl _),by rw[HJ.Dt];exact Jg,by rw[HJ.Dt];exact hJ,by rw[HJ.Dt];omega,rfl⟩ ?_ ?_
   ·rintro k σ Hx hk ⟨PN,PQ,ox,HM,NV,Yv,rfl⟩
    rw[zero_add]
    obtain⟨sk,s1,m,hl,CV,PM,NW,EV⟩:=HJ.step k hk
    rw[CV]at HM NV Yv
    have kx:Ax He Hx:=Ai.Am (fun z hz=>Jg.Ba z hz) ox
    have hTx:=AO.keep (W b) NR kx
    have NX:Cz K c (TC ts tn b) (JJ P w ts tn b) (yx ys (la :: a.four)) Hx (a.twin y dy ro l1 l2 l3 l4) sk:=⟨HM,hTx,Ei.O,NV.twin.ok⟩
    refine⟨_,rfl,y,dy,_,rfl,HM.ins,rfl,(b,la :: a.four),a.twin y dy ro l1 l2 l3 l4,sk,rfl,NX,fun M As H2 s2 hM gM pM=>?_⟩
    rw[wI]at pM
    have k2:Ax He H2:=kx.trans (Ab.Am s2)
    have o2:Ai [l1,l2,l3,l4] He H2:=fun z u hz e=>s2 _ _ (ox z u hz e)
    have gA2:=o2 _ _ NQ Ud
    have Yw:=o2 _ _ Yu JW
    obtain⟨va,hva,pq,qvs,rfl,nq,gq,pqs⟩:=Paired.at2 (i:=k) (b:=sk) Yt (by rw[List.getElem?_map,hl];rfl)
    have gq2:=o2 _ _ (NU _ nq) gq
    obtain⟨vd,Yx,pm,rfl,gpm⟩:=Paired.at2 (i:=k) (b:=dD m) Yr (by rw[List.getElem?_map,hl];rfl)
    have NY:=k2 _ _ gpm True.intro
    have sS2:Ah K H2 sc (ns.map V.int):=Dq H2 fun z u hz e=>o2 z u (fun h=>hz (mem_cons_of_mem _ (mem_append_right _ h))) (oe z u (fun h=>hz ((mem_cons.mp h).elim (fun e=>by rw[e];exact mem_cons_self) fun h=>mem_cons_of_mem _ (mem_append_left _ h))) e)
    refine⟨_,rfl,_,rfl,la,Bp,(k:Int), .ref pq,rfl,rfl,Ah.of gA2,ak hva,_,rfl,?_⟩
    refine Wl (d := .list ((bu a sk).map qZ)) (.lst (Ah.of gq2) (fF (Paired.mono (fun v m z=>Bc.keep k2 z) pqs))) (.lst (Ah.of gM) (fF pM)) (pH _) ⟨_,rfl,aI ?_⟩
    have Fp:As.length=(bu a sk).length:=by rw[Paired.length pM,length_map]
    have Ny:0 < As.length:=by rw[Fp];exact(pN PM).1
    have np:(0:Int) < ((As.length:Nat):Int):=by omega
    have z1:=emod_nonneg (gZ ns k) (show((As.length:Nat):Int) ≠ 0 by omega)
    obtain⟨j,hj⟩:∃ j:Nat,gZ ns k % ((As.length:Nat):Int)=(j:Int):=⟨(gZ ns k % ((As.length:Nat):Int)).toNat,by omega⟩
    have Rm:(bu a sk)[j]? = some m:=by
     have h:=PM
     unfold i4 at h
     rw[← Fp,hj,toNat_natCast]at h
     exact h
    obtain⟨vj,hvj,pj,rfl,gpj⟩:=Paired.at2 (i:=j) (b:=dD m) pM (by rw[List.getElem?_map,Rm];rfl)
    refine⟨_,rfl,_,rfl,Dm,AE,(k:Int), .ref pm,rfl,rfl,Ah.of Yw,ak Yx,_,rfl,_,rfl,_,rfl,sc,ns,k,rfl,sS2,_,rfl,M,_,rfl, .inl (Ah.of gM),_,_,rfl,rfl,np,M,As,(j:Int), .ref pj,rfl,congrArg V.int hj,Ah.of gM,ak hvj,?_⟩
    refine Wl (d:=qZ m) (l7 m NY) (l7 m gpj) ((ia m).le (by decide)) ⟨_,rfl,aI ?_⟩
    have C8:=NX.same (W b) s2
    refine⟨_,rfl,y,dy,_,rfl,C8.Y.ins,rfl,_,rfl,_,rfl,Dm,AE,(k:Int), .ref pm,rfl,rfl,Ah.of Yw,ak Yx,(b,la :: a.four),a.twin y dy ro l1 l2 l3 l4,sk,pm,m,rfl,C8,NY,(pN PM).2,NV.Xm (by omega),fun H3 s3 Uh o3 Cn=>?_⟩
    have e3:s3=s1:=BQ.det Uh.twin NW
    subst e3
    refine⟨_,_,o2.trans o3,by rw[EV];exact Cn,by rw[EV];exact(NV.step NW).done _,?_,rfl⟩
    rw[EV]
    show(sk.done ++ [_]).length <= _
    rw[length_append,length_singleton];omega
   rintro σ Hx ⟨PN,PQ,ox,HM,NV,Yv,rfl⟩
   rw[HJ.fin]at HM
   have kx:Ax He Hx:=Ai.Am (fun z hz=>Jg.Ba z hz) ox
   have NX:Cz K c (TC ts tn b) (JJ P w ts tn b) (yx ys (la :: a.four)) Hx (a.twin y dy ro l1 l2 l3 l4) s':=⟨HM,AO.keep (W b) NR kx,Ei.O,Ez.twin.ok⟩
   have gDx:=ox _ _ Yu JW
   refine⟨fun σ H2=>Ab Hx H2/\σ=[some (.ref sc),some (.ref tb),some (.int a.ps.length),some (.int a.n),some (.ref Ro),some (.ref a.y),some (.ref Ce),some (.ref y),some (.int most),some (.ref la),some (.ref pk),some (.ref Dm),PN,PQ],?_,?_⟩
   ·refine⟨_,rfl,Dm,_,rfl, .inl (Ah.of gDx),_,rfl,_,_,rfl,rfl,_,rfl,?_⟩
    rw[DJ]
    by_cases Jb:(l.length:Int) < most
    ·rw[decide_eq_true Jb]
     refine aK ⟨_,rfl,y,dy,_,rfl,HM.ins,rfl,(b,la :: a.four),a.twin y dy ro l1 l2 l3 l4,s',rfl,NX,fun M As H2 s2 hM gM pM=>⟨zero_le _,fun o7 HG=>?_⟩⟩
     have s3:=s2.new (o := .lst []) HG
     have g7:(upd H2 o7 (.lst [])) o7=some (.lst []):=ac
     have JR:(upd H2 o7 (.lst [])) M=some (.lst As):=by rw[ae (ag gM HG)];exact gM
     have NA:=Paired.mono (fun _ _ z=>Bc.keep (Ab.Am ((Ab.refl H2).new (o := .lst []) HG)) z) pM
     generalize upd H2 o7 (.lst [])=H3 at s3 g7 JR NA ⊢
     refine neN (f:=qZ) (l:=bu a s') (.lst (Ah.of JR) (fF NA)) (.lst (Ah.of g7) .nil) (pH _) ⟨_,rfl,?_⟩
     rw[Ue Jb]
     exact aI ⟨s3,rfl⟩
    ·rw[decide_eq_false Jb]
     exact aI (aI ⟨Ab.refl _,rfl⟩)
   rintro σ H2 ⟨s2,rfl⟩
   have ox2:Ai [l1,l2,l3,l4] He H2:=fun z u hz e=>s2 _ _ (ox z u hz e)
   have Ui:AH K (yx ys (la :: [l1,l2,l3,l4])) H2 a s':=Ak.same (AH.FZ Yq ox (fun z hz=>mem_cons_of_mem _ hz) Yp fun z hz=>HM.Ba z hz) s2
   have Uj:Cz K c (TC ts tn b) (JJ P w ts tn b) (yx ys (la :: [l1,l2,l3,l4])) H2 a s':=⟨Ui,AO.keep (W b) Ug (kx.trans (Ab.Am s2)),EU.O,Ez.ok⟩
   have Uk:=NX.same (W b) s2
   have Jh:∀ d ∈ s'.done,∀ x ∈ d,vm x:=by
    obtain⟨d,hd,hsd⟩:=hGe.done
    rw[hd]
    intro x hx
    rcases mem_append.mp hx with hx | hx
    ·exact Jf x hx
    ·exact hsd x hx
   refine⟨_,rfl,_,rfl,_,rfl,(b,la :: [l1,l2,l3,l4]),fun _=>True,a,s',fun _ _=>True.intro,by rw[Ez.lanes,Ez.lies];rfl,Uj,by rw[Ez.lanes];omega,by rw[Ez.lies];omega,by have:=Ez.Bd;omega,fun v1 H3 s3 Sa=>?_⟩
   refine⟨_,rfl,_,rfl,_,rfl,(b,la :: a.four),fun _=>True,a.twin y dy ro l1 l2 l3 l4,s',fun _ _=>True.intro,by rw[Ez.lanes,Ez.lies];rfl,Uk.same (W b) s3,by rw[Ez.lanes];omega,by rw[Ez.lies];omega,by have:=Ez.Bd;omega,fun v2 H4 s4 hv2=>?_⟩
   exact eqS (d:=T3 (a,s')) (uV Jh (JO.same s4 _ _ Sa)) (uV (as:=(a.twin y dy ro l1 l2 l3 l4,s')) Jh hv2) ((yk Jh).le (by decide)) (q _)
theorem len_of1 {α:Type}{P:List α->Prop}(h:∀ a0,P [a0]):∀ us:List α,us.length=1->P us
 | [a0],_=>h a0
theorem len_of2 {α:Type}{P:List α->Prop}(h:∀ a0 a1,P [a0,a1]):∀ us:List α,us.length=2->P us
 | [a0,a1],_=>h a0 a1
theorem len_of3 {α:Type}{P:List α->Prop}(h:∀ a0 a1 a2,P [a0,a1,a2]):∀ us:List α,us.length=3->P us
 | [a0,a1,a2],_=>h a0 a1 a2
theorem len_of4 {α:Type}{P:List α->Prop}(h:∀ a0 a1 a2 a3,P [a0,a1,a2,a3]):∀ us:List α,us.length=4->P us
 | [a0,a1,a2,a3],_=>h a0 a1 a2 a3
theorem len_of5 {α:Type}{P:List α->Prop}(h:∀ a0 a1 a2 a3 a4,P [a0,a1,a2,a3,a4]):∀ us:List α,us.length=5->P us
 | [a0,a1,a2,a3,a4],_=>h a0 a1 a2 a3 a4
structure FT (K:Frag)(mg:Str->Option Value)(n:Str)(st:Stmt)(ps:List Str)(f:Addr)(fd:FuncData):Prop where
 F:AA K n n st f fd
 m:mg n=some (.ref f)
 k:keepIn K (.ref f)=true
 b:Binds K fd ps []
structure FM (K:Frag)(C:Addr)(n q:Str)(st:Stmt)(ps:List Str)(f:Addr)(fd:FuncData):Prop where
 F:AA K n q st f fd
 m:bz K C n f
 b:Binds K fd ps []
section
variable {K:Frag}{mg:Str->Option Value}{C f:Addr}{n q:Str}{st:Stmt}{ps:List Str}{h:Heap}{oc:Value}{od an:Option Addr}{CO:Array (Option Value)}{kV doc pm cdv ct:Value}
theorem mkT (X:K.In h)(G:h.Ns mainGlobals mg)(hb:∀ (kV doc pm:Value) (an:Option Addr) (cdv ct:Value) (us:List Value),us.length=ps.length->bindArgs (fnOf n n (bv st) (aE st) (ah st) .none kV doc pm an cdv ct) ⟨us,[]⟩ = pure (ps.zip us))
  (a:nsIn K mainGlobals n=some (some (.ref f))) (l:K.lookup f=some ⟨oc,od, .func (fnOf n n (bv st) (aE st) (ah st) .none kV doc pm an cdv ct),CO⟩) (c:codeIn K cdv n=true) (k:keepIn K (.ref f)=true):∃ fd,FT K mg n st ps f fd :=
 ⟨_,j1 l c k,mg_of X G a,k,(j1 l c k).binds hb⟩
theorem mkM (hb:∀ (kV doc pm:Value) (an:Option Addr) (cdv ct:Value) (us:List Value),us.length=ps.length->bindArgs (fnOf n q (bv st) (aE st) (ah st) .none kV doc pm an cdv ct) ⟨us,[]⟩ = pure (ps.zip us))
  (a:findIn K (.ref C) n=some (some (.ref f))) (l:K.lookup f=some ⟨oc,od, .func (fnOf n q (bv st) (aE st) (ah st) .none kV doc pm an cdv ct),CO⟩) (c:codeIn K cdv q=true) (k:keepIn K (.ref f)=true) (i:isFn K (.ref f)=true):∃ fd,FM K C n q st ps f fd :=
 ⟨_,j1 l c k,⟨a,i,k⟩,(j1 l c k).binds hb⟩
end
section
variable {l:PySem.W.OpenLaw}{w:World}{K:Frag}{h:Heap}{mg:Str->Option Value}{fa cL cN cT cR cE cB cD cO cM cP cG cW cZ cF cQ cA cH cJ f1 f2 f3 f4 f5 f6 f7 f8 f9 Yy ON Yz Y1 Y2 Y3 Ul Um Y4 Y5 Uo Up Uq Ur Us Y6 Ut Uu Y7 PR Uv Uw Ux Uy Uz U0 NZ U1 f38 U2 f40 U3 Y8 U4 Y9 U5 U6 YB YC U7 YD HN JX PU U8 U9 UA UB YE UC UD UE UG UH UI UJ UK UL UM UN UO YF UP:Addr}{t1 t2 t3 t4 t5:Tok}
theorem both {α β:Type}{P:Bool->α->β->Prop}{a1 a2:α}{b1 b2:β}(h1:P true a1 b1)(h2:P false a2 b2):∃ (f:Bool->α)(g:Bool->β),∀ b,P b (f b) (g b):=⟨fun b=>cond b a1 a2,fun b=>cond b b1 b2,fun b=>by cases b<;>assumption⟩
theorem all_mk (X:K.In h)(G:h.Ns mainGlobals mg)(DQ:mg "law" = some (.ref fa))
  {UQ Oa UR Ob US Oc:Option Addr} {UT UU UW:Array (Option Value)} {UX Od Oe Of Gu Og UY Oh Oi Oj Ji Ol UZ Om Oo Oq Jj Ot oTb:Value} {cc Tb:Addr} {dTb:Option Addr} {YG:Array Value} {sTb:Array (Option Value)}
  {Ov Ow:Addr} {Va Vb:Value} {Vc Vd:Option Addr} {Ve Vf:Nat} {Vg:Tok}  {Vh Vi:Array (Option Value)}
  (gcL:nsIn K mainGlobals "Land" = some (some (.ref cL)))
  (gcN:nsIn K mainGlobals "NoPlaces" = some (some (.ref cN)))
  (gcT:nsIn K mainGlobals "TooMany" = some (some (.ref cT)))
  (gcR:nsIn K mainGlobals "NoRoad" = some (some (.ref cR)))
  (gcE:nsIn K mainGlobals "NoEntry" = some (some (.ref cE)))
  (gcB:nsIn K mainGlobals "Table" = some (some (.ref cB)))
  (gcD:nsIn K mainGlobals "Told" = some (some (.ref cD)))
  (gcO:nsIn K mainGlobals "Nearer" = some (some (.ref cO)))
  (gcM:nsIn K mainGlobals "NoRooms" = some (some (.ref cM)))
  (gcP:nsIn K mainGlobals "NoPlace" = some (some (.ref cP)))
  (gcG:nsIn K mainGlobals "NoLength" = some (some (.ref cG)))
  (gcW:nsIn K mainGlobals "NoWord" = some (some (.ref cW)))
  (gcZ:nsIn K mainGlobals "NoWay" = some (some (.ref cZ)))
  (gcF:nsIn K mainGlobals "Full" = some (some (.ref cF)))
  (gcQ:nsIn K mainGlobals "NoMove" = some (some (.ref cQ)))
  (gcA:nsIn K mainGlobals "Lane" = some (some (.ref cA)))
  (gcH:nsIn K mainGlobals "Letter" = some (some (.ref cH)))
  (gcJ:nsIn K mainGlobals "Yard" = some (some (.ref cJ)))
  (h1:∃ d,FT K mg "run" yw ["yard", "pick", "most"] f1 d)
  (h2:∃ d,FT K mg "has" vG ["some", "number"] f2 d)
  (h3:∃ d,FT K mg "members" tj ["some"] f3 d)
  (h4:∃ d,FT K mg "set_of" yu ["numbers"] f4 d)
  (h5:∃ d,FT K mg "is_whole" fS ["value"] f5 d)
  (h6:∃ d,FT K mg "is_within" iH ["value", "least", "most"] f6 d)
  (h7:∃ d,FT K mg "is_one_of" yz ["value", "numbers"] f7 d)
  (h8:∃ d,FT K mg "are_two_places" yr ["places", "one", "other"] f8 d)
  (h9:∃ d,FT K mg "row_fits" lT ["land", "row"] f9 d)
  (h10:∃ d,FT K mg "onward" Rt ["table", "lane", "goal"] Yy d)
  (h11:∃ d,FT K mg "rooms_of" fT ["land", "rooms"] ON d)
  (h12:∃ d,FT K mg "is_word" sP ["word"] Yz d)
  (h13:∃ d,FT K mg "is_move" lQ ["move"] Y1 d)
  (h14:∃ d,FT K mg "how_far" y8 ["land", "goal"] Y2 d)
  (h15:∃ d,FT K mg "nearer_lanes" Ly ["land", "far", "place"] Y3 d)
  (h16:∃ d,FT K mg "_law_cell_at" pJ ["_law_script", "_law_k"] Ul d)
  (h17:∃ d,FT K mg "_law_mixed" y1 ["_law_cell", "_law_k"] Um d)
  (h18:∃ d,FT K mg "_law_lanes" oq ["_law_places", "_law_amount", "_law_cell"] Y4 d)
  (h19:∃ d,FT K mg "_law_rows" jg ["_law_places", "_law_lanes_here", "_law_cell"] Y5 d)
  (h20:∃ d,FT K mg "_law_table" t7 ["_law_script"] Uo d)
  (h21:∃ d,FT K mg "_law_begins" oz ["_law_table_here"] Up d)
  (h22:∃ d,FT K mg "_law_rooms" gB ["_law_table_here", "_law_cell"] Uq d)
  (h23:∃ d,FT K mg "_law_posts" kQ ["_law_yard", "_law_begins_here", "_law_cells"] Ur d)
  (h24:∃ d,FT K mg "_law_stand" dZ ["_law_yard", "_law_lanes_here", "_law_places"] Us d)
  (h25:∃ d,FT K mg "_law_answer" yC ["_law_script", "_law_k"] Y6 d)
  (a26:nsIn K mainGlobals "law" = some (some (.ref Ut)))
  (l26:K.lookup Ut=some ⟨UX,UQ, .func (fnOf "law" "law" (bv iB) (aE iB) (ah iB) .none Od Oe Of Oa Gu Og),UT⟩)
  (c26:codeIn K Gu "law" = true)
  (k26:keepIn K (.ref Ut)=true)
  (h27:∃ d,FM K cL "__init__" "Land.__init__" lS ["self", "places", "lanes"] Uu d)
  (h28:∃ d,FM K cL "start_of" "Land.start_of" oh ["self", "lane"] Y7 d)
  (h29:∃ d,FM K cL "end_of" "Land.end_of" yB ["self", "lane"] PR d)
  (h30:∃ d,FM K cL "out_of" "Land.out_of" sX ["self", "place"] Uv d)
  (h31:∃ d,FM K cL "into" "Land.into" lR ["self", "place"] Uw d)
  (h32:∃ d,FM K cT "__init__" "TooMany.__init__" OY ["self", "many"] Ux d)
  (h33:∃ d,FM K cR "__init__" "NoRoad.__init__" OZ ["self", "lane"] Uy d)
  (h34:∃ d,FM K cE "__init__" "NoEntry.__init__" Pa ["self", "row"] Uz d)
  (h35:∃ d,FM K cZ "__init__" "NoWay.__init__" vF ["self", "start", "goal"] U0 d)
  (h36:∃ d,FM K cB "__init__" "Table.__init__" yt ["self", "land"] NZ d)
  (h37:∃ d,FM K cD "__init__" "Told.__init__" sS ["self", "land", "rows"] U1 d)
  (h38:∃ d,FM K cD "ways" "Told.ways" og ["self", "place", "goal", "came"] f38 d)
  (h39:∃ d,FM K cO "__init__" "Nearer.__init__" sZ ["self", "land"] U2 d)
  (h40:∃ d,FM K cO "ways" "Nearer.ways" sQ ["self", "place", "goal", "came"] f40 d)
  (h41:∃ d,FM K cA "__init__" "Lane.__init__" y4 ["self", "room"] U3 d)
  (h42:∃ d,FM K cA "open_to" "Lane.open_to" sY ["self", "letter", "count"] Y8 d)
  (h43:∃ d,FM K cA "put" "Lane.put" yy ["self", "letter", "count", "last"] U4 d)
  (h44:∃ d,FM K cA "front" "Lane.front" ou ["self"] Y9 d)
  (h45:∃ d,FM K cA "pull" "Lane.pull" sU ["self"] U5 d)
  (h46:∃ d,FM K cA "bring" "Lane.bring" oy ["self"] U6 d)
  (h47:∃ d,FM K cA "told" "Lane.told" y3 ["self"] YB d)
  (h48:∃ d,FM K cA "twin" "Lane.twin" y2 ["self"] YC d)
  (h49:∃ d,FM K cH "__init__" "Letter.__init__" tw ["self", "start", "goal", "length", "word"] U7 d)
  (h50:∃ d,FM K cH "twin" "Letter.twin" tu ["self"] YD d)
  (a51:findIn K (.ref cJ) "__init__" = some (some (.ref HN)))
  (l51:K.lookup HN=some ⟨UY,UR, .func (fnOf "__init__" "Yard.__init__" (bv ie) (aE ie) (ah ie) (.ref Ov) Oh Oi Oj Ob Ji Ol),UU⟩)
  (d51:K.lookup Ov=some ⟨Va,Vc, .seq #[Value.none] Ve,Vh⟩)
  (c51:codeIn K Ji "Yard.__init__" = true)
  (k51:keepIn K (.ref HN)=true)
  (i51:isFn K (.ref HN)=true)
  (a52:findIn K (.ref cJ) "post" = some (some (.ref JX)))
  (l52:K.lookup JX=some ⟨UZ,US, .func (fnOf "post" "Yard.post" (bv gA) (aE gA) (ah gA) (.ref Ow) Om Oo Oq Oc Jj Ot),UW⟩)
  (d52:K.lookup Ow=some ⟨Vb,Vd, .seq #[Value.int 0 Vg] Vf,Vi⟩)
  (c52:codeIn K Jj "Yard.post" = true)
  (k52:keepIn K (.ref JX)=true)
  (i52:isFn K (.ref JX)=true)
  (h53:∃ d,FM K cJ "moves" "Yard.moves" oj ["self"] PU d)
  (h54:∃ d,FM K cJ "moves_in" "Yard.moves_in" lP ["self", "number"] U8 d)
  (h55:∃ d,FM K cJ "moves_on" "Yard.moves_on" lO ["self", "lane"] U9 d)
  (h56:∃ d,FM K cJ "moves_lie" "Yard.moves_lie" oi ["self", "lane"] UA d)
  (h57:∃ d,FM K cJ "moves_back" "Yard.moves_back" kP ["self", "lane"] UB d)
  (h58:∃ d,FM K cJ "wanted" "Yard.wanted" gs ["self", "lane"] YE d)
  (h59:∃ d,FM K cJ "moves_like" "Yard.moves_like" tp ["self", "move"] UC d)
  (h60:∃ d,FM K cJ "do" "Yard.do" Ru ["self", "move"] UD d)
  (h61:∃ d,FM K cJ "go_in" "Yard.go_in" tD ["self", "number", "lane"] UE d)
  (h62:∃ d,FM K cJ "enter" "Yard.enter" ow ["self", "piece", "lane"] UG d)
  (h63:∃ d,FM K cJ "lay" "Yard.lay" y6 ["self", "piece", "place"] UH d)
  (h64:∃ d,FM K cJ "own_lane" "Yard.own_lane" sW ["self", "lane"] UI d)
  (h65:∃ d,FM K cJ "own_letter" "Yard.own_letter" sV ["self", "number"] UJ d)
  (h66:∃ d,FM K cJ "lane_told" "Yard.lane_told" ot ["self", "lane"] UK d)
  (h67:∃ d,FM K cJ "way_told" "Yard.way_told" sR ["self", "number"] UL d)
  (h68:∃ d,FM K cJ "lying" "Yard.lying" om ["self", "place"] UM d)
  (h69:∃ d,FM K cJ "posted" "Yard.posted" kO ["self"] UN d)
  (h70:∃ d,FM K cJ "history" "Yard.history" t8 ["self"] UO d)
  (h71:∃ d,FM K cJ "bare_twin" "Yard.bare_twin" tE ["self"] YF d)
  (h72:∃ d,FM K cJ "twin" "Yard.twin" oa ["self"] UP d)
  (mp:nsIn K mainGlobals "MOST_PLACES" = some (some (.int 12 t1)))
  (ml:nsIn K mainGlobals "MOST_LANES" = some (some (.int 40 t2)))
  (mr:nsIn K mainGlobals "MOST_ROOM" = some (some (.int 60 t3)))
  (mh:nsIn K mainGlobals "MOST_LENGTH" = some (some (.int 60 t4)))
  (mk:nsIn K mainGlobals "MOST_LETTERS" = some (some (.int 60 t5)))
  (p1cL:plainGet K cL Str.empty=true)
  (p2cL:hasDictIn K cL=true)
  (p3cL:plainOver K cL=true)
  (p4cL:findIn K (.ref cL) "__setattr__" = some (some (.builtin "object.__setattr__")))
  (p5cL:makesIn K cL=true)
  (p6cL:keepIn K (.ref cL)=true)
  (ncLplaces:findIn K (.ref cL) "places" = some none)
  (ncLlanes:findIn K (.ref cL) "lanes" = some none)
  (p1cB:plainGet K cB Str.empty=true)
  (p2cB:hasDictIn K cB=true)
  (p3cB:plainOver K cB=true)
  (p4cB:findIn K (.ref cB) "__setattr__" = some (some (.builtin "object.__setattr__")))
  (p5cB:makesIn K cB=true)
  (p6cB:keepIn K (.ref cB)=true)
  (ncBland:findIn K (.ref cB) "land" = some none)
  (p1cD:plainGet K cD Str.empty=true)
  (p2cD:hasDictIn K cD=true)
  (p3cD:plainOver K cD=true)
  (p4cD:findIn K (.ref cD) "__setattr__" = some (some (.builtin "object.__setattr__")))
  (p5cD:makesIn K cD=true)
  (p6cD:keepIn K (.ref cD)=true)
  (ncDland:findIn K (.ref cD) "land" = some none)
  (ncDentries:findIn K (.ref cD) "entries" = some none)
  (p1cO:plainGet K cO Str.empty=true)
  (p2cO:hasDictIn K cO=true)
  (p3cO:plainOver K cO=true)
  (p4cO:findIn K (.ref cO) "__setattr__" = some (some (.builtin "object.__setattr__")))
  (p5cO:makesIn K cO=true)
  (p6cO:keepIn K (.ref cO)=true)
  (ncOland:findIn K (.ref cO) "land" = some none)
  (ncOentries:findIn K (.ref cO) "entries" = some none)
  (p1cA:plainGet K cA Str.empty=true)
  (p2cA:hasDictIn K cA=true)
  (p3cA:plainOver K cA=true)
  (p4cA:findIn K (.ref cA) "__setattr__" = some (some (.builtin "object.__setattr__")))
  (p5cA:makesIn K cA=true)
  (p6cA:keepIn K (.ref cA)=true)
  (ncArights:findIn K (.ref cA) "rights" = some none)
  (ncAreturning:findIn K (.ref cA) "returning" = some none)
  (ncAholder:findIn K (.ref cA) "holder" = some none)
  (ncApieces:findIn K (.ref cA) "pieces" = some none)
  (p1cH:plainGet K cH Str.empty=true)
  (p2cH:hasDictIn K cH=true)
  (p3cH:plainOver K cH=true)
  (p4cH:findIn K (.ref cH) "__setattr__" = some (some (.builtin "object.__setattr__")))
  (p5cH:makesIn K cH=true)
  (p6cH:keepIn K (.ref cH)=true)
  (ncHstart:findIn K (.ref cH) "start" = some none)
  (ncHgoal:findIn K (.ref cH) "goal" = some none)
  (ncHlength:findIn K (.ref cH) "length" = some none)
  (ncHword:findIn K (.ref cH) "word" = some none)
  (ncHgone:findIn K (.ref cH) "gone" = some none)
  (ncHway:findIn K (.ref cH) "way" = some none)
  (p1cJ:plainGet K cJ Str.empty=true)
  (p2cJ:hasDictIn K cJ=true)
  (p3cJ:plainOver K cJ=true)
  (p4cJ:findIn K (.ref cJ) "__setattr__" = some (some (.builtin "object.__setattr__")))
  (p5cJ:makesIn K cJ=true)
  (p6cJ:keepIn K (.ref cJ)=true)
  (ncJtable:findIn K (.ref cJ) "table" = some none)
  (ncJrooms:findIn K (.ref cJ) "rooms" = some none)
  (ncJlanes:findIn K (.ref cJ) "lanes" = some none)
  (ncJletters:findIn K (.ref cJ) "letters" = some none)
  (ncJlies:findIn K (.ref cJ) "lies" = some none)
  (ncJdone:findIn K (.ref cJ) "done" = some none)
  (x1cN:b7 K cN none=true)
  (x2cN:keepIn K (.ref cN)=true)
  (x1cT:b7 K cT (some (.ref Ux))=true)
  (x2cT:keepIn K (.ref cT)=true)
  (x3cT:ir K cT=true)
  (x4cT:hasDictIn K cT=true)
  (x5cT:findIn K (.ref cT) "__setattr__" = some (some (.builtin "object.__setattr__")))
  (x6cT:findIn K (.ref cT) "__getattribute__" = some (some (.builtin "BaseException.__getattribute__")))
  (x7cT:findIn K (.ref cT) "__getattr__" = some none)
  (ncTmany:findIn K (.ref cT) "many" = some none)
  (x1cR:b7 K cR (some (.ref Uy))=true)
  (x2cR:keepIn K (.ref cR)=true)
  (x3cR:ir K cR=true)
  (x4cR:hasDictIn K cR=true)
  (x5cR:findIn K (.ref cR) "__setattr__" = some (some (.builtin "object.__setattr__")))
  (x6cR:findIn K (.ref cR) "__getattribute__" = some (some (.builtin "BaseException.__getattribute__")))
  (x7cR:findIn K (.ref cR) "__getattr__" = some none)
  (ncRlane:findIn K (.ref cR) "lane" = some none)
  (x1cE:b7 K cE (some (.ref Uz))=true)
  (x2cE:keepIn K (.ref cE)=true)
  (x3cE:ir K cE=true)
  (x4cE:hasDictIn K cE=true)
  (x5cE:findIn K (.ref cE) "__setattr__" = some (some (.builtin "object.__setattr__")))
  (x6cE:findIn K (.ref cE) "__getattribute__" = some (some (.builtin "BaseException.__getattribute__")))
  (x7cE:findIn K (.ref cE) "__getattr__" = some none)
  (ncErow:findIn K (.ref cE) "row" = some none)
  (x1cM:b7 K cM none=true)
  (x2cM:keepIn K (.ref cM)=true)
  (x1cP:b7 K cP none=true)
  (x2cP:keepIn K (.ref cP)=true)
  (x1cG:b7 K cG none=true)
  (x2cG:keepIn K (.ref cG)=true)
  (x1cW:b7 K cW none=true)
  (x2cW:keepIn K (.ref cW)=true)
  (x1cZ:b7 K cZ (some (.ref U0))=true)
  (x2cZ:keepIn K (.ref cZ)=true)
  (x3cZ:ir K cZ=true)
  (x4cZ:hasDictIn K cZ=true)
  (x5cZ:findIn K (.ref cZ) "__setattr__" = some (some (.builtin "object.__setattr__")))
  (x6cZ:findIn K (.ref cZ) "__getattribute__" = some (some (.builtin "BaseException.__getattribute__")))
  (x7cZ:findIn K (.ref cZ) "__getattr__" = some none)
  (ncZstart:findIn K (.ref cZ) "start" = some none)
  (ncZgoal:findIn K (.ref cZ) "goal" = some none)
  (x1cF:b7 K cF none=true)
  (x2cF:keepIn K (.ref cF)=true)
  (x1cQ:b7 K cQ none=true)
  (x2cQ:keepIn K (.ref cQ)=true)
  (w1cB:PySem.W.readsIn K cB (.type "type")=true)
  (w2cB:PySem.W.findCls K (.ref cB) (.type "type") "__init__" = some (.val (.ref NZ)))
  (w3cB:PySem.W.specialIn K (.ref cB) "__getattribute__" = some (some (.builtin "type.__getattribute__")))
  (kk1:kitOne K (.type "int") (.type "int")=some true)
  (kk2:kitOne K (.type "int") (.type "bool")=some false)
  (kk3:kitOne K (.type "bool") (.type "int")=some true)
  (kk4:kitOne K (.type "bool") (.type "bool")=some true)
  (kk5:kitOne K (.type "NoneType") (.type "int")=some false)
  (kk6:kitOne K (.type "str") (.type "str")=some true)
  (kk7:kitOne K (.type "int") (.type "str")=some false)
  (kk8:kitOne K (.type "tuple") (.type "tuple")=some true)
  (kk9:kitOne K (.type "list") (.type "list")=some true)
  (eQ:PySem.W.exmOne K (.ref cQ) (.ref cQ)=some true)
  (z0:nsIn K mainGlobals "isinstance" = some none)
  (z1:nsIn K mainGlobals "int" = some none)
  (z2:nsIn K mainGlobals "bool" = some none)
  (z3:nsIn K mainGlobals "len" = some none)
  (z4:nsIn K mainGlobals "enumerate" = some none)
  (z5:nsIn K mainGlobals "tuple" = some none)
  (z6:nsIn K mainGlobals "range" = some none)
  (z7:nsIn K mainGlobals "list" = some none)
  (z8:nsIn K mainGlobals "all" = some none)
  (z9:nsIn K mainGlobals "abs" = some none)
  (z10:nsIn K mainGlobals "str" = some none)
  (z11:nsIn K mainGlobals "max" = some none)
  (hc0:Gu=Value.ref cc)
  (lc0:K.lookup cc=some ⟨oTb,dTb, .fields YG,sTb⟩)
  (hv0:YG[11]? = some (Value.ref Tb))
  : ∃ (fd:FuncData)(c Tb:Addr),PySem.W.tabIn K "law" = some (c,Tb)/\(∀ (s:Shared)(v:Value),BindsTo s fd ⟨[v],[]⟩ [("_law_script",v)])/\∀ base:Heap,K.In base->base.Ns mainGlobals mg->Fi mg base c Tb->Ac l.prog w K mg base aC 10 fa fd ["_law_script"] (p8 K Tb):=by
 have e:=DQ.symm.trans (mg_of X G a26)
 cases e
 have T:dE mg:=⟨mg_none_of X G z0,mg_none_of X G z1,mg_none_of X G z2,mg_none_of X G z3,mg_none_of X G z4,mg_none_of X G z5,mg_none_of X G z6,mg_none_of X G z7,mg_none_of X G z8,mg_none_of X G z9,mg_none_of X G z10,mg_none_of X G z11⟩
 obtain⟨d1,H1⟩:=h1
 obtain⟨d2,H2⟩:=h2
 obtain⟨d3,H3⟩:=h3
 obtain⟨d4,H4⟩:=h4
 obtain⟨d5,H5⟩:=h5
 obtain⟨d6,H6⟩:=h6
 obtain⟨d7,H7⟩:=h7
 obtain⟨d8,H8⟩:=h8
 obtain⟨d9,H9⟩:=h9
 obtain⟨d10,F0⟩:=h10
 obtain⟨d11,PV⟩:=h11
 obtain⟨d12,PY⟩:=h12
 obtain⟨d13,PZ⟩:=h13
 obtain⟨d14,Qa⟩:=h14
 obtain⟨d15,Qb⟩:=h15
 obtain⟨d16,EW⟩:=h16
 obtain⟨d17,Ej⟩:=h17
 obtain⟨d18,Qc⟩:=h18
 obtain⟨d19,Qd⟩:=h19
 obtain⟨d20,Qe⟩:=h20
 obtain⟨d21,Qf⟩:=h21
 obtain⟨d22,Qg⟩:=h22
 obtain⟨d23,Qh⟩:=h23
 obtain⟨d24,Qi⟩:=h24
 obtain⟨d25,Qj⟩:=h25
 obtain⟨d27,Qk⟩:=h27
 obtain⟨d28,Vj⟩:=h28
 obtain⟨d29,Ox⟩:=h29
 obtain⟨d30,JY⟩:=h30
 obtain⟨d31,JZ⟩:=h31
 obtain⟨d32,Vk⟩:=h32
 obtain⟨d33,Vl⟩:=h33
 obtain⟨d34,Vm⟩:=h34
 obtain⟨d35,Vn⟩:=h35
 obtain⟨d36,Oy⟩:=h36
 obtain⟨d37,Ql⟩:=h37
 obtain⟨d38,Vo⟩:=h38
 obtain⟨d39,Qm⟩:=h39
 obtain⟨d40,Vp⟩:=h40
 obtain⟨d41,Oz⟩:=h41
 obtain⟨d42,Jk⟩:=h42
 obtain⟨d43,Vq⟩:=h43
 obtain⟨d44,Jl⟩:=h44
 obtain⟨d45,Vr⟩:=h45
 obtain⟨d46,Vs⟩:=h46
 obtain⟨d47,Vt⟩:=h47
 obtain⟨d48,Vu⟩:=h48
 obtain⟨d49,O0⟩:=h49
 obtain⟨d50,Vv⟩:=h50
 obtain⟨d53,O1⟩:=h53
 obtain⟨d54,Vw⟩:=h54
 obtain⟨d55,Vx⟩:=h55
 obtain⟨d56,Vy⟩:=h56
 obtain⟨d57,Vz⟩:=h57
 obtain⟨d58,V0⟩:=h58
 obtain⟨d59,V1⟩:=h59
 obtain⟨d60,V2⟩:=h60
 obtain⟨d61,V3⟩:=h61
 obtain⟨d62,O2⟩:=h62
 obtain⟨d63,V4⟩:=h63
 obtain⟨d64,V5⟩:=h64
 obtain⟨d65,V6⟩:=h65
 obtain⟨d66,V7⟩:=h66
 obtain⟨d67,V8⟩:=h67
 obtain⟨d68,V9⟩:=h68
 obtain⟨d69,VA⟩:=h69
 obtain⟨d70,VB⟩:=h70
 obtain⟨d71,VC⟩:=h71
 obtain⟨d72,VD⟩:=h72
 have F26:=j1 (st:=iB) l26 c26 k26
 have F51:DZ K "__init__" "Yard.__init__" ie HN _:=⟨⟨_,_,_,_,_,_,_,_,_,_,rfl,l51,c51⟩,k51⟩
 have F52:DZ K "post" "Yard.post" gA JX _:=⟨⟨_,_,_,_,_,_,_,_,_,_,rfl,l52,c52⟩,k52⟩
 have L:lC K ⟨cN,cT,cR,cL⟩:=⟨⟨p1cL,p2cL,p3cL,p4cL⟩,ncLplaces,ncLlanes⟩
 have xT:fV K cT:=⟨x3cT,x4cT,x5cT,x6cT,x7cT⟩
 have xR:fV K cR:=⟨x3cR,x4cR,x5cR,x6cR,x7cR⟩
 have xE:fV K cE:=⟨x3cE,x4cE,x5cE,x6cE,x7cE⟩
 have xZ:fV K cZ:=⟨x3cZ,x4cZ,x5cZ,x6cZ,x7cZ⟩
 have Z:vf K:=⟨kk1,kk2,kk3,kk4,kk5⟩
 have ZS:MO K:=⟨kk6,kk7,kk8⟩
 have E:Exc K mg ⟨cN,cT,cR,cL⟩ Ux Uy _ _:=⟨(mg_of X G gcN),x1cN,x2cN,(mg_of X G gcT),x1cT,x2cT,xT,ncTmany,Vk.m.fn,Vk.F,Vk.b,(mg_of X G gcR),x1cR,x2cR,xR,ncRlane,Vl.m.fn,Vl.F,Vl.b⟩
 have B:Rz K mg ⟨cB,cD,cE⟩ NZ Uz _ _:=⟨⟨p1cB,p2cB,p3cB,p4cB⟩,ncBland,⟨p1cD,p2cD,p3cD,p4cD⟩,ncDland,ncDentries,(mg_of X G gcB),⟨w1cB,w2cB,w3cB,Oy.m.kp⟩,Oy.b,(mg_of X G gcE),x1cE,x2cE,xE,ncErow,Vm.m.fn,Vm.F,Vm.b⟩
 have BN:SJ K mg ⟨cB,cO⟩ NZ _:=⟨⟨p1cO,p2cO,p3cO,p4cO⟩,ncOland,ncOentries,(mg_of X G gcB),⟨w1cB,w2cB,w3cB,Oy.m.kp⟩,Oy.b⟩
 have M:LA K ⟨cN,cT,cR,cL⟩ Uv Uw _ _:=⟨JY.m,JZ.m,JY.b,JZ.b⟩
 have ME:xr K ⟨cN,cT,cR,cL⟩ PR _:=⟨Ox.m,Ox.b⟩
 have Y:∀ ex:List Addr,hU K ⟨cJ,cA,cH,ex⟩:=fun _=>⟨⟨p1cJ,p2cJ,p3cJ,p4cJ⟩,ncJtable,ncJrooms,ncJlanes,ncJletters,ncJlies,ncJdone,⟨p1cH,p2cH,p3cH,p4cH⟩,ncHstart,ncHgoal,ncHlength,ncHword,ncHgone,ncHway,⟨⟨p1cA,p2cA,p3cA,p4cA⟩,ncArights,ncAreturning,ncAholder,ncApieces⟩⟩
 have eX:vo K mg "NoRooms" cM:=⟨(mg_of X G gcM),x1cM,x2cM⟩
 have X1:vo K mg "NoPlace" cP:=⟨(mg_of X G gcP),x1cP,x2cP⟩
 have X2:vo K mg "NoLength" cG:=⟨(mg_of X G gcG),x1cG,x2cG⟩
 have X3:vo K mg "NoWord" cW:=⟨(mg_of X G gcW),x1cW,x2cW⟩
 have X5:vo K mg "Full" cF:=⟨(mg_of X G gcF),x1cF,x2cF⟩
 have X4:WJ K mg cZ U0 _:=⟨(mg_of X G gcZ),x1cZ,x2cZ,xZ,ncZstart,ncZgoal,Vn.m.fn,Vn.F,Vn.b⟩
 have XM:LJ K mg cQ:=⟨(mg_of X G gcQ),x1cQ,x2cQ,eQ⟩
 have JN:=oX (kV:=Oh) (doc:=Oi) (pm:=Oj) (cdv:=Ji) (ct:=Ol) (an:=Ob) d51 rfl
 have bp0:=nh (kV:=Om) (doc:=Oo) (pm:=Oq) (cdv:=Jj) (ct:=Ot) (an:=Oc) d52 rfl
 have Mi:Mk K cL Uu:=⟨p5cL,Qk.m.at_,Qk.m.fn,p6cL⟩
 have Mt:Mk K cD U1:=⟨p5cD,Ql.m.at_,Ql.m.fn,p6cD⟩
 have Mn:Mk K cO U2:=⟨p5cO,Qm.m.at_,Qm.m.fn,p6cO⟩
 have My:Mk K cJ HN:=⟨p5cJ,a51,i51,p6cJ⟩
 have Ma:Mk K cA U3:=⟨p5cA,Oz.m.at_,Oz.m.fn,p6cA⟩
 have Mh:Mk K cH U7:=⟨p5cH,O0.m.at_,O0.m.fn,p6cH⟩
 have Ml:Lm K ⟨cN,cT,cR,cL⟩ Y7 PR Uv Uw _ _ _ _:=⟨Vj.m,Vj.b,Ox.m,Ox.b,JY.m,JY.b,JZ.m,JZ.b⟩
 refine⟨fnOf "law" "law" (bv iB) (aE iB) (ah iB) .none Od Oe Of Oa Gu Og,cc,Tb,xQ a26 l26 hc0 lc0 hv0,fun s v => .of_eq rfl,fun base _ _ NS=>?_⟩
 have Jq:=hc0
 have VE:∀ base:Heap,Ac l.prog w K mg base aC 2 f3 _ _ _:=fun base=>yZ H3.F T H2.m H2.F H2.b
 obtain⟨fw,dw,WG⟩:=both (P:=fun b f d=>Wy K (TC ⟨cB,cD,cE⟩ ⟨cB,cO⟩ b) f d (JJ l.prog w ⟨cB,cD,cE⟩ ⟨cB,cO⟩ b)/\∀ base:Heap,Ac l.prog w K mg base aC 3 f d ["self", "place", "goal", "came"] (dY (JJ l.prog w ⟨cB,cD,cE⟩ ⟨cB,cO⟩ b)))
  ⟨⟨⟨p1cO,p2cO,p3cO,p4cO⟩,ncOland,Vp.m,Vp.b,fun H H' x n wy h k=>JH.keep (n:=n) (wy:=wy) h k⟩,fun base=>uc Vp.F BN H3.m H3.k H3.b (VE base)⟩ ⟨⟨⟨p1cD,p2cD,p3cD,p4cD⟩,ncDland,Vo.m,Vo.b,fun H H' x n wy h k=>CA.keep (n:=n) (wy:=wy) h k⟩,fun base=>nH (ud Vo.F B H3.m H3.k H3.b (VE base))⟩
 have Wb:=fun b=>(WG b).1
 have Jm:∀ base:Heap,Yg l.prog w K mg base ⟨cN,cT,cR,cL⟩ ⟨cB,cD,cE⟩ ⟨cB,cO⟩ ⟨cJ,cA,cH,[]⟩ cM Ul Um Uo Uq HN Up Ur Us Y6 UP PU UD f1 _ _ _ _ _ _ _ _ _ _ _ _ _:=fun base=>by
  have Gm:=VE base
  have Gb:=fun b=>(WG b).2 base
  have Gw:Ac l.prog w K mg base aC 2 f6 _ _ _:=qR H6.F T H5.m H5.F H5.b
  have VF:Ac l.prog w K mg base aC 2 f6 _ _ _:=oB H6.F T Z H5.m H5.F H5.b
  have GW:Ac l.prog w K mg base aC 1 f5 _ _ _:=jU H5.F T Z
  have G2:Ac l.prog w K mg base aC 3 f8 _ _ _:=yR H8.F H6.m H6.k H6.b Gw
  have Gi:Ac l.prog w K mg base (dR l.prog w) 4 Uu _ _ _:=wA Qk.F T L E H6.m H6.k H6.b Gw H8.m H8.k H8.b G2 (mg_of X G mp) (mg_of X G ml)
  have Go:Ac l.prog w K mg base aC 2 f7 _ _ _:=yW H7.F T H5.m H5.F H5.b
  have Gf:Ac l.prog w K mg base aC 4 f9 _ _ _:=wD H9.F T L M H8.m H8.k H8.b G2 H7.m H7.k H7.b Go (uh JY.F T L) (pU JZ.F T L)
  have G1:Ac l.prog w K mg base aC 1 NZ _ _ _:=yS Oy.F
  have YH:Ac l.prog w K mg base aC 1 f4 _ _ _:=yT H4.F
  have Gt:Ac l.prog w K mg base (dR l.prog w) 5 U1 _ _ _:=wj Ql.F T B G1 H9.m H9.k H9.b Gf H4.m H4.k H4.b YH
  have Ge:Ac l.prog w K mg base aC 1 PR _ _ _:=zj Ox.F L
  have Gh:Ac l.prog w K mg base aC 2 Y2 _ _ _:=zh Qa.F T L Ml (ue Vj.F L) (pU JZ.F T L)
  have Gnl:Ac l.prog w K mg base aC 2 Y3 _ _ _:=MZ Qb.F T L Ml Ge (uh JY.F T L)
  have Gn:Ac l.prog w K mg base aC 3 U2 _ _ _:=wu Qm.F T L BN G1 Qa.m Qa.k Qa.b Gh Qb.m Qb.k Qb.b Gnl H4.m H4.k H4.b YH
  have TV:Ac l.prog w K mg base (dR l.prog w) 3 ON _ _ _:=ug PV.F T L eX H6.m H6.k H6.b VF (mg_of X G mr)
  have RM:Ac l.prog w K mg base aC 2 Yz _ _ _:=wf PY.F T H5.m H5.k H5.b GW
  have YI:Ac l.prog w K mg base aC 1 U3 _ _ _:=ze Oz.F (Y []).L
  have Glt:Ac l.prog w K mg base aC 1 YB _ _ _:=zd Vt.F T (Y []).L
  have VG:Ac l.prog w K mg base aC 1 Y8 _ _ _:=wt Jk.F (Y []).L
  have VH:Ac l.prog w K mg base aC 1 Y9 _ _ _:=uo Jl.F (Y []).L
  have Gpu:Ac l.prog w K mg base (dR l.prog w) 2 U4 _ _ _:=yV Vq.F (Y []).L XM Jk.m Jk.b VG
  have Gpl:Ac l.prog w K mg base (dR l.prog w) 1 U5 _ _ _:=wl Vr.F (Y []).L XM
  have Gbr:Ac l.prog w K mg base (dR l.prog w) 1 U6 _ _ _:=ut Vs.F (Y []).L XM
  have Gtw:Ac l.prog w K mg base aC 3 YC _ _ _:=zc Vu.F T (Y []).L (mg_of X G gcA) Ma Oz.b YI
  have YJ:Ac l.prog w K mg base aC 1 U7 _ _ _:=zb O0.F (Y [])
  have Gtx:Ac l.prog w K mg base aC 3 YD _ _ _:=za Vv.F T (Y []) (mg_of X G gcH) Mh O0.b YJ
  have Gy:∀ (b:Bool)(ex:List Addr),Ac l.prog w K mg base (dR l.prog w) 4 HN _ _ _:=fun b ex=>yQ F51 T L (Y ex) (Wb b) PV.m PV.k PV.b TV (mg_of X G gcA) Ma Oz.b YI
  have Gp:∀ (b:Bool)(ex:List Addr),Ac l.prog w K mg base (dR l.prog w) 4 JX _ _ (nQ K ⟨cN,cT,cR,cL⟩ (TC ⟨cB,cD,cE⟩ ⟨cB,cO⟩ b) (JJ l.prog w ⟨cB,cD,cE⟩ ⟨cB,cO⟩ b) ⟨cJ,cA,cH,ex⟩ ⟨cP,cG,cW,cZ,cF⟩):=fun b ex=>wn F52 T L (Y ex) (Wb b) (Gb b) H6.m H6.k H6.b VF PY.m PY.k PY.b RM (mg_of X G gcH) Mh O0.b YJ (mg_of X G mh) (mg_of X G mk) X1 X2 X3 X4 X5
  have Gol:∀ ex:List Addr,Ac l.prog w K mg base aC 4 UI _ _ _:=fun ex=>wr V5.F (Y ex) Vu.m Vu.b Gtw
  have Got:∀ ex:List Addr,Ac l.prog w K mg base aC 4 UJ _ _ _:=fun ex=>wq V6.F (Y ex) Vv.m Vv.b Gtx
  have O:∀ ex:List Addr,Own l.prog w K mg base ⟨cJ,cA,cH,ex⟩ cQ UI UJ U4 _ _ _:=fun ex=>⟨V5.m,V5.b,Gol ex,V6.m,V6.b,Got ex,Vq.m,Vq.b,Gpu⟩
  have Gly:∀ ex:List Addr,Ac l.prog w K mg base aC 1 UH _ _ _:=fun ex=>zf V4.F (Y ex)
  have Glg:∀ ex:List Addr,Ac l.prog w K mg base aC 1 UM _ _ _:=fun ex=>uk V9.F T (Y ex)
  have Gen:∀ ex:List Addr,Ac l.prog w K mg base aC 5 UG _ _ _:=fun ex=>uq O2.F (Y ex) (O ex)
  have Ggi:∀ ex:List Addr,Ac l.prog w K mg base aC 6 UE _ _ _:=fun ex=>wC V3.F (Y ex) (O ex) O2.m O2.b (Gen ex)
  have Gon:∀ b:Bool,Ac l.prog w K mg base aC 4 Yy _ _ _:=fun b=>yX F0.F L (Wb b) (Gb b) ME Ge
  have Gmi:∀ (b:Bool)(ex:List Addr),Ac l.prog w K mg base aC 4 U8 _ _ (nU K ⟨cN,cT,cR,cL⟩ (TC ⟨cB,cD,cE⟩ ⟨cB,cO⟩ b) (JJ l.prog w ⟨cB,cD,cE⟩ ⟨cB,cO⟩ b) ⟨cJ,cA,cH,ex⟩):=fun b ex=>wx Vw.F (Y ex) (Wb b) (Gb b) Jk.m Jk.b VG
  have Gwa:∀ (b:Bool)(ex:List Addr),Ac l.prog w K mg base aC 5 YE _ _ (jb K ⟨cN,cT,cR,cL⟩ (TC ⟨cB,cD,cE⟩ ⟨cB,cO⟩ b) (JJ l.prog w ⟨cB,cD,cE⟩ ⟨cB,cO⟩ b) ⟨cJ,cA,cH,ex⟩):=fun b ex=>qS V0.F (Y ex) (Wb b) Jl.m Jl.b VH F0.m F0.k F0.b (Gon b)
  have Gmo:∀ (b:Bool)(ex:List Addr),Ac l.prog w K mg base aC 6 U9 _ _ (nS K ⟨cN,cT,cR,cL⟩ (TC ⟨cB,cD,cE⟩ ⟨cB,cO⟩ b) (JJ l.prog w ⟨cB,cD,cE⟩ ⟨cB,cO⟩ b) ⟨cJ,cA,cH,ex⟩):=fun b ex=>ww Vx.F (Y ex) (Wb b) Jl.m Jl.b VH V0.m V0.b (Gwa b ex) Jk.m Jk.b VG
  have Gml:∀ (b:Bool)(ex:List Addr),Ac l.prog w K mg base aC 2 UA _ _ _:=fun b ex=>ui Vy.F (Y ex) L (Wb b) Jl.m Jl.b VH ME Ge
  have Gmb:∀ (b:Bool)(ex:List Addr),Ac l.prog w K mg base aC 1 UB _ _ (jc K ⟨cN,cT,cR,cL⟩ (TC ⟨cB,cD,cE⟩ ⟨cB,cO⟩ b) (JJ l.prog w ⟨cB,cD,cE⟩ ⟨cB,cO⟩ b) ⟨cJ,cA,cH,ex⟩):=fun b ex=>qU Vz.F (Y ex)
  have MM:∀ (b:Bool)(ex:List Addr),Sm l.prog w K mg base ⟨cN,cT,cR,cL⟩ (TC ⟨cB,cD,cE⟩ ⟨cB,cO⟩ b) (JJ l.prog w ⟨cB,cD,cE⟩ ⟨cB,cO⟩ b) ⟨cJ,cA,cH,ex⟩ U8 U9 UA UB _ _ _ _:=fun b ex=>⟨Vw.m,Vw.b,Gmi b ex,Vx.m,Vx.b,Gmo b ex,Vy.m,Vy.b,Gml b ex,Vz.m,Vz.b,Gmb b ex⟩
  have YK:∀ (b:Bool)(ex:List Addr),Ac l.prog w K mg base aC 7 PU _ _ _:=fun b ex=>uj O1.F T (Y ex) (Wb b) (MM b ex)
  have Gim:Ac l.prog w K mg base aC 2 Y1 _ _ _:=w8 PZ.F T ZS H5.m H5.k H5.b GW
  have Glk:∀ (b:Bool)(ex:List Addr),Ac l.prog w K mg base aC 7 UC _ _ _:=fun b ex=>w6 V1.F T (Y ex) (Wb b) (MM b ex) PZ.m PZ.k PZ.b Gim H6.m H6.k H6.b VF
  have DM:∀ (b:Bool)(ex:List Addr),Xj l.prog w K mg base ⟨cN,cT,cR,cL⟩ (TC ⟨cB,cD,cE⟩ ⟨cB,cO⟩ b) (JJ l.prog w ⟨cB,cD,cE⟩ ⟨cB,cO⟩ b) ⟨cJ,cA,cH,ex⟩ cQ UC UE UG U5 U6 UH _ _ _ _ _ _:=fun b ex=>⟨V1.m,V1.b,Glk b ex,V3.m,V3.b,Ggi ex,O2.m,O2.b,Gen ex,Vr.m,Vr.b,Gpl,Vs.m,Vs.b,Gbr,V4.m,V4.b,Gly ex⟩
  have Gdo:∀ (b:Bool)(ex:List Addr),Ac l.prog w K mg base (dR l.prog w) 8 UD _ _ _:=fun b ex=>MP V2.F (Y ex) L (Wb b) XM (O ex) (DM b ex) ME Ge
  have VI:∀ ex:List Addr,Ac l.prog w K mg base aC 2 UK _ _ _:=fun ex=>um V7.F (Y ex) Vt.m Vt.b Glt
  have Gwt:∀ ex:List Addr,Ac l.prog w K mg base aC 1 UL _ _ _:=fun ex=>wg V8.F T (Y ex)
  have Gpd:∀ ex:List Addr,Ac l.prog w K mg base aC 1 UN _ _ _:=fun ex=>qT VA.F T (Y ex)
  have Ghi:∀ ex:List Addr,Ac l.prog w K mg base aC 1 UO _ _ _:=fun ex=>wB VB.F T (Y ex)
  have Gc:Ac l.prog w K mg base aC 1 Ul _ _ _:=wE EW.F T
  have Qn:Ac l.prog w K mg base aC 1 Um _ _ _:=yY Ej.F
  have Gln:Ac l.prog w K mg base aC 2 Y4 _ _ _:=ul Qc.F T Ej.m Ej.k Ej.b Qn
  have CB:Ac l.prog w K mg base aC 2 Y5 _ _ _:=wk Qd.F T Ej.m Ej.k Ej.b Qn
  have Gtb:Ac l.prog w K mg base aC 7 Uo _ _ _:=wz Qe.F ⟨EW.m,EW.k,EW.b,Gc,Qc.m,Qc.k,Qc.b,Gln,(mg_of X G gcL),Mi,Qk.b,Gi,(mg_of X G gcO),Mn,Qm.b,Gn,(mg_of X G gcD),Mt,Ql.b,Gt,Qd.m,Qd.k,Qd.b,CB⟩
  have Gbe:∀ b:Bool,Ac l.prog w K mg base aC 4 Up _ _ _:=fun b=>uu Qf.F T L (Wb b) (Gb b)
  have Glr:∀ b:Bool,Ac l.prog w K mg base aC 2 Uq _ _ _:=fun b=>qV Qg.F T L (Wb b) Ej.m Ej.k Ej.b Qn
  have Glp:∀ (b:Bool)(ex:List Addr),Ac l.prog w K mg base aC 5 Ur _ _ _:=fun b ex=>wm Qh.F T (Y ex) (Wb b) ⟨a52,i52,k52⟩ bp0 (Gp b ex)
  have SM:∀ (b:Bool)(ex:List Addr),XH l.prog w K mg base ⟨cN,cT,cR,cL⟩ (TC ⟨cB,cD,cE⟩ ⟨cB,cO⟩ b) (JJ l.prog w ⟨cB,cD,cE⟩ ⟨cB,cO⟩ b) ⟨cJ,cA,cH,ex⟩ UK UL UN UM PU UO _ _ _ _ _ _:=fun b ex=>⟨V7.m,V7.b,VI ex,V8.m,V8.b,Gwt ex,VA.m,VA.b,Gpd ex,V9.m,V9.b,Glg ex,O1.m,O1.b,YK b ex,VB.m,VB.b,Ghi ex⟩
  have Gsd:∀ (b:Bool)(ex:List Addr),Ac l.prog w K mg base aC 8 Us _ _ _:=fun b ex=>uf Qi.F T (Y ex) (Wb b) (SM b ex)
  have Gbt:∀ (b:Bool)(ex:List Addr),Ac l.prog w K mg base aC 6 YF _ _ _:=fun b ex=>wF VC.F T (Y ex) (Wb b) (mg_of X G gcJ) My JN (Gy b [])
  have Gyt:∀ (b:Bool)(ex:List Addr),Ac l.prog w K mg base aC 7 UP _ _ _:=fun b ex=>ub VD.F T (Y ex) (Wb b) VC.m VC.b (Gbt b ex)
  exact⟨EW.m,EW.k,EW.b,Gc,Ej.m,Ej.k,Ej.b,Qn,Qe.m,Qe.k,Qe.b,Gtb,Qg.m,Qg.k,Qg.b,Glr,(mg_of X G gcJ),My,JN,Gy,Qf.m,Qf.k,Qf.b,Gbe,Qh.m,Qh.k,Qh.b,Glp,Qi.m,Qi.k,Qi.b,Gsd,Qj.m,Qj.k,Qj.b,fun Ar=>zk Qj.F EW.m EW.k EW.b (ur EW.F T),VD.m,VD.b,Gyt,O1.m,O1.b,YK,V2.m,V2.b,Gdo,H1.m,H1.k,H1.b⟩
 refine zg (c:=⟨cN,cT,cR,cL⟩) (ts:=⟨cB,cD,cE⟩) (tn:=⟨cB,cO⟩) (ys:=⟨cJ,cA,cH,[]⟩) (nr:=cM) F26 Jq NS T kk9 L (Y []) Wb (Jm base) fun Ar pk sc la dp ns hp bp Gp b ex=>yU H1.F T (Y ex) (Wb b) (Jm Ar).mm (Jm Ar).bm (fun ex=>(Jm Ar).Gm b ex) (Jm Ar).md (Jm Ar).bd (fun ex=>(Jm Ar).Gd b ex) hp bp Gp
end
theorem walk {l:PySem.W.OpenLaw}{q:Program}{loose:List Str}{XP:(Str->Option Value)->Heap->Prop}{YP:World->Heap->Prop}{d:DefRec}{K:Params->Frag}(hn:l.most=some 63)(KA:d.params.defaults=[])
  (hY:∀ (w:World)(h:Heap),YP w h->(K w.params).In h) {dd:DefRec} (EE:(PyProof.Rows.recsOf q).find? (fun e=>e.name == ("law":Str))=some dd) (GL:∀ p,PySem.W.noTabs (K p)=true)
  (F:∀ (w:World)(mg:Str->Option Value)(fa:Addr)(h:Heap),(K w.params).In h->h.Ns mainGlobals mg->mg d.name=some (.ref fa) ->
   ∃ (fd:FuncData)(c Tb:Addr),PySem.W.tabIn (K w.params) "law" = some (c,Tb)/\(∀ (s:Shared)(u:Value),BindsTo s fd ⟨[u],[]⟩ [("_law_script",u)])/\∀ base:Heap,(K w.params).In base->base.Ns mainGlobals mg->Fi mg base c Tb->Ac l.prog w (K w.params) mg base aC 10 fa fd ["_law_script"] (p8 (K w.params) Tb)) :
  PySem.W.WalkO q loose XP YP l.row.toRowW d [] (fun f vs=>PySem.call f vs) :=
 L2.EF (n:=63) (k:=10) (x := "_law_script") (CX:=fun _=>aC) (sp:=fun w Tb=>p8 (K w.params) Tb) hn (by decide) KA ⟨rfl,by decide,by decide⟩ hY EE GL F (fun _ _ a ns Tb hl hT hS=>⟨a,ns,rfl,hS,hl,hT,fun _=>rfl⟩) fun _ _ _ _ _ z=>z
end K61
local macro_rules | `(tactic| symm_saturate) => `(tactic| first | (refine' K61.mkT (by assumption) (by assumption) ?b ?a ?l ?c ?k; (case b => first | exact fun _ _ _ _ _ _ => K61.len_of1 (fun _ => rfl) | exact fun _ _ _ _ _ _ => K61.len_of2 (fun _ _ => rfl) | exact fun _ _ _ _ _ _ => K61.len_of3 (fun _ _ _ => rfl) | exact fun _ _ _ _ _ _ => K61.len_of4 (fun _ _ _ _ => rfl) | exact fun _ _ _ _ _ _ => K61.len_of5 (fun _ _ _ _ _ => rfl)); (case a => k_is); (case l => k_is); (case c => k_is); (case k => k_is)) | (refine' K61.mkM ?b ?a ?l ?c ?k ?i; (case b => first | exact fun _ _ _ _ _ _ => K61.len_of1 (fun _ => rfl) | exact fun _ _ _ _ _ _ => K61.len_of2 (fun _ _ => rfl) | exact fun _ _ _ _ _ _ => K61.len_of3 (fun _ _ _ => rfl) | exact fun _ _ _ _ _ _ => K61.len_of4 (fun _ _ _ _ => rfl) | exact fun _ _ _ _ _ _ => K61.len_of5 (fun _ _ _ _ _ => rfl)); (case a => k_is); (case l => k_is); (case c => k_is); (case k => k_is); (case i => k_is)))
structure PySem.W.Fast:Prop where
 (tw11537740941119206937 tw12260370488697654856 tw9398629738903490343 tw14775630834960149142 tw7786443503628470505 tw1707190460636613031 tw8088622449367646528 tw3140069803766108913 tw8198906209879981883 tw7724042246350176031 tw508328639422349812 tw14530697402512899703 tw9019709274671431982 tw7288601606101370826 tw9149019471383455375 tw4157052690608284578 tw14636185556173077163 tw16187046959951970667 tw2301144547810904560 tw16929383717403840103 tw16692581139831736092 tw836593841961486615 tw7336027584774687802 tw2757681891978179275 tw11239934432572377207 tw14239785144445858442 tw3536257162549452495 tw3309930656040393412 tw15058923036843550855 tw4161720653513756984 tw2409835711854309339 tw6410693933663385143 tw11064036755507090684 tw4982109150451649194 tw6221211555250782984 tw4776519173355240672 tw16325084845066928781 tw375683851264837906 tw8940400219911616749 tw8556251415961532210 tw2338470424371431749 tw7023723784100805271 tw13233570772431273501 tw15325941004621512802 tw5419354134445715447 tw17334757875397993426 tw643505548781670146 tw17058854144814945149 tw16258019343308704336 tw14896450274989259827 tw14461013013185798133 tw12776076906510871404 tw892037427253100137 tw17644629232176043679 tw3818825285353627179 tw4125395631773447445 tw9255192014352180359 tw7602727264216073307 tw2545167427777758832 tw5577033960561400306 tw12019698349042897182 tw7163850025135117353 tw5870208534754996324 tw9239368311792031237 tw7986264420185448455 tw16045434640942443231 tw10945165160966311435 tw7290217871040053480 tw15432151929838411932 tw458171401200841761 tw1589984412455382179 tw14536458149352528476 tw13649809081373984083 tw4038718778472672773 tw12299316273233329263 tw5391065465170259887 tw10152321005974481604 tw7923012782713272096 tw2302022117860618809 tw10200224207528991324 tw791696264083532074 tw12944512359799527127 tw11521281598287715227 tw2458773373102716843 tw6362214129802956479 tw18320711622938390312 tw9279428186522458593 tw588401789463436066 tw959635683261367085 tw1098682324555938511 tw5302515267047745222 tw4230356772794027038 tw1385711105834679674 tw4373899649701096537 tw1388574965253674881 tw13884378801143279983 tw9749732906905403789 tw7203259743370929416 tw11267418138740964241 tw8976729738543188253 tw5398809216897466248 tw5885538497850823695 tw8852154967411468525 tw5359776817379908427 tw13863074928208718705 tw5207105091015055563 tw14514552562055170709 tw2586623889366497704 tw15268913501906640892 tw12775267625637135302 tw14115139915404311908 tw10489552628927391109 tw17254824432523546451 tw4356948944002801735 tw14325200644313877501 tw2648553644117046824 tw18241348044213593542 tw2699651893395323480 tw611800219172799290 tw9576267685922356887 tw14638327129073929137 tw10606271893375967325 tw6465795522656652212 tw135648209079147563 tw13855189228540469286 tw13415064706371178794 tw1801982545938625913 tw2869979211735426342 tw5921272313709147331 tw794540446855664252 tw1535796167487681762 tw9710184819166274176 tw4571952393894832761 tw9329506990377048599 tw6207149364189923893 tw11716489540790627845 tw9542878192602867222 tw9771606746875095209 tw17101244653154928322 tw6305684920983328973 tw9276021159816901198 tw17700823278523409453 tw721805910492154799 tw2177555298845254157 tw7131491490576367566 tw11797479768549563672 tw16368048385761041824 tw5896355007798137202 tw17896614316477680582 tw9706055394011703 tw7838031023538395457 tw3381083371709787048 tw4535225690016372186 tw6053041584322829427 tw16796901082827161545 tw18193388731793916068 tw15857493512815895925 tw294300603009954112 tw14785763614350603948 tw12106097149149500634 tw12062451244233043685 tw757562749956810162 tw11034542384686404057 tw1994972219303657341 tw8176588078970260430 tw17034269911400178047 tw18154741838872147394 tw6616601679368774787 tw119567673898590934 tw3540953736401184500 tw13199758567055662893 tw15251086753007244724 tw14106543869309198586 tw326556911831020628 tw17141014981294058645 tw6018310981894667432 tw9694130924852784728 tw1530069044369286786 tw18267561682584864404 tw11268839818426250007 tw9236912031126597787 tw3123947005994482442 tw12835622927123196205 tw14007857188275466805 tw13183893296822738431 tw11858802426799565106 tw16739222773026059403 tw6291008533756619442 tw4150383358896535629 tw5809160921329039858 tw6977116411029637044 tw5153641573727563439 tw14167533796724056901 tw15137328116393581716 tw3548545222959918851 tw2727070533551119057 tw677459422076635741 tw7296699006931241737 tw4795383273026343186 tw1252824555967967474 tw103207447562928910 tw9219354072900343014 tw18193190363307245215 tw258002079292343466 tw17968730425877443679 tw1664017731745139858 tw12790707068150208234 tw16137870072258693015 tw1918642717869240946 tw923861244402916921 tw14995806157158132252 tw3199820970366360442 tw15809769546022901111 tw8961195266971025764 tw6389022738464975103 tw8487600536053063091 tw15955237663517906378 tw16235907294614383772 tw4459056227317931694 tw1923151610655816200 tw1711404513901612409 tw17260261682994188611 tw14140098630146675209 tw5814984238697162781 tw9187337242086017529 tw4252962218816041254 tw17080771691325406690 tw14972589189480237294 tw14712795200845192794 tw16472731597083171426 tw17389742137053885335 tw16629899363741866774 tw5437599005997669233 tw13486700463463536842 tw736815094249473366 tw9091119972026929653 tw5386792901645342390 tw9910950862375610977 tw165000471296175325 tw9603824627811418746 tw17018659505867852534 tw14610465966938787076 tw9405202239157866850 tw13635421358888829947 tw475335757750181643 tw9905455153196368376 tw6275760871717643911 tw12842232223212540784 tw7146627138538298088 tw18230436369398379575 tw15348379326314705816 tw18029418025328903663 tw13171678719474607730 tw10160806105017275947 tw18227758578721756442 tw9015627286655178301 tw2793813779795228858 tw15876646994096946411 tw5956760698003167700 tw8307940637189301463 tw5237756631904521314 tw15774707447024112171 tw12607264037663579721 tw980643915879472857 tw10497694895074138108 tw3514414010810906160 tw6644204189454012248 tw1059287287600000199 tw9324178660042544877 tw5074204130962611034 tw9195001743007215017 tw5856533474837383594 tw16544913602301917684 tw16261026068169671456 tw12428154682634638045 tw11749902584858272503 tw10070997879344072916 tw5286970410404134244 tw10305911920946637153 tw13585963553027180944 tw2178225666283811379 tw12634203382701231898 tw14384762447590420829 tw4585299717314380603 tw3095706213451170707 tw11457661964210382636 tw5639360088473560874 tw12291338506528914778 tw16458669888864689093 tw4818722154478101549 tw14068342205652820952 tw9766849581152197676 tw5481813353228487068 tw12713704082342707715 tw1503939617483734483 tw11394455663381612461 tw8699864948916645291 tw17631020535358545368 tw1543753653027421371 tw7267348778496726555 tw4968693667534024450 tw2897417723935827635 tw16925698718328287963 tw6277388754443264243 tw544720602673620045 tw16928265819468131009 tw11777618281176090957 tw697072989042482917 tw17111974512860551676 tw6927304507788795099 tw631583176383693069 tw2740527596268488904 tw169172972553065080 tw4307432757796878712 tw15428119272622020163 tw6672110901033545312 tw4779612855381596077 tw5054903499540051550 tw9547656923928113227 tw2019781576097123595 tw4895512602811749750 tw4810328135029663898 tw14366201817832627665 tw10258537997634957103 tw16127564898904482529 tw11417018832534977601 tw3953141113831688038 tw3256757637897458293 tw8522425853722683711 tw3883028270168039654 tw3867795999864795032 tw4937081340908896409 tw14256526777066007268 tw3606238758690319909 tw9415493407011391189 tw15551399675947735392 tw2444133044566294671 tw18262531916129809667 tw15795700472514668993 tw4948288969044911156 tw13563437078034133256 tw8423666346084584976 tw653301613539953637 tw2024314100569897242 tw10388648014592114254 tw10309435794141392558 tw8128762847151715972 tw6408398636236222255 tw4271101201016361963 tw17882470138242602605 tw15972857618809237601 tw13810770708154887808 tw7709094026782757531 tw1938318347276256305 tw18024605651032635636 tw16295612881821330310 tw13402071005105224386 tw17013790214344583423 tw3918565918593415518 tw6671282398765450311 tw14533006295684956791 tw10248994503847482545 tw5776001437833331617 tw13351817451399673441 tw2709135706225318890 tw2116781945818144543 tw15944878724751113403 tw11601500546153315313 tw3553807063337924631 tw4314425455585219103 tw8870000265227759392 tw12625380341206335339 tw8604413056303085460 tw7480672520027322792 tw12885063585992681465 tw1960668326853669874 tw6829959175286904647 tw6779823118655259051 tw16920609430477048692 tw16669073623630634690 tw1406866126870030596 tw17234236787318587746 tw8665046425110917924 tw14867202424791759965 tw12909643986197284972 tw15347038207540485641 tw3590997360953488952 tw4484532944366912028 tw9855052101566308096 tw6192398894631424398 tw13889049945280891720 tw5927106061064986433 tw4134735696530938899 tw4459765195792490811 tw17216290743160929714 tw11553702443637137182 tw2116803730739961321 tw13614309366510399119 tw10105662153539042880 tw17044024403447630556 tw10081418569288501450 tw3160746493957370345 tw5794620486276493515 tw4371850618394098595 tw3944574721693545622 tw10895186625442099778 tw16617407783230212354 tw8370118596667531876 tw736084812570647902 tw8335403402989801823 tw10096992012382031910 tw8423196466438096220 tw4488777789596014772 tw219624665625937996 tw14502977559116073822 tw266817977074802245 tw9791454906960886861 tw2714622459971604400 tw269166896186102171 tw14388474822173162189 tw13126242497341172170 tw11758643790083276348 tw4200962787738351926 tw5639438494606264782 tw16257672135320208696 tw3117104983056732202 tw15096670661489411573 tw9239630332032416169 tw8901738828901520854 tw7704063140451577909 tw16138963529261507953 tw15606613899387275806 tw14277144724750353436 tw7294110752282890084 tw16610492879328660200 tw5469888227152776214 tw4215820448946121185 tw17337286568256592956 tw5443563452500645436 tw11782081339400233006 tw5129603962485817588 tw15903054936090904460 tw17946743902136524598 tw522624141579350514 tw1848073859834680286 tw12449227258258364600 tw8329981493954118682 tw16745172940729785270 tw12830118595457642349 tw1944347410199577591 tw6769384400738438554 tw9173368780380401313 tw5143479490546598363 tw15737699546131305678 tw12867621354761889465 tw10661478526794692567 tw10205054925701611828 tw11833504810105886464 tw2243834604362276907 tw4925932430561303347 tw116412296345750705 tw14345716137566753 tw4857226289419259607 tw7812152902008018227 tw17172307208147638702 tw765230095931490986 tw2269184857631936864 tw18161834255038645622 tw12375970965114412964 tw12071315954664228626 tw10784761741783586717 tw14312344710113201318 tw8649722966576919841 tw288694725953248371 tw15772491626847485056 tw12075663290754881559 tw9711690594419142442 tw2903320977018127410 tw8807262451844445568 tw8275984435054324711 tw5180826348438147401 tw4981766518219154451 tw3795801362853615797 tw18043298530334436319 tw15951305203601179051 tw14167671350315128107 tw13991175246770150707 tw12854123279325180089 tw10461783134697486970 tw3331442041377378440 tw2531325252150750581 tw2304468657691098516 tw15133420114286349143 tw9956763625003163470 tw17326832864539239901 tw6888119748271935256 tw6402590749824424511 tw490068922555718315 tw3860196891115201255 tw2915880120913446912 tw11701744872142682237 tw8622750182019855654 tw5494161620605393063 tw3464149903648656545 tw17829027205366455044 tw15009591852480683258 tw12926702986974324773 tw11645102463676867678 tw9471066905874643935 tw829598281941178141 tw6616252336011762217 tw6179302788116343166 tw17001856954825559572 tw12210401515410764957 tw10602930971517478339 tw11470833385815274646 tw14090133288837872524 tw6495428883314694982 tw2328294204229711769 tw15609678538466190649 tw340200751177269178 tw7747247177796846639 tw6817264746113373160 tw6247506817373026892 tw4610829298533171208 tw3034204904629979435 tw1812721124628048522 tw18007162078766486598 tw17402169442320823173 tw12007434778615743074 tw10957772692496493569 tw10648136458121016243 tw12138710625094932228 tw7996736701691136194 tw8910006002898755877 tw8741651026986208013 tw5197366885269750165 tw3726988847021833304 tw3018762928221695665 tw2557081045694693731 tw2112550504652909158 tw18190879346127839387 tw17550205323010809315 tw17372841298706606177 tw17131436870961605339 tw16242924750143935813 tw1588726524478932360 tw15724700662152981509 tw15249822619167000202 tw12828634359000365427 tw12718515583179018268 tw12206167984053878763 tw12165714251834187105 tw11589360471804345552 tw10170920541620692988 tw9882607173029598684 tw9768111465053738891 tw892897106067354171 tw8689015917894736384 tw8569601410563712290 tw8560897580499502568 tw8109968289523716690 tw5469619778445711593 tw4247038265024879611 tw4027579383928594692 tw3573758822536022197 tw309638312392691720 tw18139846314649815499 tw14578608495362026452 tw12783826870253942856 tw12068496841943868472 tw11915977393410543354 tw1118677734711833523 tw10418488605218786465 tw18377584311321241247 tw9036374069673680183 tw16225436928190274521 tw8208995026417588255 tw8063720932082324006 tw6603581954322899315 tw6299982462997465336 tw5597620897093680686 tw446208044006567789 tw3187062390187386328 tw3051126095558216367 tw2659242503041918733 tw18382920674788060579 tw17541927064236295140 tw15539881148339624611 tw12278749220219473698 tw9843410348778966538 tw8844782777053430825 tw8236919708455091079 tw6664719992969559755 tw5415071108120399407 tw4066578383766311002 tw2360661922047862775 tw17581388560760843842 tw17509432695385192420 tw17169148461287540316 tw15854834593503890537 tw15771706964560850288 tw15756405937663902850 tw15080593475285061966 tw14792694649406757893 tw14163236842022670026 tw13496405865024832422 tw13145645149620498494 tw12211357759036270103 tw1738046933119485807 tw16427668696074468010 tw9864731935221596817 tw9755899660894263508 tw9738803081307103573 tw9726825220041856776 tw9674562809805217108 tw9573179562250878498 tw9514541993363266413 tw9425248248692614835 tw9306032029474944374 tw9206007543184486774 tw9103733294958792643 tw8959730650242272483 tw8919789551851061596 tw886003239065575313 tw8852363271025585780 tw8779715839425851670 tw867415935883022679 tw8324132980856813724 tw7988627117698941795 tw7874342074272290194 tw7788555836461463339 tw7788398293437456939 tw7748575685229272190 tw7673438994073895253 tw7547580309762926574 tw7449718508349750665 tw7432592762538327645 tw7335456079279453020 tw7297019735031244982 tw711458952236329277 tw7028107894379172902 tw6960353157612597324 tw6852277848594385 tw6819607295867732252 tw6815469078122198213 tw6814119011977251478 tw67851259997185324 tw677827216161392793 tw6594009384143159168 tw6587282171882122622 tw6423993091929799006 tw6391521727065548575 tw6358100719178334676 tw6048355726248538784 tw6021668893768930162 tw598228601957671108 tw5921209050055552910 tw563915143881812170 tw5609656729211007892 tw554132780080595863 tw5328770290393689676 tw5268823676024214635 tw5116097647640859910 tw503213957019004388 tw4989184789652224565 tw4944516465394676556 tw4658071563967663926 tw4619898198301970001 tw4546637974571395925 tw4536851830663321365 tw4528339286262834692 tw4323917974951860427 tw4295690514835137315 tw4093634832690279905 tw3970751416236884619 tw3970104867295443631 tw3899064765720626001 tw3897689169050271878 tw3669414138799249049 tw3667585918433884043 tw3663891448288958406 tw3636039422813023865 tw3370937882199579288 tw3273869433933700969 tw3169413712015229339 tw3168931467950748528 tw3145316111347598537 tw3112139355265850819 tw2951107204678493216 tw2818885678722721148 tw2714105479095339987 tw2688827727557408347 tw2635023363975343878 tw2333466827951811000 tw2253858775043437029 tw2056931776483403050 tw2023006878225152137 tw2014900304616743919 tw1986492990163141505 tw18422991038469012473 tw18286690128268556758 tw18231255660133747369 tw18195280307858756103 tw18136495354707120838 tw18060479039726372917 tw1805029878371758 tw18044560772151754176 tw18010533269385304998 tw17726947975505829823 tw17582781091549445672 tw17570325570798533117 tw17562686745665030720 tw17537194370287462200 tw17534213034433758673 tw17471630555750849156 tw17457039504429647531 tw17445089939957330717 tw17425577138567063713 tw17339381453846421065 tw17213295348300691807 tw17128874996973305677 tw16959357305618959179 tw16958865304633847849 tw16946078362983051615 tw16937645516223947902 tw16934993362635237318 tw16924297635710503010 tw16912530527150343699 tw16715143446141383060 tw16702312716196463094 tw16568693202407776486 tw16510768024154982422 tw16506002977727216400 tw1644093289577786084 tw16301846486775275586 tw16279049996536912975 tw16130554593164290625 tw16129182182388492613 tw16127292135372812061 tw1606767132693070651 tw16004386060255429767 tw15878622014838667339 tw15856784916615040061 tw15806179770182503475 tw15728656027333040958 tw15518053981118535702 tw15440216505368676773 tw15386798358204821838 tw15370494282001855420 tw15347693303361177264 tw15319856200023588440 tw14946587010817128765 tw14940212430645944528 tw14908163580159038966 tw14572650195005156882 tw1448760811619774731 tw14479100022915519564 tw14274562630340929127 tw14253180851564750816 tw14215190985523571810 tw14135159044114755621 tw14100494532803965720 tw14090208959772992506 tw14054599633181564516 tw13685501950518150990 tw13661903223535893970 tw13566230902761738272 tw13502406815291930198 tw13474124474028617223 tw13341239231769159507 tw13190407782035140131 tw13176801816037375720 tw13080377520320468028 tw1293016935917902351 tw12858019052030786229 tw12709823738398957347 tw12585796585284522404 tw12570669115516781878 tw12565805829921366289 tw12523140891813503893 tw12220144823092137261 tw11945582093084995354 tw11781063658206633422 tw11671416453346786475 tw11584517123486920292 tw11525910304076274512 tw11436071365839270838 tw11419491387094702036 tw11325112659173006325 tw11261126737606178678 tw10988965597705482897 tw10953482647601097920 tw10924016367916708375 tw10840579538986873414 tw10800246197117252233 tw10450211753138285160 tw10370465258763404735 tw1033778431752696153 tw10154474639600066032 tw10063604913882732523:True)
open PySem PySem.W PyProof.Rows
set_option maxRecDepth 100000 in
set_option maxHeartbeats 0 in
theorem PySem.Challenge.cw_wormyard_k61_runs_holds : PySem.Challenge.rw_wormyard_k61_runs.Holds := by
 w_on;o_law;k_head; (case hw=>w_witness2)
 k_fill
 refine K61.walk (l:=PySem.Challenge.rw_wormyard_k61_runs) rfl rfl (fun w h Y=>PySem.W.km_in_of Y) rfl (fun _=>by kernel_rfl) ?F
 case F =>
  intro w mg fa h KX G hmg
  refine' K61.all_mk KX G hmg ?gcL ?gcN ?gcT ?gcR ?gcE ?gcB ?gcD ?gcO ?gcM ?gcP ?gcG ?gcW ?gcZ ?gcF ?gcQ ?gcA ?gcH ?gcJ ?h1 ?h2 ?h3 ?h4 ?h5 ?h6 ?h7 ?h8 ?h9 ?h10 ?h11 ?h12 ?h13 ?h14 ?h15 ?h16 ?h17 ?h18 ?h19 ?h20 ?h21 ?h22 ?h23 ?h24 ?h25 ?a26 ?l26 ?c26 ?k26 ?h27 ?h28 ?h29 ?h30 ?h31 ?h32 ?h33 ?h34 ?h35 ?h36 ?h37 ?h38 ?h39 ?h40 ?h41 ?h42 ?h43 ?h44 ?h45 ?h46 ?h47 ?h48 ?h49 ?h50 ?a51 ?l51 ?d51 ?c51 ?k51 ?i51 ?a52 ?l52 ?d52 ?c52 ?k52 ?i52 ?h53 ?h54 ?h55 ?h56 ?h57 ?h58 ?h59 ?h60 ?h61 ?h62 ?h63 ?h64 ?h65 ?h66 ?h67 ?h68 ?h69 ?h70 ?h71 ?h72 ?mp ?ml ?mr ?mh ?mk ?p1cL ?p2cL ?p3cL ?p4cL ?p5cL ?p6cL ?ncLplaces ?ncLlanes ?p1cB ?p2cB ?p3cB ?p4cB ?p5cB ?p6cB ?ncBland ?p1cD ?p2cD ?p3cD ?p4cD ?p5cD ?p6cD ?ncDland ?ncDentries ?p1cO ?p2cO ?p3cO ?p4cO ?p5cO ?p6cO ?ncOland ?ncOentries ?p1cA ?p2cA ?p3cA ?p4cA ?p5cA ?p6cA ?ncArights ?ncAreturning ?ncAholder ?ncApieces ?p1cH ?p2cH ?p3cH ?p4cH ?p5cH ?p6cH ?ncHstart ?ncHgoal ?ncHlength ?ncHword ?ncHgone ?ncHway ?p1cJ ?p2cJ ?p3cJ ?p4cJ ?p5cJ ?p6cJ ?ncJtable ?ncJrooms ?ncJlanes ?ncJletters ?ncJlies ?ncJdone ?x1cN ?x2cN ?x1cT ?x2cT ?x3cT ?x4cT ?x5cT ?x6cT ?x7cT ?ncTmany ?x1cR ?x2cR ?x3cR ?x4cR ?x5cR ?x6cR ?x7cR ?ncRlane ?x1cE ?x2cE ?x3cE ?x4cE ?x5cE ?x6cE ?x7cE ?ncErow ?x1cM ?x2cM ?x1cP ?x2cP ?x1cG ?x2cG ?x1cW ?x2cW ?x1cZ ?x2cZ ?x3cZ ?x4cZ ?x5cZ ?x6cZ ?x7cZ ?ncZstart ?ncZgoal ?x1cF ?x2cF ?x1cQ ?x2cQ ?w1cB ?w2cB ?w3cB ?kk1 ?kk2 ?kk3 ?kk4 ?kk5 ?kk6 ?kk7 ?kk8 ?kk9 ?eQ ?z0 ?z1 ?z2 ?z3 ?z4 ?z5 ?z6 ?z7 ?z8 ?z9 ?z10 ?z11 ?hc0 ?lc0 ?hv0
  (case gcL=>k_is)
  (case gcN=>k_is)
  (case gcT=>k_is)
  (case gcR=>k_is)
  (case gcE=>k_is)
  (case gcB=>k_is)
  (case gcD=>k_is)
  (case gcO=>k_is)
  (case gcM=>k_is)
  (case gcP=>k_is)
  (case gcG=>k_is)
  (case gcW=>k_is)
  (case gcZ=>k_is)
  (case gcF=>k_is)
  (case gcQ=>k_is)
  (case gcA=>k_is)
  (case gcH=>k_is)
  (case gcJ=>k_is)
  (case h1=>symm_saturate)
  (case h2=>symm_saturate)
  (case h3=>symm_saturate)
  (case h4=>symm_saturate)
  (case h5=>symm_saturate)
  (case h6=>symm_saturate)
  (case h7=>symm_saturate)
  (case h8=>symm_saturate)
  (case h9=>symm_saturate)
  (case h10=>symm_saturate)
  (case h11=>symm_saturate)
  (case h12=>symm_saturate)
  (case h13=>symm_saturate)
  (case h14=>symm_saturate)
  (case h15=>symm_saturate)
  (case h16=>symm_saturate)
  (case h17=>symm_saturate)
  (case h18=>symm_saturate)
  (case h19=>symm_saturate)
  (case h20=>symm_saturate)
  (case h21=>symm_saturate)
  (case h22=>symm_saturate)
  (case h23=>symm_saturate)
  (case h24=>symm_saturate)
  (case h25=>symm_saturate)
  (case a26=>k_is)
  (case l26=>k_is)
  (case c26=>k_is)
  (case k26=>k_is)
  (case h27=>symm_saturate)
  (case h28=>symm_saturate)
  (case h29=>symm_saturate)
  (case h30=>symm_saturate)
  (case h31=>symm_saturate)
  (case h32=>symm_saturate)
  (case h33=>symm_saturate)
  (case h34=>symm_saturate)
  (case h35=>symm_saturate)
  (case h36=>symm_saturate)
  (case h37=>symm_saturate)
  (case h38=>symm_saturate)
  (case h39=>symm_saturate)
  (case h40=>symm_saturate)
  (case h41=>symm_saturate)
  (case h42=>symm_saturate)
  (case h43=>symm_saturate)
  (case h44=>symm_saturate)
  (case h45=>symm_saturate)
  (case h46=>symm_saturate)
  (case h47=>symm_saturate)
  (case h48=>symm_saturate)
  (case h49=>symm_saturate)
  (case h50=>symm_saturate)
  (case a51=>k_is)
  (case l51=>k_is)
  (case d51=>k_is)
  (case c51=>k_is)
  (case k51=>k_is)
  (case i51=>k_is)
  (case a52=>k_is)
  (case l52=>k_is)
  (case d52=>k_is)
  (case c52=>k_is)
  (case k52=>k_is)
  (case i52=>k_is)
  (case h53=>symm_saturate)
  (case h54=>symm_saturate)
  (case h55=>symm_saturate)
  (case h56=>symm_saturate)
  (case h57=>symm_saturate)
  (case h58=>symm_saturate)
  (case h59=>symm_saturate)
  (case h60=>symm_saturate)
  (case h61=>symm_saturate)
  (case h62=>symm_saturate)
  (case h63=>symm_saturate)
  (case h64=>symm_saturate)
  (case h65=>symm_saturate)
  (case h66=>symm_saturate)
  (case h67=>symm_saturate)
  (case h68=>symm_saturate)
  (case h69=>symm_saturate)
  (case h70=>symm_saturate)
  (case h71=>symm_saturate)
  (case h72=>symm_saturate)
  (case mp=>k_is)
  (case ml=>k_is)
  (case mr=>k_is)
  (case mh=>k_is)
  (case mk=>k_is)
  (case p1cL=>k_is)
  (case p2cL=>k_is)
  (case p3cL=>k_is)
  (case p4cL=>k_is)
  (case p5cL=>k_is)
  (case p6cL=>k_is)
  (case ncLplaces=>k_is)
  (case ncLlanes=>k_is)
  (case p1cB=>k_is)
  (case p2cB=>k_is)
  (case p3cB=>k_is)
  (case p4cB=>k_is)
  (case p5cB=>k_is)
  (case p6cB=>k_is)
  (case ncBland=>k_is)
  (case p1cD=>k_is)
  (case p2cD=>k_is)
  (case p3cD=>k_is)
  (case p4cD=>k_is)
  (case p5cD=>k_is)
  (case p6cD=>k_is)
  (case ncDland=>k_is)
  (case ncDentries=>k_is)
  (case p1cO=>k_is)
  (case p2cO=>k_is)
  (case p3cO=>k_is)
  (case p4cO=>k_is)
  (case p5cO=>k_is)
  (case p6cO=>k_is)
  (case ncOland=>k_is)
  (case ncOentries=>k_is)
  (case p1cA=>k_is)
  (case p2cA=>k_is)
  (case p3cA=>k_is)
  (case p4cA=>k_is)
  (case p5cA=>k_is)
  (case p6cA=>k_is)
  (case ncArights=>k_is)
  (case ncAreturning=>k_is)
  (case ncAholder=>k_is)
  (case ncApieces=>k_is)
  (case p1cH=>k_is)
  (case p2cH=>k_is)
  (case p3cH=>k_is)
  (case p4cH=>k_is)
  (case p5cH=>k_is)
  (case p6cH=>k_is)
  (case ncHstart=>k_is)
  (case ncHgoal=>k_is)
  (case ncHlength=>k_is)
  (case ncHword=>k_is)
  (case ncHgone=>k_is)
  (case ncHway=>k_is)
  (case p1cJ=>k_is)
  (case p2cJ=>k_is)
  (case p3cJ=>k_is)
  (case p4cJ=>k_is)
  (case p5cJ=>k_is)
  (case p6cJ=>k_is)
  (case ncJtable=>k_is)
  (case ncJrooms=>k_is)
  (case ncJlanes=>k_is)
  (case ncJletters=>k_is)
  (case ncJlies=>k_is)
  (case ncJdone=>k_is)
  (case x1cN=>kernel_rfl)
  (case x2cN=>k_is)
  (case x1cT=>kernel_rfl)
  (case x2cT=>k_is)
  (case x3cT=>kernel_rfl)
  (case x4cT=>k_is)
  (case x5cT=>k_is)
  (case x6cT=>k_is)
  (case x7cT=>k_is)
  (case ncTmany=>k_is)
  (case x1cR=>kernel_rfl)
  (case x2cR=>k_is)
  (case x3cR=>kernel_rfl)
  (case x4cR=>k_is)
  (case x5cR=>k_is)
  (case x6cR=>k_is)
  (case x7cR=>k_is)
  (case ncRlane=>k_is)
  (case x1cE=>kernel_rfl)
  (case x2cE=>k_is)
  (case x3cE=>kernel_rfl)
  (case x4cE=>k_is)
  (case x5cE=>k_is)
  (case x6cE=>k_is)
  (case x7cE=>k_is)
  (case ncErow=>k_is)
  (case x1cM=>kernel_rfl)
  (case x2cM=>k_is)
  (case x1cP=>kernel_rfl)
  (case x2cP=>k_is)
  (case x1cG=>kernel_rfl)
  (case x2cG=>k_is)
  (case x1cW=>kernel_rfl)
  (case x2cW=>k_is)
  (case x1cZ=>kernel_rfl)
  (case x2cZ=>k_is)
  (case x3cZ=>kernel_rfl)
  (case x4cZ=>k_is)
  (case x5cZ=>k_is)
  (case x6cZ=>k_is)
  (case x7cZ=>k_is)
  (case ncZstart=>k_is)
  (case ncZgoal=>k_is)
  (case x1cF=>kernel_rfl)
  (case x2cF=>k_is)
  (case x1cQ=>kernel_rfl)
  (case x2cQ=>k_is)
  (case w1cB=>first | k_is | kernel_rfl)
  (case w2cB=>first | k_is | kernel_rfl)
  (case w3cB=>first | k_is | kernel_rfl)
  (case kk1=>kit_is)
  (case kk2=>kit_is)
  (case kk3=>kit_is)
  (case kk4=>kit_is)
  (case kk5=>kit_is)
  (case kk6=>kit_is)
  (case kk7=>kit_is)
  (case kk8=>kit_is)
  (case kk9=>kit_is)
  (case eQ=>kts_exm)
  (case z0=>k_is)
  (case z1=>k_is)
  (case z2=>k_is)
  (case z3=>k_is)
  (case z4=>k_is)
  (case z5=>k_is)
  (case z6=>k_is)
  (case z7=>k_is)
  (case z8=>k_is)
  (case z9=>k_is)
  (case z10=>k_is)
  (case z11=>k_is)
  (case hc0=>exact rfl)
  (case lc0=>k_is)
  (case hv0=>exact rfl)
