import PyProof.Rows.All
import Wide.All
import OpenK.AllK
import Wide.FinOn
import Lean
import PyProof.EqAt
import PyProof.EqKinds
import PyProof.TupleCall
import PyProof.ExcBaseAll.ValueError
import PyProof.EnumMake
import PyProof.Rows.EnumRows
import PyProof.TupleIter
import PyProof.DictValues
import PyProof.CollectStr
import PySem.Builtin.Int.W1All
import PyProof.DictRoadsH
import PyProof.DictKinds
import PyProof.FactsAll.NoneType
import KE.KRevIter
import PyProof.FactsAll.list_3
import KE.KDictList
import PyProof.DictIter
import PyProof.DictWalks
import PyProof.ListRange
import PyProof.Rows.SumAny
import PyProof.Rows.SeqCalls
import PyProof.P3In
import PySem.Challenge.RW_wormyard_k92_whole_in_order
set_option Elab.async false
set_option linter.all false
set_option maxRecDepth 100000
set_option maxHeartbeats 4000000
open PySem.W (Frag keepIn findIn fnOf codeIn nsIn mg_of isFn kitOne hasDictIn mg_none_of plainGet plainOver makesIn)
open List (all_cons all_eq_true all_map any_cons append_assoc append_nil contains_cons drop_of_length_le eq_of_mem_replicate filterMap_cons filter_append filter_congr filter_cons_of_neg filter_cons_of_pos flatten_cons getD_eq_getElem?_getD getElem_mem length_append length_cons length_drop length_filter_le length_map length_nil length_pos_iff length_range length_replicate length_set length_singleton length_take length_take_le lookup_cons map_append map_cons map_map map_nil map_take mem_append mem_append_left mem_append_right mem_cons mem_cons_of_mem mem_cons_self mem_filter mem_flatMap mem_map mem_of_getElem? mem_of_head? mem_of_mem_take mem_range mem_reverse mem_singleton nil_append nodup_append nodup_cons nodup_nil not_mem_nil of_mem_zip pairwise_cons pairwise_iff_getElem pairwise_lt_range range_succ replicate_succ size_toArray sum_cons take_length take_of_length_le take_succ)
open Nat (le_of_eq le_of_lt le_succ le_trans lt_irrefl lt_of_le_of_lt lt_of_lt_of_le lt_or_ge lt_succ_self lt_trans min_eq_left min_eq_right ne_of_gt ne_of_lt not_lt_zero pow_le_pow_right testBit_lt_two_pow zero_le)
open Int (emod_lt_of_pos emod_nonneg toNat_natCast zero_add)
open PySem.F (args_tuple_add_2 entry_dict_get entry_tuple_add plainAttrs_list slot_dict_get slot_list_extend slot_tuple_add type_list_extend)
open PySem.Heap (lt_size size_push)
noncomputable section
namespace L2
open PySem PySem.Spec PyProof.Rows
abbrev cb:=Sum Int Str
noncomputable def jr:cb->Value->Bool
 | .inl k,v=>Value.isInt k v
 | .inr x,v=>Value.isStrOf x v
noncomputable def Oo (w:World):cb->Int
 | .inl k=>hashInt k
 | .inr x=>hashStr w x
theorem bq:∀ {k:cb}{v:Value},jr k v=true->(∃ i t,k=Sum.inl i/\v=Value.int i t)∨(∃ x t,k=Sum.inr x/\v=Value.str x t)
 | .inl i,v,h=>by
  obtain⟨t,e⟩:=Value.isInt_shape (k:=i) (v:=v) h
  exact .inl ⟨i,t,rfl,e⟩
 | .inr x,v,h=>by
  obtain⟨t,e⟩:=Value.isStrOf_shape (x:=x) (v:=v) h
  exact .inr ⟨x,t,rfl,e⟩
theorem qD (i:Int)(t:Tok):jr (.inl i) (.int i t)=true:=by simp[jr,Value.isInt]
theorem qC (x:Str)(t:Tok):jr (.inr x) (.str x t)=true:=by simp[jr,Value.isStrOf]
theorem y8 (a b:Int):decide ((Sum.inl a:cb)=Sum.inl b)=(a == b):=by
 by_cases e:a=b
 ·subst e;simp
 ·have h:¬ (Sum.inl a:cb)=Sum.inl b:=fun q=>e (Sum.inl.inj q)
  rw[decide_eq_false h]
  exact(beq_eq_false_iff_ne.mpr e).symm
theorem yz (a b:Str):decide ((Sum.inr a:cb)=Sum.inr b)=decide (a=b):=by
 by_cases e:a=b
 ·subst e;simp
 ·have h:¬ (Sum.inr a:cb)=Sum.inr b:=fun q=>e (Sum.inr.inj q)
  rw[decide_eq_false h,decide_eq_false e]
theorem y6 (a:Int)(b:Str):decide ((Sum.inl a:cb)=Sum.inr b)=false:=decide_eq_false (fun q=>nomatch q)
theorem y3 (a:Str)(b:Int):decide ((Sum.inr a:cb)=Sum.inl b)=false:=decide_eq_false (fun q=>nomatch q)
noncomputable def aT (prog:Program)(w:World):PySem.KeyKind prog w cb where
 is:=jr
 hash:=Oo w
 inj:=fun v a b ha hb=>by
  rcases bq ha with ⟨i,t,rfl,rfl⟩ | ⟨x,t,rfl,rfl⟩
  ·rcases bq hb with ⟨j,u,rfl,e⟩ | ⟨y,u,rfl,e⟩
   ·injection e with e1 _;rw[e1]
   ·exact nomatch e
  ·rcases bq hb with ⟨j,u,rfl,e⟩ | ⟨y,u,rfl,e⟩
   ·exact nomatch e
   ·injection e with e1 _;rw[e1]
 byValue:=fun k v h=>by
  rcases bq h with ⟨i,t,rfl,rfl⟩ | ⟨x,t,rfl,rfl⟩<;>rfl
 pyHash:=fun hv h=>by
  rcases bq hv with ⟨i,t,rfl,rfl⟩ | ⟨x,t,rfl,rfl⟩
  ·exact wpAny_pyHash_int h
  ·exact wpAny_pyHash_str h
 eqBool:=fun hu hv h=>by
  rcases bq hu with ⟨i,t,rfl,rfl⟩ | ⟨x,t,rfl,rfl⟩
  ·rcases bq hv with ⟨j,u,rfl,rfl⟩ | ⟨y,u,rfl,rfl⟩
   ·rw[y8]at h;exact wpAny_eqBool_int h
   ·rw[y6]at h;exact SeqAt.EqAt.int_str i t y u _ _ _ _ h
  ·rcases bq hv with ⟨j,u,rfl,rfl⟩ | ⟨y,u,rfl,rfl⟩
   ·rw[y3]at h;exact SeqAt.EqAt.str_int x t j u _ _ _ _ h
   ·rw[yz]at h;exact wpAny_eqBool_str h
 «strs»:=fun k x t v h=>by
  rcases bq h with ⟨i,u,rfl,e⟩ | ⟨y,u,rfl,e⟩
  ·exact nomatch e
  ·injection e with e1 _
   subst e1
   cases v<;>rfl
theorem lZ (prog:Program)(w:World)(i:Int)(t:Tok):(aT prog w).is (.inl i) (.int i t)=true:=qD i t
theorem lY (prog:Program)(w:World)(x:Str)(t:Tok):(aT prog w).is (.inr x) (.str x t)=true:=qC x t
end L2
namespace L2
open PySem PySem.Spec PyProof.Rows
inductive V where
 | zt | bl (b:Bool) | int (i:Int) | str (x:Str) | CL (b:Array UInt8) | Gu (b:UInt64) | ref (a:Addr) | ty (n:String)
 deriving DecidableEq
noncomputable def RelV:V->Value->Prop
 | .zt,u=>u=Value.none
 | .bl b,u=>u=Value.bool b
 | .int i,u=>∃ t,u=Value.int i t
 | .str x,u=>∃ t,u=Value.str x t
 | .CL b,u=>∃ t,u=Value.bytes b t
 | .Gu b,u=>∃ t,u=Value.float b t
 | .ref a,u=>u=Value.ref a
 | .ty n,u=>u=Value.type n
abbrev Vals:List V->List Value->Prop:=Paired RelV
theorem Vals.length {xs:List V}{us:List Value}(r:Vals xs us):xs.length=us.length:=Paired.length r
theorem Vals.get:∀ {xs:List V}{us:List Value}{i:Nat}{x:V},Vals xs us->xs[i]? = some x->∃ u,us[i]? = some u/\RelV x u
 | _,_,_,_, .nil,e=>by simp at e
 | _,_,0,_, .cons r _,e=>by simp at e;subst e;exact⟨_,rfl,r⟩
 | _,_,i + 1,x, .cons _ t,e=>by
  obtain⟨u,h1,h2⟩:=Vals.get (i:=i) (x:=x) t (by simpa using e)
  exact⟨u,by simpa using h1,h2⟩
theorem Vals.set {x:V}{u:Value}(r:RelV x u):∀ {xs:List V}{us:List Value}(i:Nat),Vals xs us->Vals (xs.set i x) (us.set i u)
 | _,_,_, .nil => .nil
 | _,_,0, .cons _ t => .cons r t
 | _,_,i + 1, .cons q t => .cons q (Vals.set r i t)
theorem Vals.append:∀ {xs ys:List V}{us ws:List Value},Vals xs us->Vals ys ws->Vals (xs ++ ys) (us ++ ws)
 | _,_,_,_, .nil,s=>s
 | _,_,_,_, .cons r t,s => .cons r (Vals.append t s)
theorem Vals.take:∀ {xs:List V}{us:List Value}(n:Nat),Vals xs us->Vals (xs.take n) (us.take n)
 | _,_,0,_ => .nil
 | _,_,_ + 1, .nil => .nil
 | _,_,n + 1, .cons r t => .cons r (Vals.take n t)
theorem Vals.drop:∀ {xs:List V}{us:List Value}(n:Nat),Vals xs us->Vals (xs.drop n) (us.drop n)
 | _,_,0,r=>r
 | _,_,_ + 1, .nil => .nil
 | _,_,n + 1, .cons _ t=>Vals.drop n t
noncomputable def zV:Option V->Option Value->Prop
 | some v,some u=>RelV v u
 | none,none=>True
 | _,_=>False
noncomputable def KV {κ:Type}:List (κ × V)->List (κ × Value)->Prop:=Paired fun (p:κ × V)(q:κ × Value)=>p.1=q.1/\RelV p.2 q.2
noncomputable def kV:cb->V
 | .inl i => .int i
 | .inr x => .str x
inductive HO where
  | lst (xs:List V)
  | tup (xs:List V)
  | dK (kvs:List (cb × V)) | dT (kvs:List (List cb × V))
  | set (S:Int->Bool) (n:Nat)
  | ins (C dx:Addr) (fs:List (Str × V))
  | own (x:Addr)
  | xd (fs:List (Str × V))
  | met (f x:Addr)
  | MK (lo hi:Int)
  | AZ (o:Obj) (u:HO)
  | Fe (ps:Array Value)
  | ext (φ:Heap->Prop)
abbrev Hp:=Addr->Option HO
noncomputable def upd (H:Hp)(a:Addr)(o:HO):Hp:=fun b=>if b=a then some o else H b
theorem ac {H:Hp}{a:Addr}{o:HO}:upd H a o a=some o:=by unfold upd;rw[if_pos rfl]
theorem ae {H:Hp}{a b:Addr}{o:HO}(h:b ≠ a):upd H a o b=H b:=by unfold upd;rw[if_neg h]
theorem aY {H:Hp}{a b:Addr}{o u:HO}(h:H a=some o)(h':H b=some u)(d:o ≠ u):a ≠ b:=by
 intro e;subst e;rw[h]at h';exact d (Option.some.inj h')
theorem ah {H:Hp}{a b:Addr}{o:HO}(h:H a=some o)(h':H b=none):a ≠ b:=by
 intro e;subst e;rw[h]at h';cases h'
noncomputable def Ae (h:Heap)(a:Addr)(items:Array Value):Prop:=∃ o,h.get? a=some o/\(o.cls = .type "tuple"/\∃ n,o.data = .seq items n)/\o.dict=none
theorem Ae.isTup {h:Heap}{a:Addr}{items:Array Value}:Ae h a items->IsTup h a items:=fun⟨o,e,c,_⟩=>⟨o,e,c⟩
theorem Ae.new (h:Heap)(items:Array Value):Ae (h.push { cls := .type "tuple",data := .seq items }) h.objs.size items:=⟨_,Heap.get?_push_size _ rfl,⟨rfl,_,rfl⟩,rfl⟩
section
variable (P:Program)(w:World)
noncomputable def zu (H:Hp)(h:Heap)(a:Addr):HO->Prop
 | .lst xs=>xs.length <= sizeLine/\∃ (ze:List Value)(n:Nat),Vals xs ze/\h.get? a=some { cls := .type "list",data := .seq ze.toArray n }
 | .tup xs=>xs.length <= sizeLine/\∃ ze:List Value,Vals xs ze/\Ae h a ze.toArray
 | .dK kvs=>kvs.length <= sizeLine/\(a == sysModules)=false/\∃ vs,KV kvs vs/\h.DictOf (aT P w) a vs
 | .dT kvs=>kvs.length <= sizeLine/\(a == sysModules)=false/\∃ xs:List (List cb × Addr × Value),
   Paired (fun (p:List cb × V)(q:List cb × Addr × Value)=>p.1=q.1/\H q.2.1=some (.tup (p.1.map kV))/\RelV p.2 q.2.2) kvs xs /\
   ∃ o es ep,h.get? a=some o/\o.ExactDict/\o.data = .dict es ep/\es.toList=xs.map (entryOfKey (tupleKind (aT P w)))/\(xs.map (·.1)).Nodup
 | .set S n=>h.SetOf (intKind P w) a S n
 | .ins C dx fs=>H dx=some (.own a)/\fs.length <= 1000/\dx ≠ a/\h.get? a=some (PySem.W.instObj C dx) /\
   ∃ mA,h.Ns1 dx mA/\(∀ f,zV (fs.lookup f) (mA f))/\PySem.Within mA (fs.map (·.1))
 | .own _=>∃ o,h.get? a=some o
 | .xd fs=>∃ mA,h.Ns1 a mA/\∀ f,zV (fs.lookup f) (mA f)
 | .MK lo hi=>∃ t u v,h.get? a=some { cls := .type "range",data := .fields #[.int lo t, .int hi u, .int 1 v] }
 | .AZ o u=>h.get? a=some o/\zu H h a u
 | .Fe ps=>h.get? a=some { cls := .none,data := .fields ps }
 | .met f x=>h.get? a=some (PySem.W.methodObj (.ref f) (.ref x))
 | .ext φ=>φ h/\(∃ o,h.get? a=some o)/\∀ h1 h2:Heap,φ h1->(∀ o,h1.get? a=some o->h2.get? a=some o)->φ h2
noncomputable def Ab (H:Hp)(h:Heap):Prop:=∀ a o,H a=some o->zu P w H h a o
end
section
variable {P:Program}{w:World}{H H':Hp}{h h':Heap}{a:Addr}{o:HO}
theorem zu.lt (x:zu P w H h a o):a < h.objs.size:=by
 cases o with
 | lst xs=>obtain⟨_,_,_,_,e⟩:=x;exact lt_size e
 | tup xs=>obtain⟨_,_,_,p⟩:=x;exact p.isTup.lt
 | dK kvs=>obtain⟨_,_,_,_,o,_,_,e,_⟩:=x;exact lt_size e
 | dT kvs=>obtain⟨_,_,_,_,o,_,_,e,_⟩:=x;exact lt_size e
 | set S n=>obtain⟨o,_,_,_,e,_⟩:=x;exact lt_size e
 | ins C dx fs=>obtain⟨_,_,_,e,_⟩:=x;exact lt_size e
 | own y=>obtain⟨_,e⟩:=x;exact lt_size e
 | xd fs=>obtain⟨_,⟨_,_,_,e,_⟩,_⟩:=x;exact lt_size e
 | MK lo hi=>obtain⟨_,_,_,e⟩:=x;exact lt_size e
 | AZ ob u=>obtain⟨e,_⟩:=x;exact lt_size e
 | Fe ps=>exact lt_size (show h.get? a=some _ from x)
 | met f y=>exact lt_size (show h.get? a=some _ from x)
 | ext φ=>obtain⟨_,⟨_,e⟩,_⟩:=x;exact lt_size e
theorem Paired.Gv {α β:Type}{F G:α->β->Prop}:∀ {l₁:List α}{l₂:List β},Paired F l₁ l₂->(∀ a b,F a b->G a b)->Paired G l₁ l₂
 | _,_, .nil,_ => .nil
 | _,_, .cons r t,f => .cons (f _ _ r) (Paired.Gv t f)
theorem zu.Ac (x:zu P w H h a o)(k:∀ b u,(b=a∨H b=some (.own a))->h.get? b=some u->h'.get? b=some u)
  (ho:∀ b,H b=some (.own a)->H' b=some (.own a)) (ht:∀ b xs,H b=some (.tup xs)->H' b=some (.tup xs)):zu P w H' h' a o:=by
 induction o with
 | lst xs=>obtain⟨z,ze,n,r,e⟩:=x;exact⟨z,ze,n,r,k _ _ (.inl rfl) e⟩
 | tup xs=>obtain⟨z,ze,r,ob,e,c⟩:=x;exact⟨z,ze,r,ob,k _ _ (.inl rfl) e,c⟩
 | dK kvs=>obtain⟨z,y,vs,r,ob,es,ep,e,c⟩:=x;exact⟨z,y,vs,r,ob,es,ep,k _ _ (.inl rfl) e,c⟩
 | dT kvs =>
  obtain⟨z,y,xs,r,ob,es,ep,e,c⟩:=x
  exact⟨z,y,xs,Paired.Gv r fun p q z=>⟨z.1,ht _ _ z.2.1,z.2.2⟩,ob,es,ep,k _ _ (.inl rfl) e,c⟩
 | set S n=>obtain⟨ob,es,ep,t,e,c⟩:=x;exact⟨ob,es,ep,t,k _ _ (.inl rfl) e,c⟩
 | ins C dx fs =>
  obtain⟨d,z,ne,e,mA,⟨od,es,ep,e2,c⟩,r⟩:=x
  exact⟨ho _ d,z,ne,k _ _ (.inl rfl) e,mA,⟨od,es,ep,k _ _ (.inr d) e2,c⟩,r⟩
 | own y=>obtain⟨ob,e⟩:=x;exact⟨ob,k _ _ (.inl rfl) e⟩
 | xd fs=>obtain⟨mA,⟨od,es,ep,e,c⟩,r⟩:=x;exact⟨mA,⟨od,es,ep,k _ _ (.inl rfl) e,c⟩,r⟩
 | MK lo hi=>obtain⟨t,u,v,e⟩:=x;exact⟨t,u,v,k _ _ (.inl rfl) e⟩
 | AZ ob u ih=>obtain⟨e,q⟩:=x;exact⟨k _ _ (.inl rfl) e,ih q⟩
 | Fe ps =>
  have e:h.get? a=some { cls := .none,data := .fields ps }:=x
  show h'.get? a=some { cls := .none,data := .fields ps }
  exact k a _ (.inl rfl) e
 | met f y =>
  have e:h.get? a=some (PySem.W.methodObj (.ref f) (.ref y)):=x
  show h'.get? a=some (PySem.W.methodObj (.ref f) (.ref y))
  exact k a _ (.inl rfl) e
 | ext φ=>obtain⟨p,⟨o,e⟩,st⟩:=x;exact⟨st _ _ p fun o q=>k _ _ (.inl rfl) q,⟨o,k _ _ (.inl rfl) e⟩,st⟩
theorem Ab.lt (x:Ab P w H h)(e:H a=some o):a < h.objs.size:=(x a o e).lt
theorem Ab.fresh (x:Ab P w H h)(e:h.objs.size <= a):H a=none:=by
 cases q:H a with
 | none=>rfl
 | some u=>exact absurd (lt_of_lt_of_le (x.lt q) e) (lt_irrefl _)
theorem Ab.kept (x:Ab P w H h)(k:∀ b u,h.get? b=some u->h'.get? b=some u):Ab P w H h':=fun a o e =>
 (x a o e).Ac (fun b u _ q=>k b u q) (fun _ q=>q) fun _ _ q=>q
theorem Ab.laid (x:Ab P w H h)(k:∀ b u,h.get? b=some u->h'.get? b=some u)(hp:h.objs.size <= a)(new:zu P w (upd H a o) h' a o):Ab P w (upd H a o) h':=fun b u e=>by
 have hn:=x.fresh hp
 by_cases hb:b=a
 ·subst hb;rw[ac]at e;cases e;exact new
 ·rw[ae hb]at e
  exact(x b u e).Ac (fun c v _ q=>k c v q) (fun c q=>by rw[ae (ah q hn)];exact q) fun c xs q=>by rw[ae (ah q hn)];exact q
end
noncomputable def Rd (H:Hp)(a:Addr)(u:HO):Prop:=H a=some u∨∃ o,H a=some (.AZ o u)
theorem Rd.ok {P:Program}{w:World}{H:Hp}{h:Heap}{a:Addr}{u:HO}(r:Rd H a u)(x:Ab P w H h):zu P w H h a u:=by
 rcases r with r | ⟨o,r⟩
 ·exact x a u r
 ·obtain⟨_,q⟩:=x a _ r
  exact q
noncomputable def IJ:Option HO->Prop
 | some (.lst _)=>True
 | some (.dK _)=>True
 | some (.dT _)=>True
 | some (.set _ _)=>True
 | some (.ins _ _ _)=>True
 | some (.ext _)=>True
 | _=>False
section
variable {P:Program}{w:World}{H:Hp}{h h':Heap}{x e:Addr}{o':HO}
theorem Ab.write (ok:Ab P w H h)(mu:IJ (H x))(he:e=x∨H e=some (.own x))(k:∀ b u,b ≠ e->h.get? b=some u->h'.get? b=some u)(HW:∃ u,h'.get? e=some u)
  (new:zu P w (upd H x o') h' x o'):Ab P w (upd H x o') h':=fun b u q=>by
 have IK:∀ c y,H c=some (.own y)->c ≠ x:=fun c y r z=>by subst z;rw[r]at mu;exact mu
 have Oq:∀ c xs,H c=some (.tup xs)->c ≠ x:=fun c xs r z=>by subst z;rw[r]at mu;exact mu
 by_cases hb:b=x
 ·subst hb;rw[ac]at q;cases q;exact new
 ·rw[ae hb]at q
  by_cases BD:b=e
  ·have q':H b=some (.own x):=by
    rcases he with z | z
    ·exact absurd (BD.trans z) hb
    ·rw[BD];exact z
   rw[q]at q';cases q'
   obtain⟨v,hv⟩:=HW
   exact⟨v,by rw[BD];exact hv⟩
  ·refine(ok b u q).Ac (fun c v hc r=>k c v ?_ r) (fun c r=>by rw[ae (IK c b r)];exact r) fun c xs r=>by rw[ae (Oq c xs r)];exact r
   rcases hc with rfl | hc
   ·exact BD
   ·rintro rfl
    rcases he with z | z
    ·exact IK c b hc z
    ·rw[hc]at z;cases z;exact hb rfl
end
structure Un (fs ex:List Addr)(H H':Hp)(h h':Heap):Prop where
 keep:∀ b o,h.get? b=some o->H b=none->b ∉ fs->b ∉ ex->h'.get? b=some o
 slot:∀ b o,h.get? b=some o->H b=none->b ∈ fs->b ∉ ex->∃ sl,h'.get? b=some { o with slots:=sl }
 free:∀ b o,h.get? b=some o->H b=none->b ∉ ex->H' b=none
 there:∀ b o,h.get? b=some o->b ∉ ex->∃ o',h'.get? b=some o'
 Bo:∀ b xs,H b=some (.tup xs)->H' b=some (.tup xs)
 Bd:∀ b o u,H b=some (.AZ o u)->H' b=some (.AZ o u)
 Bp:∀ b ps,H b=some (.Fe ps)->∃ more,H' b=some (.Fe (ps ++ more))
section
variable {fs zO ex HX:List Addr}{H H1 H2:Hp}{h h1 h2 h':Heap}{a x e:Addr}{o:HO}
theorem Un.any (u:Un fs ex H H1 h h1){b:Addr}{ob:Obj}(q:h.get? b=some ob)(n:H b=none)(hx:b ∉ ex):∃ sl,h1.get? b=some { ob with slots:=sl }:=by
 by_cases hb:b ∈ fs
 ·exact u.slot b ob q n hb hx
 ·exact⟨ob.slots,u.keep b ob q n hb hx⟩
theorem Un.kept (k:∀ b u,h.get? b=some u->h'.get? b=some u):Un fs ex H H h h' :=
 ⟨fun b ob q _ _ _=>k b ob q,fun b ob q _ _ _=>⟨ob.slots,k b ob q⟩,fun _ _ _ n _=>n,fun b ob q _=>⟨ob,k b ob q⟩,fun _ _ q=>q,fun _ _ _ q=>q,fun _ ps q=>⟨#[],by rw[q];simp⟩⟩
theorem Un.refl:Un fs ex H H h h:=Un.kept fun _ _ q=>q
theorem Un.laid (k:∀ b u,h.get? b=some u->h'.get? b=some u)(hp:h.objs.size <= a)(hn:H a=none):Un fs ex H (upd H a o) h h' where
 keep:=fun b u q _ _ _=>k b u q
 slot:=fun b u q _ _ _=>⟨u.slots,k b u q⟩
 free:=fun b u q n _=>by rw[ae (ne_of_lt (lt_of_lt_of_le (lt_size q) hp))];exact n
 there:=fun b u q _=>⟨u,k b u q⟩
 Bo:=fun b xs q=>by rw[ae (ah q hn)];exact q
 Bd:=fun b u xs q=>by rw[ae (ah q hn)];exact q
 Bp:=fun b ps q=>⟨#[],by rw[ae (ah q hn),q];simp⟩
theorem Un.write (mu:IJ (H x))(he:e=x∨H e=some (.own x))(k:∀ b u,b ≠ e->h.get? b=some u->h'.get? b=some u)(HW:∃ u,h'.get? e=some u):Un fs ex H (upd H x o) h h':=by
 have hx:∀ b,H b=none->b ≠ x:=fun b n z=>by subst z;rw[n]at mu;exact mu
 have hb:∀ b,H b=none->b ≠ e:=fun b n z=>by
  subst z
  rcases he with r | r
  ·exact hx b n r
  ·rw[n]at r;cases r
 have hm:∀ b u,H b=some u->¬ IJ (some u)->b ≠ x:=fun b u q nm z=>by subst z;rw[q]at mu;exact nm mu
 refine⟨fun b u q n _ _=>k b u (hb b n) q,fun b u q n _ _=>⟨u.slots,k b u (hb b n) q⟩,fun b u q n _=>by rw[ae (hx b n)];exact n,fun b u q _=>?_,
  fun b xs q=>by rw[ae (hm b _ q fun z=>z)];exact q,fun b u xs q=>by rw[ae (hm b _ q fun z=>z)];exact q,fun b ps q=>⟨#[],by rw[ae (hm b _ q fun z=>z),q];simp⟩⟩
 by_cases BD:b=e
 ·subst BD;exact HW
 ·exact⟨u,k b u BD q⟩
end
noncomputable def ML (h:Heap)(H:Hp):List Addr:=(List.range h.objs.size).filter fun a=>(H a).isSome
noncomputable def ld (h:Heap)(H:Hp):Heap:=PySem.W.hideAll h (ML h H)
theorem qH (h:Heap)(H:Hp):(ld h H).objs.size=h.objs.size:=PySem.W.hideAll_size _ _
theorem tZ {h:Heap}{H:Hp}{b:Addr}{o:Obj}(e:h.get? b=some o)(n:H b=none):(ld h H).get? b=some o :=
 PySem.W.hideAll_get _ e fun hm=>by
  have q:(H b).isSome=true:=(mem_filter.mp hm).2
  rw[n]at q;simp at q
theorem vK {h:Heap}{H:Hp}{b:Addr}{o:Obj}(e:(ld h H).get? b=some o):h.get? b=some o/\H b=none:=by
 have e':h.get? b=some o:=PySem.W.of_hideAll (ML h H) e
 refine⟨e',?_⟩
 cases q:H b with
 | none=>rfl
 | some x =>
  have hm:b ∈ ML h H:=mem_filter.mpr ⟨mem_range.mpr (lt_size e'),by simp[q]⟩
  have z:(ld h H).get? b=none:=PySem.W.hideAll_none (ML h H) hm
  rw[z]at e;cases e
end L2
namespace L2
open PySem PySem.Spec PyProof.Rows
structure Mod (K:Frag)(mg:Str->Option Value)(base:Heap):Prop where
 Dv:K.In base
 glob:base.Ns mainGlobals mg
 blt:∃ mb,base.Ns builtinsNs mb/\∀ x:Str,x ≠ "__name__"->mb x=bootBuiltins x
 nolimit:base.NoLimit
structure Cx where
 prog:Program
 w:World
 K:Frag
 mg:Str->Option Value
 base:Heap
 A:Around
 N:List Str
 s₀:Shared
 H₀:Hp
 env:Env
 outer:List Env
 stack:List Env
 ex:List Addr
 fn:Str->Bool
 calm:Bool
 pn:List (Addr × Obj)
 xe:Value->Shared->Prop
noncomputable def lg (l:List Env):List Addr:=l.filterMap (·.frame)
abbrev Cx.fs (X:Cx):List Addr:=lg X.outer
noncomputable def MN (sc:Scope)(x:Str):Prop:=sc.names.lookup x=some .local∨sc.names.lookup x=some .cell∨sc.names.lookup x=some .free
noncomputable def Loc (sc:Scope)(x:Str):Prop:=sc.names.lookup x=some .local∨sc.names.lookup x=some .cell
noncomputable def Look (env:Env)(h:Heap)(m:Str->Option Value)(x:Str)(u:Value):Prop :=
 (env.kindOf x=some .local/\m x=some u)∨((env.kindOf x=some .cell∨env.kindOf x=some .free)/\∃ c,env.cells.lookup x=some c/\h.IsCell c (some u))
structure Cx.Ok (X:Cx):Prop where
 mod:Mod X.K X.mg X.base
 kind:X.env.scope.kind = .function
 glob:X.env.globals=mainGlobals
 blt:X.env.builtins=builtinsNs
 above:X.s₀.heap.objs.size <= X.env.locals
 inj:∀ x y c,X.env.cells.lookup x=some c->X.env.cells.lookup y=some c->x=y
 has:∀ x,(X.env.kindOf x=some .cell∨X.env.kindOf x=some .free)->∃ c,X.env.cells.lookup x=some c
 IL:∀ x c,X.fn x=true->X.env.cells.lookup x=some c->X.s₀.heap.objs.size <= c
 hd:X.calm=true->X.A.handled=none
 frames:X.A.frames=some X.stack
 MO:X.stack=X.outer∨(X.stack=X.env :: X.outer/\X.env.frame=some X.env.locals)
 TL:∀ b ∈ X.ex,b ≠ X.env.locals/\∀ x c,X.env.cells.lookup x=some c->c ≠ b
 bs:∀ b o,X.base.get? b=some o->X.s₀.heap.get? b=some o/\X.H₀ b=none
 Ey:X.base.objs.size <= X.s₀.heap.objs.size
 DC:∀ b o,X.base.get? b=some o->b ∉ X.ex
 Ez:∀ b ∈ X.ex,b ∉ X.fs
 Bf:X.s₀.heap.FunFrames X.base X.outer
 Gz:∀ b ∈ X.fs,X.H₀ b=none
structure Inv (X:Cx)(pins:List (Addr × Obj))(σ:List (Option V))(H:Hp)(s:Shared):Prop where
 ok:X.Ok
 os:s.os=X.s₀.os
 bare:AllBare s.gens
 base:Un X.fs X.ex X.H₀ H X.s₀.heap s.heap
 loc:∃ m,s.heap.Ns X.env.locals m/\∀ (i:Nat)(x:Str)(v:V),X.N[i]? = some x->σ[i]? = some (some v)->MN X.env.scope x->∃ u,RelV v u/\Look X.env s.heap m x u
 cell:∀ x c,X.env.cells.lookup x=some c->∃ v,s.heap.IsCell c v
 free:H X.env.locals=none
 zQ:∀ x c,X.env.cells.lookup x=some c->H c=none
 pin:∀ p ∈ X.pn ++ pins,s.heap.get? p.1=some p.2/\H p.1=none/\p.1 ≠ X.env.locals/\p.1 ∉ X.fs/\∀ v,p.2.data ≠ .cell v
 zg:Ab X.prog X.w H s.heap
 len:σ.length=X.N.length
section
variable {X:Cx}{pins:List (Addr × Obj)}{σ:List (Option V)}{H H':Hp}{s:Shared}{h':Heap}
theorem Cx.Ok.Ot (ok:X.Ok){b:Addr}{o:Obj}(e:X.base.get? b=some o):b ∉ X.fs:=fun hb=>by
 have:=(ok.Bf.mem hb).1
 rw[e]at this;cases this
theorem Inv.bs (I:Inv X pins σ H s):∀ b o,X.base.get? b=some o->s.heap.get? b=some o/\H b=none:=fun b o e =>
 ⟨I.base.keep b o (I.ok.bs b o e).1 (I.ok.bs b o e).2 (I.ok.Ot e) (I.ok.DC b o e),I.base.free b o (I.ok.bs b o e).1 (I.ok.bs b o e).2 (I.ok.DC b o e)⟩
theorem Inv.bk (I:Inv X pins σ H s):∀ b o,X.base.get? b=some o->s.heap.get? b=some o:=fun b o e=>(I.bs b o e).1
theorem Inv.mod (I:Inv X pins σ H s):Mod X.K X.mg X.base:=I.ok.mod
theorem Inv.zZ (I:Inv X pins σ H s):X.K.In s.heap:=I.ok.mod.Dv.keeps I.bk
theorem Inv.lt (I:Inv X pins σ H s):X.env.locals < s.heap.objs.size:=let ⟨_,hn,_⟩:=I.loc;hn.lt
theorem Inv.sz (I:Inv X pins σ H s):X.s₀.heap.objs.size <= s.heap.objs.size:=le_trans I.ok.above (le_of_lt I.lt)
theorem Inv.Ov (I:Inv X pins σ H s){a:Addr}(h:s.heap.objs.size <= a):a ∉ X.fs:=fun hb=>by
 obtain⟨_,o,ho,_⟩:=I.ok.Bf.mem hb
 exact absurd (lt_of_lt_of_le (lt_size ho) (le_trans I.sz h)) (lt_irrefl _)
theorem Inv.Dx (I:Inv X pins σ H s):∀ x c,X.env.cells.lookup x=some c->c ≠ X.env.locals:=fun x c e z=>by
 obtain⟨v,o,ho,hd⟩:=I.cell x c e
 obtain⟨m,⟨o',es,ep,E2,G0,_⟩,_⟩:=I.loc
 rw[z,E2]at ho;cases ho;rw[G0]at hd;cases hd
theorem Inv.Bf (I:Inv X pins σ H s):s.heap.FunFrames X.base X.outer:=by
 have all:∀ (l:List Env),(∀ b ∈ lg l,b ∈ X.fs)->X.s₀.heap.FunFrames X.base l->s.heap.FunFrames X.base l:=by
  intro l
  induction l with
  | nil=>intro _ _;trivial
  | cons env r ih =>
   intro hs hl
   obtain⟨hk,⟨L,o,hf,hn,ho,hd⟩,hr⟩:=hl
   have hL:L ∈ X.fs:=hs L (by unfold lg;rw[filterMap_cons,hf];exact mem_cons_self)
   obtain⟨sl,e⟩:=I.base.slot L o ho (I.ok.Gz L hL) hL fun z=>I.ok.Ez L z hL
   exact⟨hk,⟨L,_,hf,hn,e,hd⟩,ih (fun b hb=>hs b (by unfold lg;rw[filterMap_cons,hf];exact mem_cons_of_mem _ hb)) hr⟩
 exact all X.outer (fun _ hb=>hb) I.ok.Bf
theorem Inv.stack (I:Inv X pins σ H s):s.heap.FunFrames X.base X.stack:=by
 rcases I.ok.MO with e | ⟨e,hf⟩
 ·rw[e];exact I.Bf
 ·rw[e]
  obtain⟨m,hn,_⟩:=I.loc
  refine .cons (by rw[I.ok.kind];decide) hf hn ?_ I.Bf
  exact Heap.get?_none_of_le (le_trans I.ok.Ey I.ok.above)
theorem Inv.AU (I:Inv X pins σ H s):∀ b ∈ lg X.stack,b ∈ X.env.locals :: X.fs:=fun b hb=>by
 rcases I.ok.MO with e | ⟨e,hf⟩
 ·rw[e]at hb;exact mem_cons_of_mem _ hb
 ·rw[e]at hb
  unfold lg at hb
  rw[filterMap_cons,hf]at hb
  exact hb
theorem Inv.BE (I:Inv X pins σ H s):∀ b ∈ lg X.stack,H b=none:=fun b hb=>by
 rcases mem_cons.mp (I.AU b hb) with e | hb
 ·rw[e];exact I.free
 ·obtain⟨_,o,ho,_⟩:=I.ok.Bf.mem hb
  exact I.base.free b o ho (I.ok.Gz b hb) fun z=>I.ok.Ez b z hb
theorem Inv.step {g':Array GenState}{t':Nat}{d':Drawn}{ch:List Addr}(I:Inv X pins σ H s)
  (Bx:∀ b ∈ ch,(b ∈ X.ex∨X.s₀.heap.objs.size <= b)/\b ≠ X.env.locals/\(∀ x c,X.env.cells.lookup x=some c->c ≠ b)/\∀ p ∈ X.pn ++ pins,p.1 ≠ b)
  (keep:∀ b o,b ≠ X.env.locals->b ∉ X.fs->b ∉ ch->s.heap.get? b=some o->H b=none->h'.get? b=some o)
  (slot:∀ b o,b ≠ X.env.locals->b ∈ X.fs->b ∉ ch->s.heap.get? b=some o->H b=none->∃ sl,h'.get? b=some { o with slots:=sl }) (free:∀ b o,b ∉ ch->s.heap.get? b=some o->H b=none->H' b=none)
  (there:∀ b o,b ∉ ch->s.heap.get? b=some o->∃ o',h'.get? b=some o')
  (Bo:∀ b xs,H b=some (.tup xs)->H' b=some (.tup xs)) (Bd:∀ b o u,H b=some (.AZ o u)->H' b=some (.AZ o u)) (Bp:∀ b ps,H b=some (.Fe ps)->∃ more,H' b=some (.Fe (ps ++ more)))
  (ns:∀ m,s.heap.Ns X.env.locals m->h'.Ns X.env.locals m) (zg:Ab X.prog X.w H' h') (hg:AllBare g') :
  Inv X pins σ H' { s with heap:=h',gens:=g',drawn:=d',toks:=t' }:=by
 have TM:∀ b o,X.s₀.heap.get? b=some o->b ≠ X.env.locals:=fun b o e=>ne_of_lt (lt_of_lt_of_le (lt_size e) I.ok.above)
 have MP:∀ b o,X.s₀.heap.get? b=some o->b ∉ X.ex->b ∉ ch:=fun b o e hx hb=>by
  rcases (Bx b hb).1 with z | z
  ·exact hx z
  ·exact absurd (lt_of_lt_of_le (lt_size e) z) (lt_irrefl _)
 have cellK:∀ x c,X.env.cells.lookup x=some c->∀ v,s.heap.IsCell c v->h'.IsCell c v:=fun x c e v ⟨o,ho,hd⟩=>by
  have IM:c ∉ ch:=fun z=>(Bx c z).2.2.1 x c e rfl
  by_cases hc:c ∈ X.fs
  ·obtain⟨sl,q⟩:=slot c o (I.Dx x c e) hc IM ho (I.zQ x c e)
   exact⟨_,q,hd⟩
  ·exact⟨o,keep c o (I.Dx x c e) hc IM ho (I.zQ x c e),hd⟩
 refine⟨I.ok,I.os,hg,⟨fun b o e n hb hx=>?_,fun b o e n hb hx=>?_,fun b o e n hx=>?_,fun b o e hx=>?_,fun b xs e=>Bo b xs (I.base.Bo b xs e),fun b o xs e=>Bd b o xs (I.base.Bd b o xs e),fun b ps e=>?_⟩,?_,fun x c e=>?_,?_,fun x c e=>?_,fun p hp=>?_,zg,I.len⟩
 ·exact keep b o (TM b o e) hb (MP b o e hx) (I.base.keep b o e n hb hx) (I.base.free b o e n hx)
 ·obtain⟨sl,e1⟩:=I.base.slot b o e n hb hx
  obtain⟨sl',e2⟩:=slot b _ (TM b o e) hb (MP b o e hx) e1 (I.base.free b o e n hx)
  exact⟨sl',e2⟩
 ·obtain⟨o',e1⟩:=I.base.there b o e hx
  exact free b o' (MP b o e hx) e1 (I.base.free b o e n hx)
 ·obtain⟨o',e1⟩:=I.base.there b o e hx
  exact there b o' (MP b o e hx) e1
 ·obtain⟨m1,e1⟩:=I.base.Bp b ps e
  obtain⟨m2,e2⟩:=Bp b _ e1
  exact⟨m1 ++ m2,by rw[e2,Array.append_assoc]⟩
 ·obtain⟨m,hn,hl⟩:=I.loc
  refine⟨m,ns m hn,fun i x v e1 e2 e3=>?_⟩
  obtain⟨u,r,l⟩:=hl i x v e1 e2 e3
  refine⟨u,r,?_⟩
  rcases l with l | ⟨k,c,e,z⟩
  ·exact .inl l
  ·exact .inr ⟨k,c,e,cellK x c e _ z⟩
 ·obtain⟨v,z⟩:=I.cell x c e
  exact⟨v,cellK x c e v z⟩
 ·obtain⟨m,⟨o,_,_,ho,_⟩,_⟩:=I.loc
  exact free _ o (fun z=>(Bx _ z).2.1 rfl) ho I.free
 ·obtain⟨v,o,ho,hd⟩:=I.cell x c e
  exact free c o (fun z=>(Bx c z).2.2.1 x c e rfl) ho (I.zQ x c e)
 ·obtain⟨e,n,ne,nf,d⟩:=I.pin p hp
  have IM:p.1 ∉ ch:=fun z=>(Bx p.1 z).2.2.2 p hp rfl
  exact⟨keep p.1 p.2 ne nf IM e n,free p.1 p.2 IM e n,ne,nf,d⟩
theorem Inv.un {t':Nat}(I:Inv X pins σ H s)(u:Un X.fs [] H H' s.heap h')(zg:Ab X.prog X.w H' h'):Inv X pins σ H' { s with heap:=h',toks:=t' }:=by
 obtain⟨m,⟨o,es,ep,ho,r⟩,_⟩:=id I.loc
 obtain⟨sl,hL⟩:=u.any ho I.free (by simp)
 exact I.step (g':=s.gens) (d':=s.drawn) (ch:=[]) (fun _ z=>nomatch z) (fun b o _ hb _ e n=>u.keep b o e n hb (by simp)) (fun b o _ hb _ e n=>u.slot b o e n hb (by simp)) (fun b o _ e n=>u.free b o e n (by simp)) (fun b o _ e=>u.there b o e (by simp)) u.Bo u.Bd u.Bp (fun m' hm=>by
  obtain⟨o',MQ,Ow,E2,r'⟩:=hm
  rw[ho]at E2;cases E2
  exact⟨_,MQ,Ow,hL,r'⟩) zg I.bare
theorem Inv.call {g':Array GenState}{t':Nat}{d':Drawn}{ch:List Addr}(I:Inv X pins σ H s)(u:Un (lg X.stack) ch H H' s.heap h')(zg:Ab X.prog X.w H' h')(hg:AllBare g')
  (Bx:∀ b ∈ ch,(b ∈ X.ex∨X.s₀.heap.objs.size <= b)/\b ≠ X.env.locals/\(∀ x c,X.env.cells.lookup x=some c->c ≠ b)/\∀ p ∈ X.pn ++ pins,p.1 ≠ b) :
  Inv X pins σ H' { s with heap:=h',gens:=g',drawn:=d',toks:=t' }:=by
 obtain⟨m,⟨o,es,ep,ho,r⟩,_⟩:=id I.loc
 obtain⟨sl,hL⟩:=u.any ho I.free fun z=>(Bx _ z).2.1 rfl
 exact I.step (ch:=ch) Bx (fun b o hL hb hc e n=>u.keep b o e n (fun z=>(mem_cons.mp (I.AU b z)).elim hL hb) hc) (fun b o _ _ hc e n=>u.any e n hc) (fun b o hc e n=>u.free b o e n hc) (fun b o hc e=>u.there b o e hc) u.Bo u.Bd u.Bp (fun m' hm=>by
  obtain⟨o',MQ,Ow,E2,r'⟩:=hm
  rw[ho]at E2;cases E2
  exact⟨_,MQ,Ow,hL,r'⟩) zg hg
theorem Inv.turned {t':Nat}{it:Addr}(I:Inv X pins σ H s)(k:∀ b o,b ≠ it->s.heap.get? b=some o->h'.get? b=some o)(hn:H it=none)(hL:it ≠ X.env.locals)
  (h1:it ∈ X.ex∨X.s₀.heap.objs.size <= it) (h2:∀ x c,X.env.cells.lookup x=some c->c ≠ it) (h3:∀ p ∈ X.pn ++ pins,p.1 ≠ it):Inv X pins σ H { s with heap:=h',toks:=t' }:=by
 have TN:∀ b u,H b=some u->b ≠ it:=fun b u e z=>by rw[z,hn]at e;cases e
 refine I.step (g':=s.gens) (d':=s.drawn) (ch:=[it]) (fun b hb=>?_) (fun b o _ _ hc e _=>k b o (fun z=>hc (by simp[z])) e) (fun b o _ _ hc e _=>⟨o.slots,k b o (fun z=>hc (by simp[z])) e⟩) (fun _ _ _ _ n=>n)
  (fun b o hc e=>⟨o,k b o (fun z=>hc (by simp[z])) e⟩) (fun _ _ e=>e) (fun _ _ _ e=>e) (fun b ps e=>⟨#[],by rw[e];simp⟩) (fun m hm=>?_) (fun b u e=>?_) I.bare
 ·have e:b=it:=by simpa using hb
  subst e
  exact⟨h1,hL,h2,h3⟩
 ·obtain⟨o,es,ep,ho,r⟩:=hm
  exact⟨o,es,ep,k _ o (Ne.symm hL) ho,r⟩
 ·refine(I.zg b u e).Ac (fun c v hc q=>k c v ?_ q) (fun _ q=>q) fun _ _ q=>q
  rcases hc with z | z
  ·rw[z];exact TN b u e
  ·exact TN c _ z
theorem Inv.tok (I:Inv X pins σ H s)(t:Nat):Inv X pins σ H { s with toks:=t }:=I.un (h':=s.heap) (t':=t) Un.refl I.zg
theorem Inv.kept {t':Nat}(I:Inv X pins σ H s)(k:∀ b u,s.heap.get? b=some u->h'.get? b=some u):Inv X pins σ H { s with heap:=h',toks:=t' }:=I.un (Un.kept k) (I.zg.kept k)
theorem Inv.laid {a:Addr}{o:HO}{t':Nat}(I:Inv X pins σ H s)(k:∀ b u,s.heap.get? b=some u->h'.get? b=some u)(hp:s.heap.objs.size <= a)(new:zu X.prog X.w (upd H a o) h' a o) :
  Inv X pins σ (upd H a o) { s with heap:=h',toks:=t' }:=I.un (Un.laid k hp (I.zg.fresh hp)) (I.zg.laid k hp new)
theorem Inv.write {x e:Addr}{o:HO}{t':Nat}(I:Inv X pins σ H s)(mu:IJ (H x))(he:e=x∨H e=some (.own x))(k:∀ b u,b ≠ e->s.heap.get? b=some u->h'.get? b=some u)(HW:∃ u,h'.get? e=some u)
  (new:zu X.prog X.w (upd H x o) h' x o):Inv X pins σ (upd H x o) { s with heap:=h',toks:=t' }:=I.un (Un.write mu he k HW) (I.zg.write mu he k HW new)
theorem Inv.Ap {Cb:List (Addr × Obj)}(I:Inv X pins σ H s)(h:∀ p ∈ Cb,s.heap.get? p.1=some p.2/\H p.1=none/\p.1 ≠ X.env.locals/\p.1 ∉ X.fs/\∀ v,p.2.data ≠ .cell v):Inv X Cb σ H s :=
 ⟨I.ok,I.os,I.bare,I.base,I.loc,I.cell,I.free,I.zQ,fun p hp=>(mem_append.mp hp).elim (fun z=>I.pin p (mem_append_left _ z)) (h p),I.zg,I.len⟩
theorem cj {N:List Str}(hN:N.Nodup){i j:Nat}{x:Str}(a:N[i]? = some x)(b:N[j]? = some x):i=j:=by
 obtain⟨h1,e1⟩:=List.getElem?_eq_some_iff.mp a
 obtain⟨h2,e2⟩:=List.getElem?_eq_some_iff.mp b
 exact(List.getElem_inj hN).mp (e1.trans e2.symm)
theorem jG {M:Model}{A:Around}{E:Value->Shared->Prop}{i:Nat}{x:Str}{v:V}{u:Value}{Q:Unit->Shared->Prop}(I:Inv X pins σ H s)(hN:X.N.Nodup)(hi:X.N[i]? = some x)(hx:Loc X.env.scope x)(r:RelV v u)
  (h:∀ s',Inv X pins (σ.set i (some v)) H s'->(∃ a,Heap.SameBut a s.heap s'.heap/\(a=X.env.locals∨X.env.cells.lookup x=some a))->Q () s') (hf:X.fn x=true∨X.env.scope.names.lookup x=some .local:=by first | exact .inl rfl | exact .inr rfl | assumption):wpAny M A (storeName X.env x u) Q E s:=by
 obtain⟨m,hn,hl⟩:=id I.loc
 have Ox:(X.env.scope.kind == .class || (X.env.scope.kind == .module && X.env.locals != X.env.globals))=false:=by rw[I.ok.kind];rfl
 have IP:i < σ.length:=by rw[I.len];exact(List.getElem?_eq_some_iff.mp hi).1
 have Dx:=I.Dx
 have tracked:∀ {a:Addr}{h':Heap},(∃ o,s.heap.get? a=some o/\H a=none)->Heap.SameBut a s.heap h'->Ab X.prog X.w H h':=fun {a h'} ha hs b ob e=>by
  obtain⟨_,_,Ff⟩:=ha
  refine(I.zg b ob e).Ac (fun c w' hc q=>(hs.2 c ?_).trans q) (fun _ q=>q) fun _ _ q=>q
  rintro rfl
  rcases hc with rfl | hc
  ·rw[Ff]at e;cases e
  ·rw[Ff]at hc;cases hc
 rcases hx with hk | hk
 ·refine wpAny_storeName_local hk hn (fun h' BV hs=>?_) Ox
  obtain⟨oL,_,_,hoL,_⟩:=id hn
  refine h _ ⟨I.ok,I.os,I.bare,⟨fun b o e n hb hx=>?_,fun b o e n hb hx=>?_,I.base.free,fun b o e hx=>?_,I.base.Bo,I.base.Bd,I.base.Bp⟩,⟨_,BV,fun j y v' e1 e2 e3=>?_⟩,fun y c e=>?_,I.free,I.zQ,fun p hp=>?_,tracked ⟨oL,hoL,I.free⟩ hs,by simpa using I.len⟩ ⟨_,hs, .inl rfl⟩
  ·exact(hs.2 b (ne_of_lt (lt_of_lt_of_le (lt_size e) I.ok.above))).trans (I.base.keep b o e n hb hx)
  ·obtain⟨sl,e1⟩:=I.base.slot b o e n hb hx
   exact⟨sl,(hs.2 b (ne_of_lt (lt_of_lt_of_le (lt_size e) I.ok.above))).trans e1⟩
  ·obtain⟨o',e1⟩:=I.base.there b o e hx
   exact⟨o',(hs.2 b (ne_of_lt (lt_of_lt_of_le (lt_size e) I.ok.above))).trans e1⟩
  ·by_cases hj:j=i
   ·subst hj
    rw[hi]at e1;cases e1
    rw[List.getElem?_set_self IP]at e2
    cases e2
    exact⟨u,r, .inl ⟨hk,by simp⟩⟩
   ·rw[List.getElem?_set_ne (Ne.symm hj)]at e2
    obtain⟨u',r',q⟩:=hl j y v' e1 e2 e3
    refine⟨u',r',?_⟩
    rcases q with ⟨k,e⟩ | ⟨k,c,e,z⟩
    ·refine .inl ⟨k,?_⟩
     have:y ≠ x:=fun e=>hj (cj hN e1 (e ▸ hi))
     simp[this,e]
    ·exact .inr ⟨k,c,e,z.sameBut hs (Dx y c e)⟩
  ·obtain⟨w',z⟩:=I.cell y c e
   exact⟨w',z.sameBut hs (Dx y c e)⟩
  ·obtain⟨e,n,ne,nf,d⟩:=I.pin p hp
   exact⟨(hs.2 p.1 ne).trans e,n,ne,nf,d⟩
 ·have Oy:X.fn x=true:=by
   rcases hf with z | z
   ·exact z
   ·rw[z]at hk;cases hk
  obtain⟨c,hc⟩:=I.ok.has x (.inl hk)
  obtain⟨w',z⟩:=I.cell x c hc
  refine wpAny_storeName_cell I.ok.kind hk hc z (fun h' HY hs=>?_)
  obtain⟨oc,TQ,Oz⟩:=id z
  refine h { s with heap:=h' } ⟨I.ok,I.os,I.bare,⟨fun b o e n hb hx=>?_,fun b o e n hb hx=>?_,I.base.free,fun b o e hx=>?_,I.base.Bo,I.base.Bd,I.base.Bp⟩,⟨m,hn.sameBut hs (Ne.symm (Dx x c hc)),fun j y v' e1 e2 e3=>?_⟩,fun y c' e=>?_,I.free,I.zQ,fun p hp=>?_,tracked ⟨oc,TQ,I.zQ x c hc⟩ hs,by simpa using I.len⟩ ⟨c,hs, .inr hc⟩
  ·exact(hs.2 b (ne_of_lt (lt_of_lt_of_le (lt_size e) (I.ok.IL x c Oy hc)))).trans (I.base.keep b o e n hb hx)
  ·obtain⟨sl,e1⟩:=I.base.slot b o e n hb hx
   exact⟨sl,(hs.2 b (ne_of_lt (lt_of_lt_of_le (lt_size e) (I.ok.IL x c Oy hc)))).trans e1⟩
  ·obtain⟨o',e1⟩:=I.base.there b o e hx
   exact⟨o',(hs.2 b (ne_of_lt (lt_of_lt_of_le (lt_size e) (I.ok.IL x c Oy hc)))).trans e1⟩
  ·by_cases hj:j=i
   ·subst hj
    rw[hi]at e1;cases e1
    rw[List.getElem?_set_self IP]at e2
    cases e2
    exact⟨u,r, .inr ⟨.inl hk,c,hc,HY⟩⟩
   ·rw[List.getElem?_set_ne (Ne.symm hj)]at e2
    obtain⟨u',r',q⟩:=hl j y v' e1 e2 e3
    refine⟨u',r',?_⟩
    rcases q with q | ⟨k,c',e,z'⟩
    ·exact .inl q
    ·refine .inr ⟨k,c',e,z'.sameBut hs ?_⟩
     rintro rfl
     exact hj (cj hN e1 (I.ok.inj _ _ _ e hc ▸ hi))
  ·by_cases MR:c' = c
   ·subst MR;exact⟨_,HY⟩
   ·obtain⟨w2,z2⟩:=I.cell y c' e
    exact⟨w2,z2.sameBut hs MR⟩
  ·obtain⟨e,n,ne,nf,d⟩:=I.pin p hp
   refine⟨(hs.2 p.1 ?_).trans e,n,ne,nf,d⟩
   intro q
   rw[q,TQ]at e
   have q':oc=p.2:=Option.some.inj e
   exact d w' (by rw[← q'];exact Oz)
theorem iW {M:Model}{A:Around}{E:Value->Shared->Prop}{i:Nat}{x:Str}{v:V}{u:Value}{Q:Unit->Shared->Prop}(I:Inv X pins σ H s)(hN:X.N.Nodup)(hi:X.N[i]? = some x)(hx:Loc X.env.scope x)(r:RelV v u)
  (h:∀ s',Inv X pins (σ.set i (some v)) H s'->Q () s') (hf:X.fn x=true∨X.env.scope.names.lookup x=some .local:=by first | exact .inl rfl | exact .inr rfl | assumption):wpAny M A (storeName X.env x u) Q E s :=
 jG I hN hi hx r (fun s' I' _=>h s' I') hf
theorem Inv.Fg {s':Shared}{ch:List Addr}(I:Inv X pins σ H s)(ho:s'.os=s.os)(u:Un (lg X.stack) ch H H' s.heap s'.heap)(zg:Ab X.prog X.w H' s'.heap)(hg:AllBare s'.gens)
  (Bx:∀ b ∈ ch,(b ∈ X.ex∨X.s₀.heap.objs.size <= b)/\b ≠ X.env.locals/\(∀ x c,X.env.cells.lookup x=some c->c ≠ b)/\∀ p ∈ X.pn ++ pins,p.1 ≠ b):Inv X pins σ H' s':=by
 obtain⟨h',g',d',t',o'⟩:=s'
 have e:o' = s.os:=ho
 subst e
 exact I.call (g':=g') (t':=t') (d':=d') u zg hg Bx
end
abbrev XK:=Value->Option Addr->Hp->Prop
abbrev St:=List (Option V)
abbrev VK:=V->Hp->Prop
abbrev TE:=St->Hp->VK->Prop
abbrev TT:=St->Hp->(Bool->Hp->Prop)->Prop
abbrev TA:=St->Hp->(List V->Hp->Prop)->Prop
structure jD where
 nx:St->Hp->Prop
 rt:VK
 bk:St->Hp->Prop:=fun _ _=>False
 ct:St->Hp->Prop:=fun _ _=>False
abbrev TS:=jD->St->Hp->Prop
noncomputable def EP (X:Cx)(pins:List (Addr × Obj))(σ:St)(Q:VK)(u:Value)(s':Shared):Prop:=∃ v H',Inv X pins σ H' s'/\RelV v u/\Q v H'
noncomputable def TP (X:Cx)(pins:List (Addr × Obj))(σ:St)(Q:Bool->Hp->Prop)(b:Bool)(s':Shared):Prop:=∃ H',Inv X pins σ H' s'/\Q b H'
noncomputable def AP (X:Cx)(pins:List (Addr × Obj))(σ:St)(Q:List V->Hp->Prop)(us:List Value)(s':Shared):Prop:=∃ vs H',Inv X pins σ H' s'/\Vals vs us/\Q vs H'
noncomputable def SP (X:Cx)(pins:List (Addr × Obj))(D:jD)(f:Flow)(s':Shared):Prop :=
 match f with
 | .next=>∃ σ' H',Inv X pins σ' H' s'/\D.nx σ' H'
 | .brk=>∃ σ' H',Inv X pins σ' H' s'/\D.bk σ' H'
 | .cont=>∃ σ' H',Inv X pins σ' H' s'/\D.ct σ' H'
 | .ret u=>∃ v σ' H',Inv X pins σ' H' s'/\RelV v u/\D.rt v H'
noncomputable def PE (X:Cx)(e:Expr)(t:TE):Prop :=
 ∀ (pins:List (Addr × Obj))(s:Shared)(σ:St)(H:Hp)(Q:VK),Inv X pins σ H s->t σ H Q->wpAny (model X.prog X.w) X.A (eval e X.env) (EP X pins σ Q) X.xe s
noncomputable def PT (X:Cx)(e:Expr)(t:TT):Prop :=
 ∀ (pins:List (Addr × Obj))(s:Shared)(σ:St)(H:Hp)(Q:Bool->Hp->Prop),Inv X pins σ H s->t σ H Q->wpAny (model X.prog X.w) X.A (isTrue e X.env (eval e X.env)) (TP X pins σ Q) X.xe s
noncomputable def PW (X:Cx)(e:Expr)(t:TT):Prop :=
 ∀ (whole:Sem Value)(pins:List (Addr × Obj))(s:Shared)(σ:St)(H:Hp)(Q:Bool->Hp->Prop),Inv X pins σ H s->t σ H Q->wpAny (model X.prog X.w) X.A (isTrue e X.env whole) (TP X pins σ Q) X.xe s
theorem PW.pt {X:Cx}{e:Expr}{t:TT}(h:PW X e t):PT X e t:=h _
noncomputable def PA (X:Cx)(es:List Expr)(t:TA):Prop :=
 ∀ (pos:Pos)(pins:List (Addr × Obj))(s:Shared)(σ:St)(H:Hp)(Q:List V->Hp->Prop),Inv X pins σ H s->t σ H Q->wpAny (model X.prog X.w) X.A (spliced (backTo pos (starEach es X.env))) (AP X pins σ Q) X.xe s
noncomputable def PS (X:Cx)(st:Stmt)(t:TS):Prop :=
 ∀ (pins:List (Addr × Obj))(s:Shared)(σ:St)(H:Hp)(D:jD),Inv X pins σ H s->t D σ H->wpAny (model X.prog X.w) X.A (exec st X.env) (SP X pins D) X.xe s
noncomputable def C4 (X:Cx)(st:List Stmt)(t:TS):Prop :=
 ∀ (pins:List (Addr × Obj))(s:Shared)(σ:St)(H:Hp)(D:jD),Inv X pins σ H s->t D σ H->wpAny (model X.prog X.w) X.A (execs st X.env) (SP X pins D) X.xe s
theorem aS {α:Type}{t:Sem α}{Q Q':α->Shared->Prop}{M:Model}{A:Around}{E:Value->Shared->Prop}{s:Shared}(h:wpAny M A t Q E s)(hQ:∀ a s,Q a s->Q' a s):wpAny M A t Q' E s:=wpAny_mono h hQ fun _ _ x=>x
end L2
namespace L2
open PySem PySem.Spec PyProof.Rows
section
variable {X:Cx}
noncomputable def qa (i:Nat):TE:=fun σ H Q=>∃ v,σ[i]? = some (some v)/\Q v H
noncomputable def tC (v:V):TE:=fun _ H Q=>Q v H
theorem xL {i:Nat}{x:Str}{pos:Pos}(hN:X.N[i]? = some x)(hv:MN X.env.scope x)(hd:(x == ("__debug__":Str))=false:=by decide)(C5:(x == ("__classdict__":Str))=false:=by decide):PE X (.Name x pos) (qa i):=by
 intro pins s σ H Q I h
 obtain⟨v,e,h⟩:=h
 obtain⟨m,hn,hl⟩:=I.loc
 obtain⟨u,r,l⟩:=hl i x v hN e hv
 have fin:EP X pins σ Q u s:=⟨v,H,I,r,h⟩
 rcases l with ⟨hk,hm⟩ | ⟨hk,c,hc,B5⟩
 ·exact wpAny_Name (wpAny_loadName_local I.ok.kind hk hn hm fin) hd
 ·rcases hk with hk | hk
  ·exact wpAny_Name (wpAny_loadName_cell I.ok.kind hk hc B5 fin) hd
  ·exact wpAny_Name (wpAny_loadName_free I.ok.kind hk hc B5 fin C5) hd
theorem ak {i j pos}:PE X (.Constant (.int i) j pos) (tC (.int i)):=fun _ _ _ H _ I h=>wpAny_Constant_int ⟨.int i,H,I.tok _,⟨_,rfl⟩,h⟩
theorem ji {b j pos}:PE X (.Constant (.bool b) j pos) (tC (.bl b)):=fun _ _ _ H _ I h=>Constant_bool ⟨.bl b,H,I,rfl,h⟩
theorem cx {j pos}:PE X (.Constant .none j pos) (tC .zt):=fun _ _ _ H _ I h=>Constant_none ⟨.zt,H,I,rfl,h⟩
theorem bu {x j pos}:PE X (.Constant (.str x) j pos) (tC (.str x)):=fun _ _ _ H _ I h=>Calls.Constant_str ⟨.str x,H,I.tok _,⟨_,rfl⟩,h⟩
noncomputable def Gl (X:Cx)(x:Str):Prop:=X.env.kindOf x=some .globalImplicit
theorem gS {E:Value->Shared->Prop}{pins:List (Addr × Obj)}{s:Shared}{σ:St}{H:Hp}{x:Str}{u:Value}{pos:Pos}{Q:Value->Shared->Prop}(I:Inv X pins σ H s)(hg:Gl X x)(hm:X.mg x=some u)(h:Q u s)
  (hd:(x == ("__debug__":Str))=false:=by decide):wpAny (model X.prog X.w) X.A (eval (.Name x pos) X.env) Q E s :=
 Calls.Name_function_global I.ok.kind hg (Calls.loadGlobal_global (by rw[I.ok.glob];exact I.mod.glob.keeps I.bk) hm h) hd
theorem io {E:Value->Shared->Prop}{pins:List (Addr × Obj)}{s:Shared}{σ:St}{H:Hp}{x:Str}{u:Value}{pos:Pos}{Q:Value->Shared->Prop}(I:Inv X pins σ H s)(hg:Gl X x)(hm:X.mg x=none)(hv:bootBuiltins x=some u)(h:Q u s)
  (hn:x ≠ "__name__":=by decide) (hd:(x == ("__debug__":Str))=false:=by decide):wpAny (model X.prog X.w) X.A (eval (.Name x pos) X.env) Q E s:=by
 obtain⟨mb,h1,h2⟩:=I.mod.blt
 exact Calls.Name_function_global I.ok.kind hg (Calls.loadGlobal_builtin (by rw[I.ok.glob];exact I.mod.glob.keeps I.bk) hm (by rw[I.ok.blt];exact h1.keeps I.bk) ((h2 x hn).trans hv) h) hd
theorem e8 {x:Str}{v:V}{u:Value}{pos:Pos}(hg:Gl X x)(hm:X.mg x=some u)(r:RelV v u)(hd:(x == ("__debug__":Str))=false:=by decide):PE X (.Name x pos) (tC v) :=
 fun _ _ _ H _ I h=>gS I hg hm ⟨v,H,I,r,h⟩ hd
theorem fJ {x:Str}{v:V}{u:Value}{pos:Pos}(hg:Gl X x)(hm:X.mg x=none)(hv:bootBuiltins x=some u)(r:RelV v u)(hn:x ≠ "__name__":=by decide)(hd:(x == ("__debug__":Str))=false:=by decide):PE X (.Name x pos) (tC v) :=
 fun _ _ _ H _ I h=>io I hg hm hv ⟨v,H,I,r,h⟩ hn hd
variable {a b:Expr}{ta tb:TE}{pos:Pos}
noncomputable def PC (X:Cx)(op:CmpOp)(a b:Expr)(t:TE):Prop :=
 ∀ (pins:List (Addr × Obj))(s:Shared)(σ:St)(H:Hp)(Q:VK),Inv X pins σ H s->t σ H Q ->
  wpAny (model X.prog X.w) X.A (eval a X.env) (fun v s₁=>wpAny (model X.prog X.w) X.A (eval b X.env) (fun u s₂=>wpAny (model X.prog X.w) X.A (compareOp op v u) (EP X pins σ Q) X.xe s₂) X.xe s₁) X.xe s
noncomputable def tB (t:TE):TT:=fun σ H Q=>t σ H fun x H1=>∃ c,x = .bl c/\Q c H1
theorem sM {op:CmpOp}{t:TE}(h:PC X op a b t)(h1:behindInMarks op b=false:=by first | exact IQ _ (by decide) (by decide) | rfl):PT X (.Compare a [op] [b] pos) (tB t):=by
 intro pins s σ H Q I hw
 refine wpAny_isTrue_Compare1 (aS (h pins s σ H _ I hw) fun v s1 h1=>aS h1 fun u s2 h2=>aS h2 fun c s3 ⟨x,H1,I1,r1,q1⟩=>?_) h1
 obtain⟨d,rfl,q⟩:=q1
 cases r1
 exact wpAny_truthy_bool ⟨H1,I1,q⟩
theorem bF {e:Expr}{t:TE}(h:PE X e t)(he:∀ whole,isTrue e X.env whole=(do let v ← whole;standAt e.pos;holding [v] (truthy v)):=by intro _;rfl):PT X e (tB t):=by
 intro pins s σ H Q I hw
 refine isTrue_plain (aS (h pins s σ H _ I hw) fun v s1 ⟨x,H1,I1,r1,q1⟩=>?_) (he _)
 obtain⟨d,rfl,q⟩:=q1
 cases r1
 exact wpAny_truthy_bool ⟨H1,I1,q⟩
variable {tA MS:TT}{rest:List Expr}
noncomputable def O0 (t u:TT):TT:=fun σ H Q=>t σ H fun c H1=>if c=true then u σ H1 Q else Q false H1
noncomputable def tOr (t u:TT):TT:=fun σ H Q=>t σ H fun c H1=>if c=true then Q true H1 else u σ H1 Q
noncomputable def O2 (t:TT):TT:=fun σ H Q=>t σ H fun c H1=>Q (!c) H1
theorem iG (ha:PT X a tA):PW X (.BoolOp .And [a] pos) tA:=by
 intro wh pins s σ H Q I h
 refine isTrue_and (aS (ha pins s σ H Q I h) fun c s1 e=>?_)
 cases c with
 | true=>exact isTrue_and_nil e
 | false=>exact e
theorem eP (ha:PT X a tA):PW X (.BoolOp .Or [a] pos) tA:=by
 intro wh pins s σ H Q I h
 refine isTrue_or (aS (ha pins s σ H Q I h) fun c s1 e=>?_)
 cases c with
 | false=>exact isTrue_or_nil e
 | true=>exact e
theorem kN (ha:PT X a tA)(hb:PW X (.BoolOp .And (b :: rest) pos) MS):PW X (.BoolOp .And (a :: b :: rest) pos) (O0 tA MS):=by
 intro wh pins s σ H Q I h
 refine isTrue_and (aS (ha pins s σ H _ I h) fun c s1 ⟨H1,I1,q1⟩=>?_)
 cases c with
 | true=>exact hb wh pins s1 σ H1 Q I1 q1
 | false=>exact⟨H1,I1,q1⟩
theorem i3 (ha:PT X a tA)(hb:PW X (.BoolOp .Or (b :: rest) pos) MS):PW X (.BoolOp .Or (a :: b :: rest) pos) (tOr tA MS):=by
 intro wh pins s σ H Q I h
 refine isTrue_or (aS (ha pins s σ H _ I h) fun c s1 ⟨H1,I1,q1⟩=>?_)
 cases c with
 | true=>exact⟨H1,I1,q1⟩
 | false=>exact hb wh pins s1 σ H1 Q I1 q1
theorem bZ (ha:PT X a tA):PT X (.UnaryOp .Not a pos) (O2 tA):=by
 intro pins s σ H Q I h
 exact isTrue_not (ha pins s σ H (fun c H1=>Q (!c) H1) I h)
noncomputable def IS (ta tb:TE):TE:=fun σ H Q=>ta σ H fun x H1=>∃ c,x = .bl c/\if c=true then tb σ H1 Q else Q (.bl false) H1
noncomputable def O3 (ta tb:TE):TE:=fun σ H Q=>ta σ H fun x H1=>∃ c,x = .bl c/\if c=true then Q (.bl true) H1 else tb σ H1 Q
noncomputable def IT (ta:TE):TE:=fun σ H Q=>ta σ H fun x H1=>∃ c,x = .bl c/\Q (.bl (!c)) H1
theorem dA {op} {t:TE} (h:PE X a t):PE X (.BoolOp op [a] pos) t:=fun pins s σ H Q I hw=>BoolOp_one (h pins s σ H Q I hw)
theorem dB (ha:PE X a ta)(hb:PE X (.BoolOp .And (b :: rest) pos) tb):PE X (.BoolOp .And (a :: b :: rest) pos) (IS ta tb):=by
 intro pins s σ H Q I h
 refine BoolOp_and (aS (ha pins s σ H _ I h) fun v s1 ⟨x,H1,I1,r1,q1⟩=>?_)
 obtain⟨c,rfl,q1⟩:=q1
 cases r1
 refine wpAny_truthy_bool ?_
 cases c with
 | true=>exact hb pins s1 σ H1 Q I1 q1
 | false=>exact⟨.bl false,H1,I1,rfl,q1⟩
theorem IU (ha:PE X a ta)(hb:PE X (.BoolOp .Or (b :: rest) pos) tb):PE X (.BoolOp .Or (a :: b :: rest) pos) (O3 ta tb):=by
 intro pins s σ H Q I h
 refine BoolOp_or (aS (ha pins s σ H _ I h) fun v s1 ⟨x,H1,I1,r1,q1⟩=>?_)
 obtain⟨c,rfl,q1⟩:=q1
 cases r1
 refine wpAny_truthy_bool ?_
 cases c with
 | false=>exact hb pins s1 σ H1 Q I1 q1
 | true=>exact⟨.bl true,H1,I1,rfl,q1⟩
theorem sQ (ha:PE X a ta):PE X (.UnaryOp .Not a pos) (IT ta):=by
 intro pins s σ H Q I h
 refine UnaryOp_ (aS (ha pins s σ H _ I h) fun v s1 ⟨x,H1,I1,r1,q1⟩=>?_)
 obtain⟨c,rfl,q1⟩:=q1
 cases r1
 exact not_of (wpAny_truthy_bool ⟨.bl (!c),H1,I1,rfl,q1⟩)
noncomputable def tIf (t:TT)(ta tb:TE):TE:=fun σ H Q=>t σ H fun c H1=>if c=true then ta σ H1 Q else tb σ H1 Q
theorem cK {c:Expr}(hc:PT X c tA)(ha:PE X a ta)(hb:PE X b tb):PE X (.IfExp c a b pos) (tIf tA ta tb):=by
 intro pins s σ H Q I h
 refine wpAny_IfExp (aS (hc pins s σ H _ I h) fun d s1 ⟨H1,I1,q1⟩=>?_)
 cases d with
 | true=>exact ha pins s1 σ H1 Q I1 q1
 | false=>exact hb pins s1 σ H1 Q I1 q1
end
end L2
namespace L2
open PySem PySem.Spec PyProof.Rows
noncomputable def zf (K:Frag)(H:Hp)(a:Addr)(xs:List V):Prop :=
 Rd H a (.lst xs) ∨
  ∃ (o:Obj)(ze:Array Value)(n:Nat),K.lookup a=some o/\o.cls = .type "list"/\o.dict=none/\o.data = .seq ze n/\ze.size <= sizeLine/\Vals xs ze.toList
noncomputable def zh (K:Frag)(H:Hp)(a:Addr)(xs:List V):Prop :=
 Rd H a (.tup xs) ∨
  ∃ (o:Obj)(ze:Array Value)(n:Nat),K.lookup a=some o/\o.cls = .type "tuple"/\o.data = .seq ze n/\ze.size <= sizeLine/\Vals xs ze.toList
noncomputable def O4:Value->Option V
 | .none=>some .zt
 | .bool b=>some (.bl b)
 | .int i _=>some (.int i)
 | .str x _=>some (.str x)
 | .bytes b _=>some (.CL b)
 | .float b _=>some (.Gu b)
 | .ref a=>some (.ref a)
 | .type n=>some (.ty n)
 | _=>none
theorem RelV.abs {x:V}{u:Value}(r:RelV x u):O4 u=some x:=by
 cases x with
 | zt=>cases r;rfl
 | bl _=>cases r;rfl
 | int _=>obtain⟨t,rfl⟩:=r;rfl
 | str _=>obtain⟨t,rfl⟩:=r;rfl
 | CL _=>obtain⟨t,rfl⟩:=r;rfl
 | Gu _=>obtain⟨t,rfl⟩:=r;rfl
 | ref _=>cases r;rfl
 | ty _=>cases r;rfl
theorem RelV.inj {x y:V}{u:Value}(r:RelV x u)(q:RelV y u):x=y:=Option.some.inj (r.abs.symm.trans q.abs)
theorem Vals.inj:∀ {xs ys:List V}{us:List Value},Vals xs us->Vals ys us->xs=ys
 | _,_,_, .nil, .nil=>rfl
 | _,_,_, .cons r t, .cons r' t'=>by rw[r.inj r',Vals.inj t t']
section
variable {X:Cx}{pins:List (Addr × Obj)}{σ:St}{H:Hp}{s:Shared}{a:Addr}{xs ys:List V}
theorem zf.of {K:Frag}(h:H a=some (.lst xs)):zf K H a xs := .inl (.inl h)
theorem zh.of {K:Frag}(h:H a=some (.tup xs)):zh K H a xs := .inl (.inl h)
theorem Inv.list (I:Inv X pins σ H s)(h:zf X.K H a xs):∃ ze:List Value,Vals xs ze/\PlainL s.heap a ze.toArray/\xs.length <= sizeLine:=by
 rcases h with h | ⟨o,ze,n,hk,hc,hd,hs,hz,r⟩
 ·obtain⟨z,ze,n,r,e⟩:=h.ok I.zg
  exact⟨ze,r,⟨_,n,e,rfl,rfl,rfl⟩,z⟩
 ·refine⟨ze.toList,r,⟨o,n,I.zZ a o hk,hc,hd,by simpa using hs⟩,?_⟩
  have e:=r.length
  simp only[Array.length_toList]at e
  omega
theorem Inv.tuple (I:Inv X pins σ H s)(h:zh X.K H a xs):∃ ze:List Value,Vals xs ze/\IsTup s.heap a ze.toArray/\xs.length <= sizeLine:=by
 rcases h with h | ⟨o,ze,n,hk,hc,hs,hz,r⟩
 ·obtain⟨z,ze,r,p⟩:=h.ok I.zg
  exact⟨ze,r,p.isTup,z⟩
 ·refine⟨ze.toList,r,⟨o,I.zZ a o hk,hc,n,by simpa using hs⟩,?_⟩
  have e:=r.length
  simp only[Array.length_toList]at e
  omega
theorem Inv.Cc (I:Inv X pins σ H s)(h:zf X.K H a xs)(h':zf X.K H a ys):xs=ys:=by
 obtain⟨ze,r,⟨o,n,e,_,_,d⟩,_⟩:=I.list h
 obtain⟨its',r',⟨o',n',e',_,_,d'⟩,_⟩:=I.list h'
 rw[e]at e';cases e'
 rw[d]at d'
 injection d' with d1 _
 have:ze=its':=by simpa using congrArg Array.toList d1
 subst this
 exact r.inj r'
theorem Inv.B6 (I:Inv X pins σ H s)(h:zh X.K H a xs)(h':zh X.K H a ys):xs=ys:=by
 obtain⟨ze,r,⟨o,e,_,n,d⟩,_⟩:=I.tuple h
 obtain⟨its',r',⟨o',e',_,n',d'⟩,_⟩:=I.tuple h'
 rw[e]at e';cases e'
 rw[d]at d'
 injection d' with d1 _
 have:ze=its':=by simpa using congrArg Array.toList d1
 subst this
 exact r.inj r'
end
abbrev Cx.Bz (X:Cx)(E:Value->Shared->Prop):Cx:={ X with xe:=E }
abbrev Cx.MT (X:Cx):Cx:=X.Bz fun _ _=>False
theorem Cx.Ok.Bz {X:Cx}(ok:X.Ok)(E:Value->Shared->Prop):(X.Bz E).Ok :=
 ⟨ok.mod,ok.kind,ok.glob,ok.blt,ok.above,ok.inj,ok.has,ok.IL,ok.hd,ok.frames,ok.MO,ok.TL,ok.bs,ok.Ey,ok.DC,ok.Ez,ok.Bf,ok.Gz⟩
theorem Cx.Ok.Af {X:Cx}{E:Value->Shared->Prop}(ok:(X.Bz E).Ok):X.Ok :=
 ⟨ok.mod,ok.kind,ok.glob,ok.blt,ok.above,ok.inj,ok.has,ok.IL,ok.hd,ok.frames,ok.MO,ok.TL,ok.bs,ok.Ey,ok.DC,ok.Ez,ok.Bf,ok.Gz⟩
section
variable {X:Cx}{pins:List (Addr × Obj)}{σ:St}{H:Hp}{s:Shared}{E:Value->Shared->Prop}
theorem Inv.Bz (I:Inv X pins σ H s)(E:Value->Shared->Prop):Inv (X.Bz E) pins σ H s:=⟨I.ok.Bz E,I.os,I.bare,I.base,I.loc,I.cell,I.free,I.zQ,I.pin,I.zg,I.len⟩
theorem Inv.Af (I:Inv (X.Bz E) pins σ H s):Inv X pins σ H s:=⟨I.ok.Af,I.os,I.bare,I.base,I.loc,I.cell,I.free,I.zQ,I.pin,I.zg,I.len⟩
theorem SP.Af {D:jD}{f:Flow}{s':Shared}(h:SP (X.Bz E) pins D f s'):SP X pins D f s':=by
 cases f with
 | next=>obtain⟨σ',H',I,q⟩:=h;exact⟨σ',H',I.Af,q⟩
 | brk=>obtain⟨σ',H',I,q⟩:=h;exact⟨σ',H',I.Af,q⟩
 | cont=>obtain⟨σ',H',I,q⟩:=h;exact⟨σ',H',I.Af,q⟩
 | ret u=>obtain⟨v,σ',H',I,r,q⟩:=h;exact⟨v,σ',H',I.Af,r,q⟩
theorem C4.MT {st:List Stmt}{t:TS}(h:C4 X.MT st t):C4 X st t:=fun pins s σ H D I hw =>
 wpAny_mono (h pins s σ H D (I.Bz _) hw) (fun _ _ q=>q.Af) fun _ _ z=>False.elim z
end
section
variable {X:Cx}{st:Stmt}{rest:List Stmt}{t u:TS}{e:Expr}{te:TE}{pos:Pos}
noncomputable def IV:TS:=fun D σ H=>D.nx σ H
noncomputable def O5 (t u:TS):TS:=fun D σ H=>t { D with nx:=u D } σ H
theorem aI:C4 X [] IV:=fun _ _ σ H _ I h=>wpAny_execs_nil ⟨σ,H,I,h⟩
theorem af (h1:PS X st t)(h2:C4 X rest u):C4 X (st :: rest) (O5 t u):=by
 intro pins s σ H D I h
 refine wpAny_execs_cons (aS (h1 pins s σ H { D with nx:=u D } I h) fun f s1 q=>?_)
 cases f with
 | next =>
  obtain⟨σ',H',I',q⟩:=q
  exact h2 pins s1 σ' H' D I' q
 | ret v=>exact q
 | brk=>exact q
 | cont=>exact q
theorem ai (h1:PS X st t):C4 X [st] t:=by
 intro pins s σ H D I h
 refine wpAny_execs_cons (aS (h1 pins s σ H D I h) fun f s1 q=>?_)
 cases f with
 | next=>exact wpAny_execs_nil q
 | ret v=>exact q
 | brk=>exact q
 | cont=>exact q
theorem Inv.quiet {pins:List (Addr × Obj)}{σ:St}{H:Hp}{s:Shared}(I:Inv X pins σ H s):interactive X.env=false:=by simp[interactive,I.ok.kind]
noncomputable def IW (te:TE):TS:=fun D σ H=>te σ H fun _ H1=>D.nx σ H1
theorem aQ (he:PE X e te)(hs:swapsWith e none pos.line X.env=pure false:=by rfl):PS X (.Expr e pos) (IW te):=by
 intro pins s σ H D I h
 exact wpAny_Expr_any (aS (he pins s σ H _ I h) fun v s1 ⟨x,H1,I1,r1,q1⟩=>⟨σ,H1,I1,q1⟩) I.quiet hs
noncomputable def O6 (te:TE):TS:=fun D σ H=>te σ H D.rt
theorem ar (he:PE X e te):PS X (.Return (some e) pos) (O6 te):=by
 intro pins s σ H D I h
 exact wpAny_Return_some (aS (he pins s σ H _ I h) fun v s1 ⟨x,H1,I1,r1,q1⟩=>⟨x,σ,H1,I1,r1,q1⟩)
noncomputable def O7 (c:TT)(t u:TS):TS:=fun D σ H=>c σ H fun b H1=>if b=true then t D σ H1 else u D σ H1
theorem aO {c:Expr}{a b:List Stmt}{tc:TT}(hc:PT X c tc)(ha:C4 X a t)(hb:C4 X b u):PS X (.If c a b pos) (O7 tc t u):=by
 intro pins s σ H D I h
 refine wpAny_If (aS (hc pins s σ H _ I h) fun d s1 ⟨H1,I1,q1⟩=>?_)
 cases d with
 | true=>exact ha pins s1 σ H1 D I1 q1
 | false=>exact hb pins s1 σ H1 D I1 q1
end
abbrev TG:=V->St->Hp->(St->Hp->Prop)->Prop
abbrev yU:=List V->St->Hp->(St->Hp->Prop)->Prop
noncomputable def PG (X:Cx)(target:Expr)(t:TG):Prop :=
 ∀ (pins:List (Addr × Obj))(s:Shared)(σ:St)(H:Hp)(v:V)(u:Value)(Q:St->Hp->Prop),Inv X pins σ H s->RelV v u->t v σ H Q ->
  wpAny (model X.prog X.w) X.A (assign target X.env u) (fun _ s'=>∃ σ' H',Inv X pins σ' H' s'/\Q σ' H') X.xe s
noncomputable def MU (X:Cx)(ts:List Expr)(t:yU):Prop :=
 ∀ (pins:List (Addr × Obj))(s:Shared)(σ:St)(H:Hp)(vs:List V)(us:List Value)(Q:St->Hp->Prop),Inv X pins σ H s->Vals vs us->t vs σ H Q ->
  wpAny (model X.prog X.w) X.A (assignInOrder ((assignEach ts X.env).map (·.2)) us) (fun _ s'=>∃ σ' H',Inv X pins σ' H' s'/\Q σ' H') X.xe s
abbrev yT:=V->V->V->Hp->(Hp->Prop)->Prop
noncomputable def IX (X:Cx)(t:yT):Prop :=
 ∀ (pins:List (Addr × Obj))(s:Shared)(σ:St)(H:Hp)(o i v:V)(ov iv u:Value)(Q:Hp->Prop),Inv X pins σ H s->RelV o ov->RelV i iv->RelV v u->t o i v H Q ->
  wpAny (model X.prog X.w) X.A (setItem ov iv u) (fun _ s'=>∃ H',Inv X pins σ H' s'/\Q H') X.xe s
abbrev MV:=V->V->Hp->VK->Prop
noncomputable def TU (X:Cx)(op:Operator)(t:MV):Prop :=
 ∀ (pins:List (Addr × Obj))(s:Shared)(σ:St)(H:Hp)(x y:V)(v u:Value)(Q:VK),Inv X pins σ H s->RelV x v->RelV y u->t x y H Q ->
  wpAny (model X.prog X.w) X.A (inplaceOp op v u) (EP X pins σ Q) X.xe s
section
variable {X:Cx}{pos:Pos}
noncomputable def cU (i:Nat):TG:=fun v σ H Q=>Q (σ.set i (some v)) H
theorem ay {i:Nat}{x:Str}(hN:X.N.Nodup)(hi:X.N[i]? = some x)(hx:Loc X.env.scope x)(hf:X.fn x=true∨X.env.scope.names.lookup x=some .local:=by first | exact .inl rfl | exact .inr rfl | assumption):PG X (.Name x pos) (cU i):=by
 intro pins s σ H v u Q I r h
 exact wpAny_assign_Name (iW I hN hi hx r (fun s' I'=>⟨_,H,I',h⟩) hf)
noncomputable def O8:yU:=fun vs σ H Q=>vs=[]/\Q σ H
noncomputable def IY (t:TG)(u:yU):yU:=fun vs σ H Q=>∃ v r,vs=v :: r/\t v σ H fun σ' H'=>u r σ' H' Q
theorem fH:MU X [] O8:=by
 intro pins s σ H vs us Q I r h
 obtain⟨e,h⟩:=h
 subst e
 cases r
 exact assignInOrder_nil ⟨σ,H,I,h⟩
theorem bJ {e:Expr}{es:List Expr}{t:TG}{u:yU}(h1:PG X e t)(h2:MU X es u)
  (hs:(assignEach (e :: es) X.env).map (·.2)=assign e X.env :: (assignEach es X.env).map (·.2):=by rfl):MU X (e :: es) (IY t u):=by
 intro pins s σ H vs us Q I r h
 obtain⟨v,vr,e1,h⟩:=h
 subst e1
 cases r with
 | cons r rr =>
  rw[hs]
  refine assignInOrder_cons (aS (h1 pins s σ H _ _ _ I r h) fun _ s1 ⟨σ1,H1,I1,q1⟩=>?_)
  exact h2 pins s1 σ1 H1 _ _ Q I1 rr q1
noncomputable def wb (K:Frag)(n:Nat)(t:yU):TG:=fun v σ H Q=>∃ a xs,v = .ref a/\zh K H a xs/\xs.length=n/\t xs σ H Q
theorem hZ {es:List Expr}{k:Nat}{t:yU}{n:Nat}(hc:X.calm=true)(h:MU X es t)
  (hn:(assignEach es X.env).length=n:=by rfl) (B0:(assignEach es X.env).findIdx? (·.1)=none:=by rfl):PG X (.Tuple es k pos) (wb X.K n t):=by
 intro pins s σ H v u Q I r hw
 obtain⟨a,xs,e1,hq,hl,hw⟩:=hw
 subst e1
 cases r
 obtain⟨ze,rv,ht,hz⟩:=I.tuple hq
 refine assign_Tuple_tuple (I.ok.hd hc) ht (by simp[hn,← hl,rv.length]) B0 fun h' hx=>?_
 have I1:Inv X pins σ H { s with heap:=h' }:=I.kept (t':=s.toks) fun b o e=>hx b o (ne_of_lt (lt_size e)) e
 exact h pins _ σ H xs _ Q I1 (by simpa using rv) hw
noncomputable def O9 (to ti:TE)(t:yT):TG:=fun v σ H Q=>to σ H fun o H1=>ti σ H1 fun i H2=>t o i v H2 fun H3=>Q σ H3
theorem nN {o i:Expr}{to ti:TE}{t:yT}(ho:PE X o to)(hi:PE X i ti)(hs:IX X t)
  (ha:∀ v,assign (.Subscript o i pos) X.env v=(do
   let ov ← holding [v] (eval o X.env)
   let iv ← holding [v,ov] (eval i X.env)
   standAt pos
   holding [v,ov,iv] (setItem ov iv v)
   release [v,ov,iv] []):=by intro _;rfl):PG X (.Subscript o i pos) (O9 to ti t):=by
 intro pins s σ H v u Q I r h
 rw[ha]
 refine wpAny_bind (wpAny_holding (aS (ho pins s σ H _ I h) fun ov s1 ⟨x,H1,I1,r1,q1⟩=>?_))
 refine wpAny_bind (wpAny_holding (aS (hi pins s1 σ H1 _ I1 q1) fun iv s2 ⟨y,H2,I2,r2,q2⟩=>?_))
 refine wpAny_bind (wpAny_standAt (wpAny_bind (wpAny_holding (aS (hs pins s2 σ H2 x y v ov iv u _ I2 r1 r2 r q2) fun _ s3 ⟨H3,I3,q3⟩=>?_))))
 exact wpAny_release ⟨σ,H3,I3,q3⟩
noncomputable def xk (te:TE)(g:TG):TS:=fun D σ H=>te σ H fun x H1=>g x σ H1 D.nx
theorem kP {tg e:Expr}{te:TE}{g:TG}(he:PE X e te)(hg:PG X tg g)(hs:swapsWithSole [tg] e pos.line X.env=pure false:=by rfl)(hw:swappedStores [tg] e X.env=pure none:=by rfl)
  (h1:(assignEach [tg] X.env).map (·.2)=[assign tg X.env]:=by rfl):PS X (.Assign [tg] e pos) (xk te g):=by
 intro pins s σ H D I h
 refine wpAny_Assign_stores (aS (he pins s σ H _ I h) fun v s1 ⟨x,H1,I1,r1,q1⟩=>?_) hs hw
 rw[h1]
 exact aS (hg pins s1 σ H1 x v _ I1 r1 q1) fun _ s2 q=>q
theorem aD {i:Nat}{x:Str}{e:Expr}{te:TE}{pos':Pos}(hN:X.N.Nodup)(hi:X.N[i]? = some x)(hx:Loc X.env.scope x)(he:PE X e te)(hs:swapsWith e (some (.Name x pos')) pos.line X.env=pure false:=by rfl)(hf:X.fn x=true∨X.env.scope.names.lookup x=some .local:=by first | exact .inl rfl | exact .inr rfl | assumption) :
  PS X (.Assign [.Name x pos'] e pos) (xk te (cU i)):=by
 intro pins s σ H D I h
 refine wpAny_Assign_Name (aS (he pins s σ H _ I h) fun v s1 ⟨y,H1,I1,r1,q1⟩=>?_) hs
 exact iW I1 hN hi hx r1 (fun s2 I2=>⟨_,H1,I2,q1⟩) hf
noncomputable def OA (i:Nat)(te:TE)(ti:MV):TS:=fun D σ H=>∃ x,σ[i]? = some (some x)/\te σ H fun y H1=>ti x y H1 fun z H2=>D.nx (σ.set i (some z)) H2
theorem xK {i:Nat}{x:Str}{e:Expr}{te:TE}{op:Operator}{ti:MV}{pos':Pos}(hN:X.N.Nodup)(hi:X.N[i]? = some x)(hx:Loc X.env.scope x)(he:PE X e te)(ho:TU X op ti)(hf:X.fn x=true∨X.env.scope.names.lookup x=some .local:=by first | exact .inl rfl | exact .inr rfl | assumption) :
  PS X (.AugAssign (.Name x pos') op e pos) (OA i te ti):=by
 intro pins s σ H D I h
 obtain⟨v,e1,h⟩:=h
 obtain⟨m,hn,hl⟩:=I.loc
 have vis:MN X.env.scope x:=by rcases hx with k | k;exact .inl k;exact .inr (.inl k)
 obtain⟨u,r,l⟩:=hl i x v hi e1 vis
 refine wpAny_AugAssign_Name ?_
 have go:wpAny (model X.prog X.w) X.A (eval e X.env) (fun w s₂=>wpAny (model X.prog X.w) X.A (inplaceOp op u w) (fun r s₃=>wpAny (model X.prog X.w) X.A (storeName X.env x r) (fun _=>SP X pins D .next) X.xe s₃) X.xe s₂) X.xe s:=by
  refine aS (he pins s σ H _ I h) fun w s1 ⟨y,H1,I1,r1,q1⟩=>?_
  refine aS (ho pins s1 σ H1 v y u w _ I1 r r1 q1) fun z s2 ⟨zv,H2,I2,r2,q2⟩=>?_
  exact iW I2 hN hi hx r2 (fun s3 I3=>⟨_,H2,I3,q2⟩) hf
 rcases l with ⟨hk,hm⟩ | ⟨hk,c,hc,B5⟩
 ·exact wpAny_loadName_local I.ok.kind hk hn hm go
 ·rcases hk with hk | hk
  ·exact wpAny_loadName_cell I.ok.kind hk hc B5 go
  ·rcases hx with k | k
   ·have:X.env.scope.names.lookup x=some .free:=hk
    rw[k]at this;cases this
   ·have:X.env.scope.names.lookup x=some .free:=hk
    rw[k]at this;cases this
noncomputable def ipI (f:Int->Int->Int):MV:=fun x y H Q=>∃ i j,x = .int i/\y = .int j/\Q (.int (f i j)) H
theorem yA:TU X .Add (ipI fun i j=>i + j):=by
 intro pins s σ H x y v u Q I r1 r2 h
 obtain⟨i,j,e1,e2,q⟩:=h
 subst e1;subst e2
 obtain⟨t,rfl⟩:=r1
 obtain⟨t',rfl⟩:=r2
 exact iadd_int ⟨.int _,H,I.tok _,⟨_,rfl⟩,q⟩
end
section
variable {X:Cx}{pos:Pos}
noncomputable def rh (c:TT)(tb:TS):TS:=fun D σ H=>∃ W:Nat->St->Hp->Prop,(∃ m,W m σ H)/\∀ m σ H,W m σ H ->
 c σ H fun b H1=>if b=true then ∃ N:St->Hp->Prop,(∀ σ' H',N σ' H'->∃ m',m' < m/\W m' σ' H')/\tb { D with nx:=N,ct:=N,bk:=D.nx } σ H1 else D.nx σ H1
theorem lN {c:Expr}{body:List Stmt}{tc:TT}{tb:TS}(hp:PassesOwn (model X.prog X.w) X.A X.env X.xe)(hc:PT X c tc)(hb:C4 X body tb):PS X (.While c body [] pos) (rh tc tb):=by
 intro pins s σ H D I h
 obtain⟨W,⟨m0,w0⟩,turn⟩:=h
 refine wpAny_While (codeAny_whileLoop (fun n s'=>∃ σ' H',Inv X pins σ' H' s'/\W n σ' H') ?_ m0 ⟨σ,H,I,w0⟩)
 rintro n s1 ⟨σ1,H1,I1,w1⟩
 refine wpAny_passesOwn hp (aS (hc pins s1 σ1 H1 _ I1 (turn n σ1 H1 w1)) fun b s2 ⟨H2,I2,q2⟩=>?_)
 cases b with
 | true =>
  obtain⟨N,hN,q2⟩:=q2
  rw[if_pos rfl]
  refine wpAny_passesOwn hp (aS (hb pins s2 σ1 H2 _ I2 q2) fun f s3 q3=>?_)
  cases f with
  | next =>
   obtain⟨σ3,H3,I3,n3⟩:=q3
   obtain⟨m',hm,w3⟩:=hN σ3 H3 n3
   exact⟨m',hm,σ3,H3,I3,w3⟩
  | cont =>
   obtain⟨σ3,H3,I3,n3⟩:=q3
   obtain⟨m',hm,w3⟩:=hN σ3 H3 n3
   exact⟨m',hm,σ3,H3,I3,w3⟩
  | brk=>exact q3
  | ret v=>exact q3
 | false =>
  rw[if_neg Bool.false_ne_true]
  exact wpAny_execs_nil ⟨σ1,H2,I2,q2⟩
end
structure It where
 go:Nat->Hp->Prop
 Ef:Nat->Hp->V->Hp->Prop
 stop:Nat->Hp->Prop
noncomputable def fT (X:Cx)(pins:List (Addr × Obj))(H:Hp)(b:Addr):Prop :=
 H b=none/\b ≠ X.env.locals/\b ∉ X.fs/\(b ∈ X.ex∨X.s₀.heap.objs.size <= b)/\(∀ x c,X.env.cells.lookup x=some c->c ≠ b)/\∀ p ∈ X.pn ++ pins,p.1 ≠ b
theorem Inv.CZ {X:Cx}{pins:List (Addr × Obj)}{σ:St}{H H':Hp}{s:Shared}{b:Addr}(I:Inv X pins σ H s)(hb:s.heap.objs.size <= b)(hn:H' b=none):fT X pins H' b:=by
 refine⟨hn,ne_of_gt (lt_of_lt_of_le I.lt hb),I.Ov hb, .inr (le_trans I.sz hb),fun x c e z=>?_,fun p hp z=>?_⟩
 ·obtain⟨v,q⟩:=I.cell x c e
  exact absurd (lt_of_lt_of_le q.lt (by rw[z];exact hb)) (lt_irrefl _)
 ·exact absurd (lt_of_lt_of_le (lt_size (I.pin p hp).1) (by rw[z];exact hb)) (lt_irrefl _)
structure mX (P:Program)(w:World)(K:Frag)(tg:Expr)(J:It)(fp:List Addr)(it:Addr)(tn:Nat->Heap->Prop):Prop where
 mem:it ∈ fp
 obj:∀ i h,tn i h->∀ b ∈ fp,∃ o,h.get? b=some o/\∀ v,o.data ≠ .cell v
 keep:∀ i h h',tn i h->(∀ b ∈ fp,∀ o,h.get? b=some o->h'.get? b=some o)->tn i h'
 item:∀ (X:Cx),X.prog=P->X.w=w->X.K=K->X.calm=true->∀ (i:Nat)(pins:List (Addr × Obj))(s:Shared)(σ:St)(H:Hp)(E:Value->Shared->Prop),Inv X pins σ H s->(∀ b ∈ fp,fT X pins H b)->tn i s.heap->J.go i H ->
  wpAny (model P w) X.A (pyNext (.ref it)) (fun r s1=>∃ u,r=some u /\
   wpAny (model P w) X.A (letOwnedTupleGo tg (.ref it) u) (fun _ s2=>∃ x H',Inv X pins σ H' s2/\RelV x u/\J.Ef i H x H'/\tn (i + 1) s2.heap/\∀ b ∈ fp,H' b=none) E s1) E s
 done:∀ (X:Cx),X.prog=P->X.w=w->X.K=K->X.calm=true->∀ (i:Nat)(pins:List (Addr × Obj))(s:Shared)(σ:St)(H:Hp)(E:Value->Shared->Prop),Inv X pins σ H s->(∀ b ∈ fp,fT X pins H b)->tn i s.heap->J.stop i H ->
  wpAny (model P w) X.A (pyNext (.ref it)) (fun r s1=>r=none/\Inv X pins σ H s1) E s
 self:∀ (A:Around)(i:Nat)(s:Shared)(Q:Value->Shared->Prop)(E:Value->Shared->Prop),tn i s.heap->Q (.ref it) s->wpAny (model P w) A (pyIter (.ref it)) Q E s
abbrev TI:=St->Hp->(It->Hp->Prop)->Prop
noncomputable def TV (X:Cx)(pins:List (Addr × Obj))(σ:St)(tg:Expr)(R:It->Hp->Prop)(MW:Value)(s2:Shared):Prop :=
 ∃ (it:Addr)(fp:List Addr)(tn:Nat->Heap->Prop)(J:It)(H':Hp),MW = .ref it/\Inv X pins σ H' s2/\mX X.prog X.w X.K tg J fp it tn/\tn 0 s2.heap/\(∀ b ∈ fp,fT X pins H' b)/\R J H'
noncomputable def PI (X:Cx)(tg iter:Expr)(wi:TI):Prop :=
 ∀ (pins:List (Addr × Obj))(s:Shared)(σ:St)(H:Hp)(R:It->Hp->Prop),Inv X pins σ H s->wi σ H R ->
  wpAny (model X.prog X.w) X.A (eval iter X.env) (fun v s1=>wpAny (model X.prog X.w) X.A (pyIter v) (TV X pins σ tg R) X.xe s1) X.xe s
theorem pI {M:Model}{A:Around}{E:Value->Shared->Prop}{s:Shared}{tg:Expr}{it:Addr}{u:Value}{o:Obj}{n:String}{vs:Array Value}{Q:Unit->Shared->Prop}(ho:s.heap.get? it=some o)(hc:o.cls = .type n)(hd:o.data = .fields vs)
  (hn:["enumerate", "zip", "dict_itemiterator", "dict_reverseitemiterator", "odict_iterator", "itertools.zip_longest", "itertools.pairwise"].contains n=false) (hQ:Q () s):wpAny M A (letOwnedTupleGo tg (.ref it) u) Q E s:=by
 unfold letOwnedTupleGo
 cases tg<;>first
  | exact wpAny_pure hQ
  | (cases u<;>first
    | exact wpAny_pure hQ
    | (refine wpAny_bind (wpAny_load ho ?_)
       rw[hc,hd]
       show wpAny M A (if (["enumerate", "zip", "dict_itemiterator", "dict_reverseitemiterator", "odict_iterator", "itertools.zip_longest", "itertools.pairwise"].contains n && vs[0]? == some (rawInt _))=true then _ else _) Q E s
       rw[if_neg (by intro h;rw[hn,Bool.false_and]at h;cases h)]
       exact wpAny_pure hQ))
noncomputable def uA (K:Frag)(a:Addr):It :=
 ⟨fun i H=>∃ xs x,zf K H a xs/\xs[i]? = some x,fun i H x H'=>H' = H/\∀ xs,zf K H a xs->xs[i]? = some x,fun i H=>∃ xs,zf K H a xs/\xs.length <= i⟩
noncomputable def MX (K:Frag)(a:Addr):It :=
 ⟨fun i H=>∃ xs x,zh K H a xs/\xs[i]? = some x,fun i H x H'=>H' = H/\∀ xs,zh K H a xs->xs[i]? = some x,fun i H=>∃ xs,zh K H a xs/\xs.length <= i⟩
noncomputable def w6 (lo:Int)(n:Nat):It:=⟨fun i _=>i < n,fun i H x H'=>H' = H/\x = .int (lo + i),fun i _=>n <= i⟩
theorem pV {P:Program}{w:World}{K:Frag}{tg:Expr}(a it:Addr):mX P w K tg (uA K a) [it] it (fun i h=>h.IsListIter it a i) where
 mem:=by simp
 obj:=fun i h st b hb=>by
  have e:b=it:=by simpa using hb
  subst e
  obtain⟨o,e,c,d⟩:=st
  exact⟨o,e,fun v z=>by rw[d]at z;cases z⟩
 keep:=fun i h h' st k=>st.at fun o e=>k it (by simp) o e
 item:=by
  intro X hP hw hK hc i pins s σ H E I hf st hg
  subst hP hw hK
  obtain⟨xs,x,hq,hx⟩:=hg
  obtain⟨ze,rv,p,hz⟩:=I.list hq
  obtain⟨u,hu,ru⟩:=rv.get hx
  obtain⟨f0,f1,f2,f3,f4,f5⟩:=hf it (by simp)
  refine wpAny_pyNext_list_item st p.isList (x:=u) (by simpa using hu) fun h' Dy sb=>?_
  have I1:Inv X pins σ H { s with heap:=h' }:=I.turned (t':=s.toks) (fun b o hb e=>(sb.2 b hb).trans e) f0 f1 f3 f4 f5
  obtain⟨o,e,c,d⟩:=id Dy
  exact⟨u,rfl,pI (s:={ s with heap:=h' }) e c d (by decide) ⟨x,H,I1,ru,⟨rfl,fun ys hy=>by rw[I.Cc hy hq];exact hx⟩,Dy,fun b hb=>(hf b hb).1⟩⟩
 done:=by
  intro X hP hw hK hc i pins s σ H E I hf st hg
  subst hP hw hK
  obtain⟨xs,hq,hx⟩:=hg
  obtain⟨ze,rv,p,hz⟩:=I.list hq
  obtain⟨f0,f1,f2,f3,f4,f5⟩:=hf it (by simp)
  have hl:=rv.length
  exact wpAny_pyNext_list_end (I.ok.hd hc) st p.isList (by simp;omega) fun h' eb=>⟨rfl,I.turned (t':=s.toks) (fun b o hb e=>eb b o hb e) f0 f1 f3 f4 f5⟩
 self:=fun _ _ _ _ _ st h=>wpAny_pyIter_listiter st h
theorem na {P:Program}{w:World}{K:Frag}{tg:Expr}(a it:Addr):mX P w K tg (MX K a) [it] it (fun i h=>h.IsTupleIter it a i) where
 mem:=by simp
 obj:=fun i h st b hb=>by
  have e:b=it:=by simpa using hb
  subst e
  obtain⟨o,e,c,d⟩:=st
  exact⟨o,e,fun v z=>by rw[d]at z;cases z⟩
 keep:=fun i h h' st k=>st.at fun o e=>k it (by simp) o e
 item:=by
  intro X hP hw hK hc i pins s σ H E I hf st hg
  subst hP hw hK
  obtain⟨xs,x,hq,hx⟩:=hg
  obtain⟨ze,rv,p,hz⟩:=I.tuple hq
  obtain⟨u,hu,ru⟩:=rv.get hx
  obtain⟨f0,f1,f2,f3,f4,f5⟩:=hf it (by simp)
  refine wpAny_pyNext_tuple_item st (show s.heap.IsTuple a ze.toArray from p) (x:=u) (by simpa using hu) fun h' Dy sb=>?_
  have I1:Inv X pins σ H { s with heap:=h' }:=I.turned (t':=s.toks) (fun b o hb e=>(sb.2 b hb).trans e) f0 f1 f3 f4 f5
  obtain⟨o,e,c,d⟩:=id Dy
  exact⟨u,rfl,pI (s:={ s with heap:=h' }) e c d (by decide) ⟨x,H,I1,ru,⟨rfl,fun ys hy=>by rw[I.B6 hy hq];exact hx⟩,Dy,fun b hb=>(hf b hb).1⟩⟩
 done:=by
  intro X hP hw hK hc i pins s σ H E I hf st hg
  subst hP hw hK
  obtain⟨xs,hq,hx⟩:=hg
  obtain⟨ze,rv,p,hz⟩:=I.tuple hq
  obtain⟨f0,f1,f2,f3,f4,f5⟩:=hf it (by simp)
  have hl:=rv.length
  exact wpAny_pyNext_tuple_end (I.ok.hd hc) st (show s.heap.IsTuple a ze.toArray from p) (by simp;omega) fun h' eb=>⟨rfl,I.turned (t':=s.toks) (fun b o hb e=>eb b o hb e) f0 f1 f3 f4 f5⟩
 self:=fun _ _ _ _ _ st h=>wpAny_pyIter_tupleiter st h
theorem nc {P:Program}{w:World}{K:Frag}{tg:Expr}(it:Addr)(lo:Int)(n:Nat):mX P w K tg (w6 lo n) [it] it (fun i h=>IsRangeIter h it (lo + (i:Nat) * 1) ((n:Int) - (i:Nat)) 1) where
 mem:=by simp
 obj:=fun i h st b hb=>by
  have e:b=it:=by simpa using hb
  subst e
  exact⟨_,st,fun v z=>by
   have z':Data.fields _=Data.cell v:=z
   cases z'⟩
 keep:=fun i h h' st k=>k it (by simp) _ st
 item:=by
  intro X hP hw hK hc i pins s σ H E I hf st hg
  subst hP hw hK
  obtain⟨f0,f1,f2,f3,f4,f5⟩:=hf it (by simp)
  have W:=Walks.range (prog:=X.prog) (w:=X.w) (I.ok.hd hc) it lo 1 n
  refine W.item i s _ _ hg st fun v h' tk hv Dy kk=>?_
  obtain⟨t,rfl⟩:=hv
  have I1:Inv X pins σ H { s with heap:=h',toks:=tk }:=I.turned (fun b o hb e=>kk b o (by simpa using hb) e) f0 f1 f3 f4 f5
  refine⟨_,rfl,pI (s:={ s with heap:=h',toks:=tk }) (n := "range_iterator") Dy rfl rfl (by decide) ⟨.int (lo + i),H,I1,⟨t,?_⟩,⟨rfl,rfl⟩,Dy,fun b hb=>(hf b hb).1⟩⟩
  rw[Int.mul_one]
 done:=by
  intro X hP hw hK hc i pins s σ H E I hf st hg
  subst hP hw hK
  obtain⟨f0,f1,f2,f3,f4,f5⟩:=hf it (by simp)
  exact wpAny_pyNext_range_end (I.ok.hd hc) st (by have:n <= i:=hg;omega) fun h' eb=>⟨rfl,I.turned (t':=s.toks) (fun b o hb e=>eb b o hb e) f0 f1 f3 f4 f5⟩
 self:=fun _ _ _ _ _ st h=>wpAny_pyIter_rangeiter st h
end L2
namespace L2
open PySem PySem.Spec PyProof.Rows
section
variable {X:Cx}{tg:Expr}
noncomputable def IZ (K:Frag)(tl:TE):TI:=fun σ H R=>tl σ H fun x H1=>∃ a,x = .ref a/\(∃ xs,zf K H1 a xs)/\R (uA K a) H1
noncomputable def OB (K:Frag)(tl:TE):TI:=fun σ H R=>tl σ H fun x H1=>∃ a,x = .ref a/\(∃ xs,zh K H1 a xs)/\R (MX K a) H1
theorem bC {l:Expr}{tl:TE}(hl:PE X l tl):PI X tg l (IZ X.K tl):=by
 intro pins s σ H R I h
 refine aS (hl pins s σ H _ I h) fun v s1 ⟨x,H1,I1,r1,q1⟩=>?_
 obtain⟨a,e,⟨xs,hq⟩,q⟩:=q1
 subst e
 cases r1
 obtain⟨ze,rv,p,hz⟩:=I1.list hq
 refine wpAny_pyIter_list p.isList ?_
 refine⟨s1.heap.objs.size,[s1.heap.objs.size],_,_,H1,rfl,I1.kept (t':=s1.toks) fun b o e=>Heap.get?_push_of_some _ e,pV a _,⟨_,Heap.get?_push_size _ rfl,rfl,rfl⟩,fun b hb=>?_,q⟩
 have e:b=s1.heap.objs.size:=by simpa using hb
 subst e
 exact I1.CZ (Nat.le_refl _) (I1.zg.fresh (Nat.le_refl _))
theorem kQ {l:Expr}{tl:TE}(hl:PE X l tl):PI X tg l (OB X.K tl):=by
 intro pins s σ H R I h
 refine aS (hl pins s σ H _ I h) fun v s1 ⟨x,H1,I1,r1,q1⟩=>?_
 obtain⟨a,e,⟨xs,hq⟩,q⟩:=q1
 subst e
 cases r1
 obtain⟨ze,rv,p,hz⟩:=I1.tuple hq
 refine wpAny_pyIter_tuple (show s1.heap.IsTuple a ze.toArray from p) ?_
 refine⟨s1.heap.objs.size,[s1.heap.objs.size],_,_,H1,rfl,I1.kept (t':=s1.toks) fun b o e=>Heap.get?_push_of_some _ e,na a _,⟨_,Heap.get?_push_size _ rfl,rfl,rfl⟩,fun b hb=>?_,q⟩
 have e:b=s1.heap.objs.size:=by simpa using hb
 subst e
 exact I1.CZ (Nat.le_refl _) (I1.zg.fresh (Nat.le_refl _))
theorem sJ {pins:List (Addr × Obj)}{σ:St}{H:Hp}{s:Shared}{R:It->Hp->Prop}{E:Value->Shared->Prop}{lo hi:Int}{t u v:Tok}{tk:Nat}(I:Inv X pins σ H s)(h1:-(2 ^ 62) <= lo)(h2:lo < 2 ^ 62)(h3:-(2 ^ 62) <= hi)(h4:hi < 2 ^ 62)
  (q:R (w6 lo (hi - lo).toNat) H):wpAny (model X.prog X.w) X.A (pyIter (.ref s.heap.objs.size)) (TV X pins σ tg R) E { s with heap:=s.heap.push { cls := .type "range",data := .fields #[.int lo t, .int hi u, .int 1 v] },toks:=tk }:=by
 refine wpAny_pyIter_range (IsRange.new ..) (small_one h1 h2 h3 h4) ?_
 have I1:Inv X pins σ H { s with heap:=s.heap.push { cls := .type "range",data := .fields #[.int lo t, .int hi u, .int 1 v] },toks:=tk }:=I.kept fun b o e=>Heap.get?_push_of_some _ e
 refine⟨(s.heap.push { cls := .type "range",data := .fields #[.int lo t, .int hi u, .int 1 v] }).objs.size,[(s.heap.push { cls := .type "range",data := .fields #[.int lo t, .int hi u, .int 1 v] }).objs.size],_,_,H,rfl,
  I1.kept (t':=tk) fun b o e=>Heap.get?_push_of_some _ e,nc _ lo (hi - lo).toNat,?_,fun b hb=>?_,q⟩
 ·have e1:lo + ((0:Nat):Int) * 1=lo:=by simp
  have e2:(((hi - lo).toNat:Nat):Int) - ((0:Nat):Int)=Builtin.Range.rangeSize lo hi 1:=by rw[rangeSize_one];split<;>omega
  show IsRangeIter _ _ (lo + ((0:Nat):Int) * 1) ((((hi - lo).toNat:Nat):Int) - ((0:Nat):Int)) 1
  rw[e1,e2]
  exact Heap.get?_push_size _ rfl
 ·have e:b=(s.heap.push { cls := .type "range",data := .fields #[.int lo t, .int hi u, .int 1 v] }).objs.size:=by simpa using hb
  subst e
  exact I1.CZ (Nat.le_refl _) (I1.zg.fresh (Nat.le_refl _))
noncomputable def Ja (ta:TA):TI:=fun σ H R=>ta σ H fun vs H1=>∃ j:Int,vs=[.int j]/\-(2 ^ 62) <= j/\j < 2 ^ 62/\R (w6 0 j.toNat) H1
theorem aR {a:Expr}{ta:TA}{p pos:Pos}(hg:Gl X "range")(hm:X.mg "range" = none)(ha:PA X [a] ta)(hs:starEach [a] X.env=[(false,eval a X.env)]:=by rfl):PI X tg (.Call (.Name "range" p) [a] [] pos) (Ja ta):=by
 intro pins s σ H R I h
 refine Call_ (io I hg hm boot_range (PyProof.Rows.callWith_type1 (aS (ha pos pins s σ H _ I h) fun us s1 ⟨vs,H1,I1,r1,q1⟩=>?_) hs rfl))
 obtain⟨j,e,q1,q2,q⟩:=q1
 subst e
 cases r1 with
 | cons r rr =>
  cases rr
  obtain⟨t,rfl⟩:=r
  exact call_range_1 (sJ I1 (by omega) (by omega) q1 q2 (by simpa using q))
noncomputable def OC (wi:TI)(g:TG)(tb:TS):TS:=fun D σ H=>wi σ H fun J H1=>∃ W:Nat->Nat->St->Hp->Prop,(∃ m,W 0 m σ H1)/\∀ i m σ H,W i m σ H ->
 (J.stop i H/\D.nx σ H)∨(J.go i H/\∃ N:St->Hp->Prop,(∀ σ' H',N σ' H'->∃ m',m' < m/\W (i + 1) m' σ' H')/\∀ x H',J.Ef i H x H'->g x σ H' fun σ2 H2=>tb { D with nx:=N,ct:=N,bk:=D.nx } σ2 H2)
noncomputable def dZ (fp:List Addr)(h:Heap):List (Addr × Obj):=fp.filterMap fun b=>(h.get? b).map fun o=>(b,o)
theorem eA {fp:List Addr}{h:Heap}{b:Addr}{o:Obj}(hb:b ∈ fp)(e:h.get? b=some o):(b,o) ∈ dZ fp h:=List.mem_filterMap.mpr ⟨b,hb,by rw[e];rfl⟩
theorem jM {fp:List Addr}{h:Heap}{p:Addr × Obj}(hp:p ∈ dZ fp h):p.1 ∈ fp/\h.get? p.1=some p.2:=by
 obtain⟨b,hb,e⟩:=List.mem_filterMap.mp hp
 cases q:h.get? b with
 | none=>rw[q]at e;cases e
 | some o =>
  rw[q]at e
  have e':(b,o)=p:=Option.some.inj e
  subst e'
  exact⟨hb,q⟩
theorem Inv.pinned {pins:List (Addr × Obj)}{σ:St}{H:Hp}{s:Shared}{fp:List Addr}(I:Inv X pins σ H s)(hf:∀ b ∈ fp,fT X pins H b)(ho:∀ b ∈ fp,∃ o,s.heap.get? b=some o/\∀ v,o.data ≠ .cell v):Inv X (pins ++ dZ fp s.heap) σ H s :=
 I.Ap fun p hp=>(mem_append.mp hp).elim (fun z=>I.pin p (mem_append_right _ z)) fun z=>by
  obtain⟨hb,e⟩:=jM z
  obtain⟨f0,f1,f2,_⟩:=hf p.1 hb
  obtain⟨o,e',d⟩:=ho p.1 hb
  rw[e]at e';cases e'
  exact⟨e,f0,f1,f2,d⟩
theorem Inv.AF {pins pl:List (Addr × Obj)}{σ:St}{H:Hp}{s:Shared}(I:Inv X (pins ++ pl) σ H s):Inv X pins σ H s:=I.Ap fun p hp=>I.pin p (mem_append_right _ (mem_append_left _ hp))
theorem bD {iter:Expr}{body:List Stmt}{wi:TI}{g:TG}{tb:TS}{pos:Pos}(hp:PassesOwn (model X.prog X.w) X.A X.env X.xe)(hc:X.calm=true)(hi:PI X tg iter wi)(hg:PG X tg g)(hb:C4 X body tb)
  (hs:∀ x,foldedSetIterable iter X.env x=pure x:=by intro _;rfl):PS X (.For tg iter body [] pos) (OC wi g tb):=by
 intro pins s σ H D I h
 refine wpAny_For (aS (hi pins s σ H _ I h) fun v s1 h1=>aS h1 fun MW s2 h2=>?_) hs
 obtain⟨it,fp,tn,J,H2,e,I2,T,Jb,f2,W,⟨m0,w0⟩,turn⟩:=h2
 subst e
 have stat:∀ {H':Hp},(∀ b ∈ fp,H' b=none)->∀ b ∈ fp,fT X pins H' b:=fun hn b hb=>⟨hn b hb,(f2 b hb).2⟩
 refine codeAny_forLoop_any (fun n s'=>∃ i σ' H',Inv X pins σ' H' s'/\tn i s'.heap/\(∀ b ∈ fp,H' b=none)/\W i n σ' H') ?_ m0 ⟨0,σ,H2,I2,Jb,fun b hb=>(f2 b hb).1,w0⟩
 rintro n s3 ⟨i,σ3,H3,I3,TY,Ua,w3⟩
 rcases turn i n σ3 H3 w3 with ⟨stop,qn⟩ | ⟨go,N,hN,step⟩
 ·refine wpAny_passesOwn hp (aS (T.done X rfl rfl rfl hc i pins s3 σ3 H3 X.xe I3 (stat Ua) TY stop) fun r s4 ⟨hr,I4⟩=>?_)
  subst hr
  exact wpAny_execs_nil ⟨σ3,H3,I4,qn⟩
 ·refine wpAny_passesOwn hp (aS (T.item X rfl rfl rfl hc i pins s3 σ3 H3 X.xe I3 (stat Ua) TY go) fun r s4 ⟨u,hr,h4⟩=>?_)
  subst hr
  refine wpAny_passesOwn hp (aS h4 fun _ s5 ⟨x,H5,I5,r5,y5,HZ,MY⟩=>?_)
  have I5':=I5.pinned (stat MY) (T.obj _ _ HZ)
  refine wpAny_passesOwn hp (aS (hg _ s5 σ3 H5 x u _ I5' r5 (step x H5 y5)) fun _ s6 ⟨σ6,H6,I6,q6⟩=>?_)
  refine wpAny_passesOwn hp (aS (hb _ s6 σ6 H6 _ I6 q6) fun f s7 q7=>?_)
  have again:∀ {σ7:St}{H7:Hp},Inv X (pins ++ dZ fp s5.heap) σ7 H7 s7->N σ7 H7->∃ m,m < n/\∃ i σ' H',Inv X pins σ' H' s7/\tn i s7.heap/\(∀ b ∈ fp,H' b=none)/\W i m σ' H':=fun {σ7 H7} I7 n7=>by
   obtain⟨m',hm,w7⟩:=hN σ7 H7 n7
   refine⟨m',hm,i + 1,σ7,H7,I7.AF,T.keep _ _ _ HZ fun b hb o e=>(I7.pin (b,o) (mem_append_right _ (mem_append_right _ (eA hb e)))).1,fun b hb=>?_,w7⟩
   obtain⟨o,e,d⟩:=T.obj _ _ HZ b hb
   exact(I7.pin (b,o) (mem_append_right _ (mem_append_right _ (eA hb e)))).2.1
  cases f with
  | next=>obtain⟨σ7,H7,I7,n7⟩:=q7;exact again I7 n7
  | cont=>obtain⟨σ7,H7,I7,n7⟩:=q7;exact again I7 n7
  | brk=>obtain⟨σ7,H7,I7,q7⟩:=q7;exact⟨σ7,H7,I7.AF,q7⟩
  | ret v=>obtain⟨x7,σ7,H7,I7,r7,q7⟩:=q7;exact⟨x7,σ7,H7,I7.AF,r7,q7⟩
end
theorem fv {K:Frag}{a:Addr}{xs:List V}{g:TG}{tb:TS}{D:jD}{σ:St}{H:Hp}(Pv:Nat->St->Hp->Prop)(h0:Pv 0 σ H)(hl:∀ i σ H,i <= xs.length->Pv i σ H->zf K H a xs)
  (hs:∀ i x σ H,xs[i]? = some x->Pv i σ H->g x σ H fun σ2 H2=>tb { D with nx:=Pv (i + 1),ct:=Pv (i + 1),bk:=D.nx } σ2 H2) (hd:∀ σ H,Pv xs.length σ H->D.nx σ H) :
  ∃ W:Nat->Nat->St->Hp->Prop,(∃ m,W 0 m σ H)/\∀ i m σ H,W i m σ H ->
   ((uA K a).stop i H/\D.nx σ H)∨((uA K a).go i H/\∃ N:St->Hp->Prop,(∀ σ' H',N σ' H'->∃ m',m' < m/\W (i + 1) m' σ' H')/\∀ x H',(uA K a).Ef i H x H'->g x σ H' fun σ2 H2=>tb { D with nx:=N,ct:=N,bk:=D.nx } σ2 H2):=by
 refine⟨fun i m σ H=>m=xs.length - i/\i <= xs.length/\Pv i σ H,⟨xs.length,by simp,zero_le _,h0⟩,?_⟩
 rintro i m σ H ⟨rfl,hi,p⟩
 have q:=hl i σ H hi p
 by_cases zL:i < xs.length
 ·refine .inr ⟨⟨xs,xs[i],q,by simp[zL]⟩,Pv (i + 1),fun σ' H' p'=>⟨xs.length - (i + 1),by omega,rfl,zL,p'⟩,fun x H' y=>?_⟩
  obtain⟨e,y⟩:=y
  subst e
  exact hs i x σ _ (y xs q) p
 ·have e:i=xs.length:=by omega
  subst e
  exact .inl ⟨⟨xs,q,Nat.le_refl _⟩,hd σ H p⟩
theorem b7 {lo:Int}{n:Nat}{g:TG}{tb:TS}{D:jD}{σ:St}{H:Hp}(Pv:Nat->St->Hp->Prop)(h0:Pv 0 σ H)
  (hs:∀ i σ H,i < n->Pv i σ H->g (.int (lo + i)) σ H fun σ2 H2=>tb { D with nx:=Pv (i + 1),ct:=Pv (i + 1),bk:=D.nx } σ2 H2) (hd:∀ σ H,Pv n σ H->D.nx σ H) :
  ∃ W:Nat->Nat->St->Hp->Prop,(∃ m,W 0 m σ H)/\∀ i m σ H,W i m σ H ->
   ((w6 lo n).stop i H/\D.nx σ H)∨((w6 lo n).go i H/\∃ N:St->Hp->Prop,(∀ σ' H',N σ' H'->∃ m',m' < m/\W (i + 1) m' σ' H')/\∀ x H',(w6 lo n).Ef i H x H'->g x σ H' fun σ2 H2=>tb { D with nx:=N,ct:=N,bk:=D.nx } σ2 H2):=by
 refine⟨fun i m σ H=>m=n - i/\i <= n/\Pv i σ H,⟨n,by simp,zero_le _,h0⟩,?_⟩
 rintro i m σ H ⟨rfl,hi,p⟩
 by_cases zL:i < n
 ·refine .inr ⟨zL,Pv (i + 1),fun σ' H' p'=>⟨n - (i + 1),by omega,rfl,zL,p'⟩,fun x H' y=>?_⟩
  obtain⟨e,y⟩:=y
  subst e y
  exact hs i σ _ zL p
 ·have e:i=n:=by omega
  subst e
  exact .inl ⟨Nat.le_refl _,hd σ H p⟩
theorem rb {c:TT}{tb:TS}{D:jD}{σ:St}{H:Hp}(Pv:St->Hp->Prop) (μ:St->Hp->Nat) (h0:Pv σ H)
  (hs:∀ σ H,Pv σ H->c σ H fun b H1=>if b=true then tb { D with nx:=fun σ' H'=>Pv σ' H'/\μ σ' H' < μ σ H,ct:=fun σ' H'=>Pv σ' H'/\μ σ' H' < μ σ H,bk:=D.nx } σ H1 else D.nx σ H1)
  (mono:∀ σ H Q Q',(∀ b H1,Q b H1->Q' b H1)->c σ H Q->c σ H Q'):rh c tb D σ H:=by
 refine⟨fun m σ H=>m=μ σ H/\Pv σ H,⟨_,rfl,h0⟩,?_⟩
 rintro m σ H ⟨rfl,p⟩
 refine mono σ H _ _ (fun b H1 q=>?_) (hs σ H p)
 cases b with
 | true=>exact⟨_,fun σ' H' ⟨p',l⟩=>⟨_,l,rfl,p'⟩,q⟩
 | false=>exact q
end L2
namespace L2
open PySem PySem.Spec PyProof.Rows
abbrev R2:=V->V->Hp->VK->Prop
noncomputable def eD (X:Cx)(f:Value->Value->Sem Value)(r:R2):Prop :=
 ∀ (pins:List (Addr × Obj))(s:Shared)(σ:St)(H:Hp)(x y:V)(v u:Value)(Q:VK),Inv X pins σ H s->RelV x v->RelV y u->r x y H Q ->
  wpAny (model X.prog X.w) X.A (f v u) (EP X pins σ Q) X.xe s
noncomputable def fD (X:Cx)(f:Value)(r:List V->Hp->VK->Prop):Prop :=
 ∀ (pins:List (Addr × Obj))(s:Shared)(σ:St)(H:Hp)(xs:List V)(us:List Value)(Q:VK),Inv X pins σ H s->Vals xs us->r xs H Q ->
  wpAny (model X.prog X.w) X.A (call f us) (EP X pins σ Q) X.xe s
noncomputable def OD (X:Cx)(r:V->Hp->(Bool->Hp->Prop)->Prop):Prop :=
 ∀ (pins:List (Addr × Obj))(s:Shared)(σ:St)(H:Hp)(x:V)(v:Value)(Q:Bool->Hp->Prop),Inv X pins σ H s->RelV x v->r x H Q ->
  wpAny (model X.prog X.w) X.A (truthy v) (TP X pins σ Q) X.xe s
noncomputable def MZ (r:R2)(ta tb:TE):TE:=fun σ H Q=>ta σ H fun x H1=>tb σ H1 fun y H2=>r x y H2 Q
noncomputable def rI (C:Int->Int->Prop)(g:Int->Int->V):R2:=fun x y H Q=>∃ i j,x = .int i/\y = .int j/\C i j/\Q (g i j) H
noncomputable def qW (g:Int->Int->V):R2:=fun x y H Q=>∃ i j,x = .int i/\y = .int j/\Q (g i j) H
section
variable {X:Cx}{a b c:Expr}{ta tb tc:TE}{pos:Pos}
theorem yO (ha:PE X a ta)(hb:PE X b tb){pins:List (Addr × Obj)}{s:Shared}{σ:St}{H:Hp}{R:V->V->Hp->Prop}(I:Inv X pins σ H s)
  (h:ta σ H fun x H1=>tb σ H1 fun y H2=>R x y H2) {Q:Value->Shared->Prop} {f:Value->Value->Sem Value}
  (hf:∀ v u s2 x y H2,Inv X pins σ H2 s2->RelV x v->RelV y u->R x y H2->wpAny (model X.prog X.w) X.A (f v u) Q X.xe s2) :
  wpAny (model X.prog X.w) X.A (eval a X.env) (fun v s₁=>wpAny (model X.prog X.w) X.A (eval b X.env) (fun u s₂=>wpAny (model X.prog X.w) X.A (f v u) Q X.xe s₂) X.xe s₁) X.xe s:=by
 refine aS (ha pins s σ H _ I h) fun v s1 ⟨x,H1,I1,r1,q1⟩=>?_
 refine aS (hb pins s1 σ H1 _ I1 q1) fun u s2 ⟨y,H2,I2,r2,q2⟩=>?_
 exact hf v u s2 x y H2 I2 r1 r2 q2
theorem aC {op:Operator}{r:R2}(ho:eD X (binaryOp op) r)(ha:PE X a ta)(hb:PE X b tb):PE X (.BinOp a op b pos) (MZ r ta tb):=by
 intro pins s σ H Q I h
 exact wpAny_BinOp (yO ha hb I h fun v u s2 x y H2 I2 rx ry q=>ho pins s2 σ H2 x y v u Q I2 rx ry q)
theorem Ib {f:Value->Value->Sem Value}{C:Int->Int->Prop}{g:Int->Int->Int}
  (rule:∀ (i j:Int)(t u:Tok)(s:Shared)(Q:Value->Shared->Prop)(E:Value->Shared->Prop),C i j->Q (.int (g i j) s.toks) { s with toks:=s.toks + 1 }->wpAny (model X.prog X.w) X.A (f (.int i t) (.int j u)) Q E s) :
  eD X f (rI C fun i j => .int (g i j)):=by
 intro pins s σ H x y v u Q I rx ry h
 obtain⟨i,j,rfl,rfl,hc,q⟩:=h
 obtain⟨t,rfl⟩:=rx
 obtain⟨t',rfl⟩:=ry
 exact rule i j t t' s _ _ hc ⟨.int (g i j),H,I.tok _,⟨_,rfl⟩,q⟩
theorem qo {f:Value->Value->Sem Value}{g:Int->Int->Int}
  (rule:∀ (i j:Int)(t u:Tok)(s:Shared)(Q:Value->Shared->Prop)(E:Value->Shared->Prop),Q (.int (g i j) s.toks) { s with toks:=s.toks + 1 }->wpAny (model X.prog X.w) X.A (f (.int i t) (.int j u)) Q E s) :
  eD X f (qW fun i j => .int (g i j)):=by
 intro pins s σ H x y v u Q I rx ry h
 obtain⟨i,j,rfl,rfl,q⟩:=h
 obtain⟨t,rfl⟩:=rx
 obtain⟨t',rfl⟩:=ry
 exact rule i j t t' s _ _ ⟨.int (g i j),H,I.tok _,⟨_,rfl⟩,q⟩
theorem vn {f:Value->Value->Sem Value}{g:Int->Int->Bool}
  (rule:∀ (i j:Int)(t u:Tok)(s:Shared)(Q:Value->Shared->Prop)(E:Value->Shared->Prop),Q (.bool (g i j)) s->wpAny (model X.prog X.w) X.A (f (.int i t) (.int j u)) Q E s) :
  eD X f (qW fun i j => .bl (g i j)):=by
 intro pins s σ H x y v u Q I rx ry h
 obtain⟨i,j,rfl,rfl,q⟩:=h
 obtain⟨t,rfl⟩:=rx
 obtain⟨t',rfl⟩:=ry
 exact rule i j t t' s _ _ ⟨.bl (g i j),H,I,rfl,q⟩
noncomputable def OE (i j:Int):Prop:=0 < j/\j < 1073741824
noncomputable def Jc (i j:Int):Prop:=0 <= j/\j <= 1000000/\i.natAbs < 2 ^ 64
noncomputable def G5 (i j:Int):Prop:=(-(2 ^ 64) < i/\i < 2 ^ 64)∨(-(2 ^ 64) < j/\j < 2 ^ 64)
theorem G5.ok {i j:Int}(h:G5 i j):IntMulOk i j:=by
 rcases h with ⟨h1,h2⟩ | ⟨h1,h2⟩
 ·exact .of_left (intBits_le_64 h1 h2)
 ·exact .of_right (intBits_le_64 h1 h2)
theorem mZ (k:Nat):(0:Int) <= 2 ^ k:=by
 rw[two_pow_cast]
 exact Int.natCast_nonneg _
theorem bE:eD X (binaryOp .Add) (qW fun i j => .int (i + j)):=qo fun _ _ _ _ _ _ _ q=>add_int q
theorem e9:eD X (binaryOp .Sub) (qW fun i j => .int (i - j)):=qo fun _ _ _ _ _ _ _ q=>sub_int q
theorem kU:eD X (binaryOp .Mult) (rI G5 fun i j => .int (i * j)):=Ib fun _ _ _ _ _ _ _ hc q=>mul_int q hc.ok
theorem gN:eD X (binaryOp .FloorDiv) (rI OE fun i j => .int (i / j)):=Ib fun i j _ _ _ _ _ hc q=>by
 have h1:(0:Int) < j:=hc.1
 have h2:j < 1073741824:=hc.2
 exact floordiv_int (by omega) (by rw[Int.fdiv_eq_ediv_of_nonneg i (by omega)];exact q) (.inl (PyProof.noPylong_small (by omega)))
theorem bv:eD X (binaryOp .Mod) (rI (fun _ j=>0 < j) fun i j => .int (i % j)):=Ib fun i j _ _ _ _ _ hc q=>by
 have h1:(0:Int) < j:=hc
 exact mod_int' (by omega) (by rw[Int.fmod_eq_emod_of_nonneg i (by omega)];exact q)
theorem sV:eD X (binaryOp .Pow) (rI Jc fun i j => .int (i ^ j.toNat)):=Ib fun _ _ _ _ _ _ _ hc q=>pow_int_small hc.1 hc.2.1 hc.2.2 q
theorem xS:eD X (binaryOp .LShift) (rI Jc fun i j => .int (i * 2 ^ j.toNat)):=Ib fun _ _ _ _ _ _ _ hc q=>lshift_int_small hc.1 hc.2.1 hc.2.2 q
theorem nP:eD X (binaryOp .RShift) (rI (fun _ j=>0 <= j) fun i j => .int (i / 2 ^ j.toNat)):=Ib fun i j _ _ _ _ _ hc q =>
 rshift_int hc (by rw[Int.fdiv_eq_ediv_of_nonneg i (mZ _)];exact q)
theorem sY:eD X (binaryOp .BitAnd) (qW fun i j => .int (Builtin.bitAnd i j)):=qo fun _ _ _ _ _ _ _ q=>and_int q
theorem Jd:eD X (binaryOp .BitOr) (qW fun i j => .int (Builtin.bitOr i j)):=qo fun _ _ _ _ _ _ _ q=>or_int q
theorem lc:eD X (inplaceOp .Add) (qW fun i j => .int (i + j)):=qo fun _ _ _ _ _ _ _ q=>iadd_int q
theorem pG:eD X (inplaceOp .Sub) (qW fun i j => .int (i - j)):=qo fun _ _ _ _ _ _ _ q=>isub_int q
end
noncomputable def xn:V->V->Bool
 | .zt, .zt=>true | .zt, .int _=>true | .int _, .zt=>true | .zt, .bl _=>true | .bl _, .zt=>true | .zt, .str _=>true | .str _, .zt=>true
 | .int _, .int _=>true | .bl _, .bl _=>true | .str _, .str _=>true | .CL _, .CL _=>true
 | .int _, .str _=>true | .str _, .int _=>true | .bl _, .str _=>true | .str _, .bl _=>true
 | _,_=>false
noncomputable def rEq:R2:=fun x y H Q=>xn x y=true/\Q (.bl (decide (x=y))) H
noncomputable def rNe:R2:=fun x y H Q=>xn x y=true/\Q (.bl (!decide (x=y))) H
theorem pL {i j:Int}:decide (V.int i=V.int j)=(i == j):=by
 rw[Bool.eq_iff_iff]
 simp
theorem ur {i j:Bool}:decide (V.bl i=V.bl j)=(i == j):=by
 rw[Bool.eq_iff_iff]
 simp
theorem pK {i j:Str}:decide (V.str i=V.str j)=(i == j):=by
 rw[Bool.eq_iff_iff]
 simp
theorem pM {i j:Array UInt8}:decide (V.CL i=V.CL j)=(i.toList == j.toList):=by
 rw[Bool.eq_iff_iff]
 cases i
 cases j
 simp
section
variable {X:Cx}{a b c:Expr}{ta tb tc:TE}{pos:Pos}
theorem aP {pins:List (Addr × Obj)}{σ:St}{H:Hp}{s:Shared}{Q:VK}{k k':Bool}(I:Inv X pins σ H s)(q:Q (.bl k) H)(e:k=k'):EP X pins σ Q (.bool k') s:=by
 subst e
 exact⟨.bl k,H,I,rfl,q⟩
theorem bz:eD X (compareOp .Eq) rEq:=by
 intro pins s σ H x y v u Q I rx ry h
 obtain⟨hs,q⟩:=h
 cases x with
 | zt =>
  cases rx
  cases y with
  | zt=>cases ry;exact PySem.EqNone.eq_none_none (aP I q (by simp))
  | bl j=>cases ry;exact PySem.EqNone.eq_none_bool (aP I q (by simp))
  | int j=>obtain⟨t',rfl⟩:=ry;exact PySem.EqNone.eq_none_int (aP I q (by simp))
  | str j=>obtain⟨t',rfl⟩:=ry;exact PySem.EqNone.eq_none_str (aP I q (by simp))
  | _=>exact absurd (show false=true from hs) Bool.false_ne_true
 | bl i =>
  cases rx
  cases y with
  | zt=>cases ry;exact PySem.EqNone.eq_bool_none (aP I q (by simp))
  | bl j=>cases ry;exact eq_bool (aP I q ur)
  | str j=>obtain⟨t',rfl⟩:=ry;exact PySem.EqMixed.eq_bool_str (aP I q (by simp))
  | _=>exact absurd (show false=true from hs) Bool.false_ne_true
 | int i =>
  obtain⟨t,rfl⟩:=rx
  cases y with
  | zt=>cases ry;exact PySem.EqNone.eq_int_none (aP I q (by simp))
  | int j=>obtain⟨t',rfl⟩:=ry;exact eq_int (aP I q pL)
  | str j=>obtain⟨t',rfl⟩:=ry;exact PySem.EqMixed.eq_int_str (aP I q (by simp))
  | _=>exact absurd (show false=true from hs) Bool.false_ne_true
 | str i =>
  obtain⟨t,rfl⟩:=rx
  cases y with
  | zt=>cases ry;exact PySem.EqNone.eq_str_none (aP I q (by simp))
  | bl j=>cases ry;exact PySem.EqMixed.eq_str_bool (aP I q (by simp))
  | int j=>obtain⟨t',rfl⟩:=ry;exact PySem.EqMixed.eq_str_int (aP I q (by simp))
  | str j=>obtain⟨t',rfl⟩:=ry;exact eq_str (aP I q pK)
  | _=>exact absurd (show false=true from hs) Bool.false_ne_true
 | CL i =>
  obtain⟨t,rfl⟩:=rx
  cases y with
  | CL j=>obtain⟨t',rfl⟩:=ry;exact PySem.W.eq_bytes (aP I q pM)
  | _=>exact absurd (show false=true from hs) Bool.false_ne_true
 | _=>cases y<;>exact absurd (show false=true from hs) Bool.false_ne_true
theorem jk:eD X (compareOp .NotEq) rNe:=by
 intro pins s σ H x y v u Q I rx ry h
 obtain⟨hs,q⟩:=h
 cases x with
 | zt =>
  cases rx
  cases y with
  | zt=>cases ry;exact PySem.EqNone.ne_none_none (aP I q (by simp))
  | bl j=>cases ry;exact PySem.EqNone.ne_none_bool (aP I q (by simp))
  | int j=>obtain⟨t',rfl⟩:=ry;exact PySem.EqNone.ne_none_int (aP I q (by simp))
  | str j=>obtain⟨t',rfl⟩:=ry;exact PySem.EqNone.ne_none_str (aP I q (by simp))
  | _=>exact absurd (show false=true from hs) Bool.false_ne_true
 | bl i =>
  cases rx
  cases y with
  | zt=>cases ry;exact PySem.EqNone.ne_bool_none (aP I q (by simp))
  | bl j=>cases ry;exact ne_bool (aP I q (congrArg not ur))
  | str j=>obtain⟨t',rfl⟩:=ry;exact PySem.EqMixed.ne_bool_str (aP I q (by simp))
  | _=>exact absurd (show false=true from hs) Bool.false_ne_true
 | int i =>
  obtain⟨t,rfl⟩:=rx
  cases y with
  | zt=>cases ry;exact PySem.EqNone.ne_int_none (aP I q (by simp))
  | int j=>obtain⟨t',rfl⟩:=ry;exact ne_int (aP I q (congrArg not pL))
  | str j=>obtain⟨t',rfl⟩:=ry;exact PySem.EqMixed.ne_int_str (aP I q (by simp))
  | _=>exact absurd (show false=true from hs) Bool.false_ne_true
 | str i =>
  obtain⟨t,rfl⟩:=rx
  cases y with
  | zt=>cases ry;exact PySem.EqNone.ne_str_none (aP I q (by simp))
  | bl j=>cases ry;exact PySem.EqMixed.ne_str_bool (aP I q (by simp))
  | int j=>obtain⟨t',rfl⟩:=ry;exact PySem.EqMixed.ne_str_int (aP I q (by simp))
  | str j=>obtain⟨t',rfl⟩:=ry;exact ne_str (aP I q (congrArg not pK))
  | _=>exact absurd (show false=true from hs) Bool.false_ne_true
 | CL i =>
  obtain⟨t,rfl⟩:=rx
  cases y with
  | CL j=>obtain⟨t',rfl⟩:=ry;exact PySem.W.ne_bytes (aP I q (congrArg not pM))
  | _=>exact absurd (show false=true from hs) Bool.false_ne_true
 | _=>cases y<;>exact absurd (show false=true from hs) Bool.false_ne_true
theorem lT:eD X (compareOp .Lt) (qW fun i j => .bl (decide (i < j))):=vn fun _ _ _ _ _ _ _ q=>lt_int q
theorem pk:eD X (compareOp .LtE) (qW fun i j => .bl (decide (i <= j))):=vn fun _ _ _ _ _ _ _ q=>le_int q
theorem wP:eD X (compareOp .Gt) (qW fun i j => .bl (decide (j < i))):=vn fun _ _ _ _ _ _ _ q=>gt_int q
theorem wQ:eD X (compareOp .GtE) (qW fun i j => .bl (decide (j <= i))):=vn fun _ _ _ _ _ _ _ q=>ge_int q
theorem kW:eD X (compareOp .Is) (fun x y H Q=>y = .zt/\Q (.bl (decide (x = .zt))) H):=by
 intro pins s σ H x y v u Q I rx ry h
 obtain⟨rfl,q⟩:=h
 cases ry
 refine is_none_gen (aP I q ?_)
 cases x<;>first
  | (cases rx;rfl)
  | (obtain⟨t,rfl⟩:=rx;rfl)
theorem vj:eD X (compareOp .IsNot) (fun x y H Q=>y = .zt/\Q (.bl (!decide (x = .zt))) H):=by
 intro pins s σ H x y v u Q I rx ry h
 obtain⟨rfl,q⟩:=h
 cases ry
 refine isnot_none_gen (aP I q ?_)
 cases x<;>first
  | (cases rx;rfl)
  | (obtain⟨t,rfl⟩:=rx;rfl)
theorem az (b:Expr){op:CmpOp}(h:op ≠ .In:=by decide)(h2:op ≠ .NotIn:=by decide):behindInMarks op b=false:=by
 have e1:(op == CmpOp.In)=false:=by cases op<;>first | rfl | exact absurd rfl h
 have e2:(op == CmpOp.NotIn)=false:=by cases op<;>first | rfl | exact absurd rfl h2
 cases b<;>simp[behindInMarks,e1,e2]
theorem c8 {op:CmpOp}{r:R2}(ho:eD X (compareOp op) r)(ha:PE X a ta)(hb:PE X b tb)(hm:behindInMarks op b=false):PE X (.Compare a [op] [b] pos) (MZ r ta tb):=by
 intro pins s σ H Q I h
 exact wpAny_Compare1 (yO ha hb I h fun v u s2 x y H2 I2 rx ry q=>ho pins s2 σ H2 x y v u Q I2 rx ry q) hm
noncomputable def Je (t:TE):TT:=fun σ H Q=>t σ H fun x H'=>∃ k,x = .bl k/\Q k H'
theorem av {op:CmpOp}{r:R2}(ho:eD X (compareOp op) r)(ha:PE X a ta)(hb:PE X b tb)(hm:behindInMarks op b=false):PT X (.Compare a [op] [b] pos) (Je (MZ r ta tb)):=by
 intro pins s σ H Q I h
 refine wpAny_isTrue_Compare1 (aS (ha pins s σ H _ I h) fun v s1 ⟨x,H1,I1,r1,q1⟩=>aS (hb pins s1 σ H1 _ I1 q1) fun u s2 ⟨y,H2,I2,r2,q2⟩ =>
  aS (ho pins s2 σ H2 x y v u _ I2 r1 r2 q2) fun c s3 ⟨z,H3,I3,r3,k,e,q3⟩=>?_) hm
 subst e
 cases r3
 exact wpAny_truthy_bool ⟨H3,I3,q3⟩
noncomputable def xi (r r':R2)(ta tb tc:TE):TE:=fun σ H Q=>ta σ H fun x H1=>tb σ H1 fun y H2=>r x y H2 fun z H3=>∃ k,z = .bl k /\
 (if k=true then tc σ H3 fun w' H4=>r' y w' H4 Q else Q (.bl false) H3)
theorem lS {op OF:CmpOp}{r r':R2}(ho:eD X (compareOp op) r)(E2:eD X (compareOp OF) r')(ha:PE X a ta)(hb:PE X b tb)(hc:PE X c tc)
  (hm:lastMarks [op,OF] [b,c]=false:=by with_unfolding_all rfl):PE X (.Compare a [op,OF] [b,c] pos) (xi r r' ta tb tc):=by
 intro pins s σ H Q I h
 refine Compare_chain (aS (ha pins s σ H _ I h) fun v s1 ⟨x,H1,I1,r1,q1⟩=>chain_link (aS (hb pins s1 σ H1 _ I1 q1) fun u s2 ⟨y,H2,I2,r2,q2⟩ =>
  aS (ho pins s2 σ H2 x y v u _ I2 r1 r2 q2) fun d s3 ⟨z,H3,I3,r3,k,e,q3⟩=>?_)) hm
 subst e
 cases r3
 refine wpAny_truthy_bool ?_
 cases k with
 | false=>exact ite_ff ⟨.bl false,H3,I3,rfl,q3⟩
 | true=>exact ite_tt (chain_last (aS (hc pins s3 σ H3 _ I3 q3) fun w' s4 ⟨z',H4,I4,r4,q4⟩=>E2 pins s4 σ H4 y z' u w' Q I4 r2 r4 q4))
noncomputable def Jf (K:Frag)(x:V)(H:Hp)(k:Bool):Prop :=
 match x with
 | .zt=>k=false
 | .bl b=>k=b
 | .int i=>k=(i != 0)
 | .str y=>y.length <= sizeLine/\k=((y.length:Int) != 0)
 | .CL y=>y.size <= sizeLine/\k=((y.size:Int) != 0)
 | .ref p=>(∃ xs,zf K H p xs/\k = !xs.isEmpty)∨(∃ xs,zh K H p xs/\k = !xs.isEmpty)∨∃ kvs,H p=some (.dK kvs)/\k = !kvs.isEmpty
 | _=>False
theorem om {κ:Type} {kvs:List (κ × V)} {vs:List (κ × Value)} (r:KV kvs vs):(!vs.isEmpty) = !kvs.isEmpty:=by
 cases r<;>rfl
theorem jt {xs:List V}{ze:List Value}(r:Vals xs ze):(!ze.toArray.isEmpty) = !xs.isEmpty:=by
 cases r<;>simp
theorem jp:(sizeLine:Nat) < 2 ^ 63:=by rw[sizeLine_eq];decide
theorem wY:OD X (fun x H Q=>∃ k,Jf X.K x H k/\Q k H):=by
 intro pins s σ H x v Q I rx h
 obtain⟨k,e,q⟩:=h
 have hl:=jp
 have hs:sizeLine=16777216:=sizeLine_eq
 cases x with
 | zt =>
  cases rx
  have e':k=false:=e
  subst e'
  exact truthy_none ⟨H,I,q⟩
 | bl b =>
  cases rx
  have e':k=b:=e
  subst e'
  exact wpAny_truthy_bool ⟨H,I,q⟩
 | int i =>
  obtain⟨t,rfl⟩:=rx
  have e':k=(i != 0):=e
  subst e'
  exact PySem.P.truthy_int ⟨H,I,q⟩
 | str y =>
  obtain⟨t,rfl⟩:=rx
  obtain⟨hy,e'⟩:y.length <= sizeLine/\k=((y.length:Int) != 0):=e
  subst e'
  exact PySem.P.truthy_str (by omega) ⟨H,I.tok _,q⟩
 | CL y =>
  obtain⟨t,rfl⟩:=rx
  obtain⟨hy,e'⟩:y.size <= sizeLine/\k=((y.size:Int) != 0):=e
  subst e'
  exact PySem.W.truthy_bytes (by omega) ⟨H,I.tok _,q⟩
 | ref p =>
  cases rx
  have e':(∃ xs,zf X.K H p xs/\k = !xs.isEmpty)∨(∃ xs,zh X.K H p xs/\k = !xs.isEmpty)∨∃ kvs,H p=some (.dK kvs)/\k = !kvs.isEmpty:=e
  rcases e' with ⟨xs,hx,e'⟩ | ⟨xs,hx,e'⟩ | ⟨kvs,hx,e'⟩
  ·subst e'
   obtain⟨ze,r,pl,hz⟩:=I.list hx
   have hlen:=r.length
   exact wpAny_truthy_list pl.isList (by simp only[size_toArray];omega) ⟨H,I.tok _,by rw[jt r];exact q⟩
  ·subst e'
   obtain⟨ze,r,pl,hz⟩:=I.tuple hx
   have hlen:=r.length
   exact truthy_tuple pl (by simp only[size_toArray];omega) ⟨H,I.tok _,by rw[jt r];exact q⟩
  ·subst e'
   obtain⟨hz,hS,vs,r,m⟩:kvs.length <= sizeLine/\(p == sysModules)=false/\∃ vs,KV kvs vs/\s.heap.DictOf (aT X.prog X.w) p vs:=I.zg p _ hx
   have hlen:kvs.length=vs.length:=Paired.length r
   exact wpAny_truthy_dict hS m (by omega) ⟨H,I.tok _,by rw[om r];exact q⟩
 | _=>exact(show False from e).elim
theorem jh (ha:PE X a ta)(he:∀ whole,isTrue a X.env whole=(do let v ← whole;standAt a.pos;holding [v] (truthy v))) :
  PT X a (fun σ H Q=>ta σ H fun x H'=>∃ k,Jf X.K x H' k/\Q k H'):=by
 intro pins s σ H Q I h
 exact isTrue_plain (aS (ha pins s σ H _ I h) fun v s1 ⟨x,H1,I1,r1,q1⟩=>wY pins s1 σ H1 x v Q I1 r1 q1) (he _)
theorem l4 {x:V}{us:List Value}(r:Vals [x] us):∃ u,us=[u]/\RelV x u:=by
 cases r with
 | cons r1 r2=>cases r2;exact⟨_,rfl,r1⟩
theorem vals2 {x y:V}{us:List Value}(r:Vals [x,y] us):∃ u w',us=[u,w']/\RelV x u/\RelV y w':=by
 cases r with
 | cons r1 r2 =>
  cases r2 with
  | cons r3 r4=>cases r4;exact⟨_,_,rfl,r1,r3⟩
theorem uw:fD X (.builtin "abs") (fun xs H Q=>∃ i,xs=[.int i]/\Q (.int (if i < 0 then -i else i)) H):=by
 intro pins s σ H xs us Q I r h
 obtain⟨i,rfl,q⟩:=h
 obtain⟨u,rfl,t,rfl⟩:=l4 r
 exact call_abs_int fun u tk=>⟨.int (if i < 0 then -i else i),H,I.tok _,⟨_,rfl⟩,q⟩
theorem qT (hc:X.calm=true):fD X (.builtin "max") (fun xs H Q=>∃ i j,xs=[.int i, .int j]/\Q (.int (if j > i then j else i)) H):=by
 intro pins s σ H xs us Q I r h
 obtain⟨i,j,rfl,q⟩:=h
 obtain⟨u,w',rfl,⟨t,rfl⟩,⟨t',rfl⟩⟩:=vals2 r
 refine max_two_ints (I.ok.hd hc) fun h' tk k=>⟨_,H,I.kept k,?_,q⟩
 by_cases hj:j > i
 ·rw[if_pos hj,if_pos hj];exact⟨_,rfl⟩
 ·rw[if_neg hj,if_neg hj];exact⟨_,rfl⟩
end
end L2
namespace L2
open PySem PySem.Spec PyProof.Rows
structure C6 (h:Heap)(x dx C:Addr)(mA:Str->Option Value):Prop where
 obj:h.get? x=some (PySem.W.instObj C dx)
 ns:h.Ns1 dx mA
 ne:dx ≠ x
theorem qA {h:Heap}{dx:Addr}{mA:Str->Option Value}(n:h.Ns1 dx mA):∃ od,h.get? dx=some od/\∀ name,PySem.W.lookIn name od=some (mA name):=by
 obtain⟨o,es,ep,ho,hd,hk,_,hm⟩:=n
 refine⟨o,ho,fun name=>?_⟩
 have e:=hm name
 unfold nsFind findBy at e
 rw[← Array.find?_toList]at e
 unfold PySem.W.lookIn
 rw[hd]
 dsimp only
 split
 ·rename_i y q
  rw[q]at e
  exact congrArg some e
 ·rename_i q
  rw[q]at e
  have a:es.toList.any (·.refKey)=false:=by
   rw[List.any_eq_false]
   intro y hy
   obtain⟨z,t,OG⟩:=hk y (Array.mem_toList_iff.mp hy)
   simp[DictEntry.refKey,OG]
  have a':¬ es.toList.any (·.refKey)=true:=by rw[a];exact Bool.false_ne_true
  rw[if_neg a']
  exact congrArg some e
theorem C6.look {h:Heap}{x dx C:Addr}{mA:Str->Option Value}(I:C6 h x dx C mA):∃ od,PySem.W.InstAt h x (PySem.W.instObj C dx) C (some od)/\∀ name,PySem.W.lookIn name od=some (mA name) :=
 let ⟨od,ho,hl⟩:=qA I.ns
 ⟨od,⟨I.obj,rfl,rfl,ho⟩,hl⟩
section
variable {prog:Program}{w:World}{A:Around}{E:Value->Shared->Prop}{s:Shared}{K:Frag}{x dx C f:Addr}{mA:Str->Option Value}{name:Str}{v:Value}
theorem vZ {expr:Bool}{Q:Value->Shared->Prop}(X:K.In s.heap)(I:C6 s.heap x dx C mA)(hg:plainGet K C name=true)(hh:hasDictIn K C=true)
  (ha:findIn K (.ref C) name=some none) (hv:mA name=some v) (Fi:PySem.W.handedIn v=true) (h:Q v { s with toks:=s.toks + 1 }) :
  wpAny (model prog w) A (getAttr (.ref x) name expr) Q E s:=by
 obtain⟨od,J,hl⟩:=I.look
 exact PySem.W.get_value X J (PySem.W.plainGet_of hg).1 (PySem.W.findObj_own hh ha rfl (by rw[hl,hv])) Fi h
theorem ub {pl:Sem Bool}{Q:Value × List Value->Shared->Prop}(X:K.In s.heap)(I:C6 s.heap x dx C mA)(hg:plainGet K C name=true)
  (hf:findIn K (.ref C) name=some (some (.ref f))) (ht:isFn K (.ref f)=true) (hv:mA name=none) (h:Q (.ref f,[.ref x]) s) :
  wpAny (model prog w) A (getMethod (.ref x) name pl) Q E s:=by
 obtain⟨od,J,hl⟩:=I.look
 exact PySem.W.method_fn X J (PySem.W.plainGet_of hg).1 (PySem.W.plainGet_of hg).2 hf (beq_iff_eq.mp ht) (by show(PySem.W.lookIn name od).map (·.isSome)=some false;rw[hl,hv];rfl) h
theorem uP {ns:List Str}{Q:Unit->Shared->Prop}(X:K.In s.heap)(I:C6 s.heap x dx C mA)
  (hs:findIn K (.ref C) "__setattr__" = some (some (.builtin "object.__setattr__"))) (hp:plainOver K C=true) (ht:PySem.W.takerIn K C name=some none) (hh:hasDictIn K C=true)
  (hw:PySem.Within mA ns) (hsz:ns.length <= sizeLine)
  (h:∀ h',C6 h' x dx C (fun y=>if y=name then some v else mA y)->Heap.SameBut dx s.heap h'->Q () { s with heap:=h',toks:=s.toks + 2 }) :
  wpAny (model prog w) A (setAttr (.ref x) name v) Q E s:=by
 obtain⟨od,J,hl⟩:=I.look
 refine PySem.W.set_plain X J hs (PySem.W.osa_open (s:={ s with toks:=s.toks + 1 }) (r:=none) X J hp ht fun b=>?_)
 obtain⟨cd,hc,G0⟩:=PySem.W.any_some hh
 have hx:s.heap.get? x=some ⟨.ref C,some dx, .plain,#[]⟩:=I.obj
 refine wpAny_bind (wpAny_pure (wpAny_bind (wpAny_bind (wpAny_loadPart hx (wpAny_bind (PySem.W.Looks.here (s:={ s with toks:=s.toks + 1 }) (PySem.W.looks_clsIn X hc) ?_))))))
 rw[G0]
 refine wpAny_pure (a:=some dx) (wpAny_bind (wpAny_pure (wpAny_bind ?_)))
 refine wpAny_nsSet1 (s:={ s with toks:=s.toks + 1 }) I.ns fun h' AV Eg=>?_
 obtain⟨oD,Ub,Uc,Jg,Jh,Ji⟩:=AV.count (PySem.Within.cons name v hw)
 refine wpAny_bind (wpAny_lookBehind Jg (by rw[Jh];exact pastItsLine_dict (le_trans Ji (by rw[length_cons];omega))) ?_)
 exact wpAny_pure (h _ ⟨(Eg.2 _ (Ne.symm I.ne)).trans I.obj,AV,I.ne⟩ Eg)
theorem tT {R:Result->Shared->Prop}{vs:List Value}{kw:List (Str × Value)}(X:K.In s.heap)(hm:makesIn K C=true)
  (hi:findIn K (.ref C) "__init__" = some (some (.ref f))) (hf:PySem.W.typeIn K (.ref f)=some (.type "function"))
  (h:codeAny (model prog w) (A.under (.builtin "type.__call__" ⟨.ref C :: vs,kw⟩)) (.call (.ref f) ⟨.ref (s.heap.objs.size + 1) :: vs,kw⟩) (PySem.W.InitBack (s.heap.objs.size + 1) R)
   { s with heap:=(s.heap.push PySem.W.emptyDict).push (PySem.W.instObj C s.heap.objs.size) }) :
  codeAny (model prog w) A (.call (.ref C) ⟨vs,kw⟩) R s:=by
 obtain⟨hh,g,d,t,os⟩:=s
 exact PySem.W.make_core (PySem.W.makes_of X hm) (PySem.W.looks_findIn X hi) (fun self=>PySem.W.bind_fn X self hf) (.inl rfl) h
end
noncomputable def aL (f:Str)(v:V):List (Str × V)->List (Str × V)
 | []=>[(f,v)]
 | (g,x) :: r=>if g=f then (g,v) :: r else (g,x) :: aL f v r
theorem fq (f g:Str)(v:V):∀ fs:List (Str × V),(aL f v fs).lookup g=if g=f then some v else fs.lookup g
 | []=>by
  show List.lookup g [(f,v)]=_
  by_cases h:g=f
  ·have hb:(g == f)=true:=beq_iff_eq.mpr h
   simp only[List.lookup,hb,if_pos h]
  ·have hb:(g == f)=false:=beq_eq_false_iff_ne.mpr h
   simp only[List.lookup,hb,if_neg h]
 | (k,x) :: r=>by
  have ih:=fq f g v r
  rw[show aL f v ((k,x) :: r)=(if k=f then (k,v) :: r else (k,x) :: aL f v r) from rfl]
  by_cases hk:k=f
  ·rw[if_pos hk]
   by_cases h:g=k
   ·have hb:(g == k)=true:=beq_iff_eq.mpr h
    simp only[List.lookup,hb,if_pos (h.trans hk)]
   ·have hb:(g == k)=false:=beq_eq_false_iff_ne.mpr h
    simp only[List.lookup,hb,if_neg (fun e:g=f=>h (e.trans hk.symm))]
  ·rw[if_neg hk]
   by_cases h:g=k
   ·have hb:(g == k)=true:=beq_iff_eq.mpr h
    simp only[List.lookup,hb,if_neg (fun e:g=f=>hk (h.symm.trans e))]
   ·have hb:(g == k)=false:=beq_eq_false_iff_ne.mpr h
    simp only[List.lookup,hb]
    exact ih
theorem ip (f:Str)(v:V):∀ fs:List (Str × V),f ∈ (aL f v fs).map (·.1)/\∀ g,g ∈ fs.map (·.1)->g ∈ (aL f v fs).map (·.1)
 | []=>⟨by simp[aL],fun g h=>by simp at h⟩
 | (k,x) :: r=>by
  obtain⟨i1,i2⟩:=ip f v r
  rw[show aL f v ((k,x) :: r)=(if k=f then (k,v) :: r else (k,x) :: aL f v r) from rfl]
  by_cases hk:k=f
  ·rw[if_pos hk]
   subst hk
   exact⟨by simp,fun g h=>by simpa using h⟩
  ·rw[if_neg hk]
   refine⟨?_,fun g h=>?_⟩
   ·rw[map_cons]
    exact mem_cons_of_mem _ i1
   ·rw[map_cons]at h ⊢
    rcases mem_cons.mp h with e | e
    ·exact mem_cons.mpr (.inl e)
    ·exact mem_cons_of_mem _ (i2 g e)
theorem i5 (f:Str)(v:V):∀ fs:List (Str × V),(aL f v fs).length <= fs.length + 1
 | []=>by simp[aL]
 | (k,x) :: r=>by
  have ih:=i5 f v r
  rw[show aL f v ((k,x) :: r)=(if k=f then (k,v) :: r else (k,x) :: aL f v r) from rfl]
  by_cases hk:k=f
  ·rw[if_pos hk,length_cons,length_cons];omega
  ·rw[if_neg hk,length_cons,length_cons];omega
theorem zV.some_of {v:V}{o:Option Value}(r:zV (some v) o):∃ u,o=some u/\RelV v u:=by
 cases o with
 | none=>exact(show False from r).elim
 | some u=>exact⟨u,rfl,r⟩
theorem zV.none_of {o:Option Value}(r:zV none o):o=none:=by
 cases o with
 | none=>rfl
 | some u=>exact(show False from r).elim
theorem qJ {v:V}{u:Value}(r:RelV v u):PySem.W.handedIn u=true:=by
 cases v with
 | zt=>cases (show u=Value.none from r);rfl
 | bl b=>cases (show u=Value.bool b from r);rfl
 | int i=>obtain⟨t,e⟩:=(show ∃ t,u=Value.int i t from r);cases e;rfl
 | str x=>obtain⟨t,e⟩:=(show ∃ t,u=Value.str x t from r);cases e;rfl
 | CL b=>obtain⟨t,e⟩:=(show ∃ t,u=Value.bytes b t from r);cases e;rfl
 | Gu b=>obtain⟨t,e⟩:=(show ∃ t,u=Value.float b t from r);cases e;rfl
 | ref a=>cases (show u=Value.ref a from r);rfl
 | ty n=>cases (show u=Value.type n from r);rfl
section
variable {P:Program}{w:World}{H H':Hp}{h h':Heap}{a C dx:Addr}{fs zO:List (Str × V)}
theorem iO (zg:Ab P w H h)(e:H a=some (.ins C dx fs)):∃ mA,C6 h a dx C mA/\(∀ f,zV (fs.lookup f) (mA f))/\PySem.Within mA (fs.map (·.1))/\fs.length <= 1000/\H dx=some (.own a):=by
 obtain⟨d,z,ne,ob,mA,n,r,q⟩:=(show zu P w H h a (.ins C dx fs) from zg a _ e)
 exact⟨mA,⟨ob,n,ne⟩,r,q,z,d⟩
end
structure B7 (K:Frag)(C:Addr):Prop where
 pg:plainGet K C Str.empty=true
 hd:hasDictIn K C=true
 po:plainOver K C=true
 sa:findIn K (.ref C) "__setattr__" = some (some (.builtin "object.__setattr__"))
theorem B7.get {K:Frag}{C:Addr}(c:B7 K C)(f:Str):plainGet K C f=true:=c.pg
noncomputable def zl (K:Frag)(C:Addr)(f:Str):Prop:=findIn K (.ref C) f=some none
theorem zl.Jj {K:Frag}{C:Addr}{f:Str}(n:zl K C f):PySem.W.takerIn K C f=some none:=by
 unfold PySem.W.takerIn
 rw[show findIn K (.ref C) f=some none from n]
 rfl
structure bA (K:Frag)(C:Addr)(m:Str)(f:Addr):Prop where
 at_:findIn K (.ref C) m=some (some (.ref f))
 fn:isFn K (.ref f)=true
 kp:keepIn K (.ref f)=true
section
variable {X:Cx}{pins:List (Addr × Obj)}{σ:St}{H:Hp}{s:Shared}{a C dx:Addr}{fs:List (Str × V)}{f:Str}{v:V}{A:Around}{E:Value->Shared->Prop}
theorem jv {b:Bool}{Q:Value->Shared->Prop}(I:Inv X pins σ H s)(e:H a=some (.ins C dx fs))(c:B7 X.K C)(n:zl X.K C f)(l:fs.lookup f=some v)
  (h:∀ u s',Inv X pins σ H s'->RelV v u->Q u s'):wpAny (model X.prog X.w) A (getAttr (.ref a) f b) Q E s:=by
 obtain⟨mA,O,r,_,_,_⟩:=iO I.zg e
 obtain⟨u,hu,ru⟩:=zV.some_of (v:=v) (o:=mA f) (by rw[← l];exact r f)
 exact vZ I.zZ O (c.get f) c.hd n hu (qJ ru) (h u _ (I.tok _) ru)
theorem ju {m:Str}{g:Addr}{pl:Sem Bool}{Q:Value × List Value->Shared->Prop}(I:Inv X pins σ H s)(e:H a=some (.ins C dx fs))(c:B7 X.K C)(k:bA X.K C m g)(l:fs.lookup m=none)
  (h:Q (.ref g,[.ref a]) s):wpAny (model X.prog X.w) A (getMethod (.ref a) m pl) Q E s:=by
 obtain⟨mA,O,r,_,_,_⟩:=iO I.zg e
 have hn:mA m=none:=zV.none_of (by rw[← l];exact r m)
 exact ub I.zZ O (c.get m) k.at_ k.fn hn h
theorem ja {y:V}{u:Value}{Q:Unit->Shared->Prop}(I:Inv X pins σ H s)(e:H a=some (.ins C dx fs))(c:B7 X.K C)(n:zl X.K C f)(hl:fs.length < 1000)(ry:RelV y u)
  (h:∀ s',Inv X pins σ (upd H a (.ins C dx (aL f y fs))) s'->Q () s'):wpAny (model X.prog X.w) A (setAttr (.ref a) f u) Q E s:=by
 obtain⟨mA,O,r,wi,_,ho⟩:=iO I.zg e
 have hz:(fs.map (·.1)).length <= sizeLine:=by rw[length_map,sizeLine_eq];omega
 refine uP I.zZ O c.sa c.po n.Jj c.hd wi hz fun h' O' sb=>h _ ?_
 have hd:∃ o,h'.get? dx=some o:=let ⟨o,_,_,e',_⟩:=O'.ns; ⟨o,e'⟩
 refine I.write (x:=a) (e:=dx) (by rw[e];exact True.intro) (.inr ho) (fun b q hb z=>(sb.2 b hb).trans z) hd ?_
 refine⟨by rw[ae O.ne];exact ho,?_,O.ne,O'.obj,_,O'.ns,fun g=>?_,fun g hg=>?_⟩
 ·have:=i5 f y fs;omega
 ·show zV ((aL f y fs).lookup g) (if g=f then some u else mA g)
  rw[fq]
  by_cases q:g=f
  ·rw[if_pos q,if_pos q];exact ry
  ·rw[if_neg q,if_neg q];exact r g
 ·by_cases q:g=f
  ·rw[q];exact(ip f y fs).1
  ·refine(ip f y fs).2 g (wi g fun z=>hg ?_)
   show(if g=f then some u else mA g)=none
   rw[if_neg q];exact z
theorem Inv.made (I:Inv X pins σ H s):Inv X pins σ (upd (upd H s.heap.objs.size (.own (s.heap.objs.size + 1))) (s.heap.objs.size + 1) (.ins C s.heap.objs.size []))
  { s with heap:=(s.heap.push PySem.W.emptyDict).push (PySem.W.instObj C s.heap.objs.size) }:=by
 have e1:(s.heap.push PySem.W.emptyDict).get? s.heap.objs.size=some PySem.W.emptyDict:=Heap.get?_push_size s.heap rfl
 have e2:((s.heap.push PySem.W.emptyDict).push (PySem.W.instObj C s.heap.objs.size)).get? (s.heap.objs.size + 1)=some (PySem.W.instObj C s.heap.objs.size):=by
  have:=Heap.get?_push_size (s.heap.push PySem.W.emptyDict) (o:=PySem.W.instObj C s.heap.objs.size) rfl
  rwa [size_push]at this
 have e3:(s.heap.push PySem.W.emptyDict).Ns s.heap.objs.size (fun _=>none):=⟨PySem.W.emptyDict,#[],_,e1,rfl,(fun e he=>absurd he (by simp)),fun _=>rfl⟩
 have I1:=I.laid (a:=s.heap.objs.size) (o := .own (s.heap.objs.size + 1)) (h':=s.heap.push PySem.W.emptyDict) (t':=s.toks) (fun b u q=>Heap.get?_push_of_some _ q) (Nat.le_refl _) ⟨_,e1⟩
 refine I1.laid (a:=s.heap.objs.size + 1) (o := .ins C s.heap.objs.size []) (t':=s.toks) (fun b u q=>Heap.get?_push_of_some _ q) (le_of_eq (size_push _ _)) ?_
 have ne:s.heap.objs.size ≠ s.heap.objs.size + 1:=ne_of_lt (lt_succ_self _)
 refine⟨by rw[ae ne,ac],zero_le _,ne,e2,fun _=>none,(Heap.Ns1.of_empty e3).at fun o q=>Heap.get?_push_of_some _ q,fun _=>True.intro,fun y hy=>absurd rfl hy⟩
theorem wn {prog:Program}{w:World}{env:Env}{e:Expr}{f:Str}{pos:Pos}{s:Shared}{Q:Value->Shared->Prop}(hb:attributeBase e f env (eval e env)=eval e env)
  (h:wpAny (model prog w) A (eval e env) (fun o s₁=>wpAny (model prog w) A (getAttr o f true) Q E s₁) E s):wpAny (model prog w) A (eval (.Attribute e f pos) env) Q E s :=
 Attribute_any_ h (by rw[arm_eval_Attribute,hb])
end
noncomputable def rl (K:Frag)(ta:TE)(f:Str):TE:=fun σ H Q=>ta σ H fun x H1=>∃ a C dx fs v,x = .ref a/\H1 a=some (.ins C dx fs)/\B7 K C/\zl K C f/\fs.lookup f=some v/\Q v H1
noncomputable def OH (K:Frag)(ta tv:TE)(f:Str):TS:=fun D σ H=>tv σ H fun y H1=>ta σ H1 fun x H2=>∃ a C dx fs,x = .ref a/\H2 a=some (.ins C dx fs)/\B7 K C/\zl K C f/\fs.length < 1000 /\
 D.nx σ (upd H2 a (.ins C dx (aL f y fs)))
noncomputable def OI (X:Cx)(op:Operator)(rd:V->V->Hp->VK->Prop):Prop :=
 ∀ (pins:List (Addr × Obj))(s:Shared)(σ:St)(H:Hp)(x y:V)(u v:Value)(Q:VK),Inv X pins σ H s->RelV x u->RelV y v->rd x y H Q->wpAny (model X.prog X.w) X.A (inplaceOp op u v) (EP X pins σ Q) X.xe s
noncomputable def uW (K:Frag)(ta tv:TE)(rd:V->V->Hp->VK->Prop)(f:Str):TS:=fun D σ H=>ta σ H fun x H1=>∃ a C dx fs v,x = .ref a/\H1 a=some (.ins C dx fs)/\B7 K C/\zl K C f/\fs.lookup f=some v /\
 tv σ H1 fun y H2=>rd v y H2 fun z H3=>∃ Dc zO,H3 a=some (.ins C Dc zO)/\zO.length < 1000/\D.nx σ (upd H3 a (.ins C Dc (aL f z zO)))
section
variable {X:Cx}{o e value:Expr}{f:Str}{pos pos' Dd:Pos}{ta tv:TE}
theorem ao (he:PE X e ta)(hb:attributeBase e f X.env (eval e X.env)=eval e X.env):PE X (.Attribute e f pos) (rl X.K ta f):=by
 intro pins s σ H Q I h
 refine wn hb (aS (he pins s σ H _ I h) fun u s1 ⟨x,H1,I1,rx,a,C,dx,fs,v,ex,ea,c,n,l,q⟩=>?_)
 subst ex
 obtain rfl:u=Value.ref a:=rx
 exact jv I1 ea c n l fun u' s2 I2 ru=>⟨v,H1,I2,ru,q⟩
theorem aX (ha:PE X o ta)(hv:PE X value tv)(hs:swapsWith value (some (.Attribute o f pos')) pos.line X.env=pure false):PS X (.Assign [.Attribute o f pos'] value pos) (OH X.K ta tv f):=by
 intro pins s σ H D I h
 refine plainObj_wpAny_Assign_Attribute (aS (hv pins s σ H _ I h) fun u s1 ⟨y,H1,I1,ry,q⟩=>aS (ha pins s1 σ H1 _ I1 q) fun ov s2 ⟨x,H2,I2,rx,a,C,dx,fs,ex,ea,c,n,l,q2⟩=>?_) hs
 subst ex
 obtain rfl:ov=Value.ref a:=rx
 exact ja I2 ea c n l ry fun s3 I3=>⟨σ,_,I3,q2⟩
theorem dL {op:Operator}{rd:V->V->Hp->VK->Prop}(ha:PE X o ta)(hv:PE X value tv)(BF:OI X op rd):PS X (.AugAssign (.Attribute o f Dd) op value pos) (uW X.K ta tv rd f):=by
 intro pins s σ H D I h
 refine wpAny_AugAssign_AttributeAny (aS (ha pins s σ H _ I h) fun ov s1 ⟨x,H1,I1,rx,a,C,dx,fs,v,ex,ea,c,n,l,q⟩=>?_)
 subst ex
 obtain rfl:ov=Value.ref a:=rx
 refine jv I1 ea c n l fun u s2 I2 ru=>aS (hv pins s2 σ H1 _ I2 q) fun w3 s3 ⟨y,H2,I3,ry,q3⟩=>aS (BF pins s3 σ H2 v y u w3 _ I3 ru ry q3) fun w4 s4 ⟨z,H3,I4,rz,Dc,zO,ea',l',q4⟩=>?_
 exact ja I4 ea' c n l' rz fun s5 I5=>⟨σ,_,I5,q4⟩
end
section
variable {X:Cx}{pins:List (Addr × Obj)}{σ:St}{H:Hp}{s:Shared}{A:Around}{E:Value->Shared->Prop}{Q:Value->Shared->Prop}{c:Value}{b:Bool}
inductive iu (K:Frag)(H:Hp):V->Value->Prop where
 | zt:iu K H .zt (.type "NoneType")
 | bl (x:Bool):iu K H (.bl x) (.type "bool")
 | int (i:Int):iu K H (.int i) (.type "int")
 | str (x:Str):iu K H (.str x) (.type "str")
 | Gu (x:UInt64):iu K H (.Gu x) (.type "float")
 | lst {a:Addr} {xs:List V} (e:H a=some (.lst xs)):iu K H (.ref a) (.type "list")
 | AZ {a:Addr} {o:Obj} {xs:List V} (e:H a=some (.AZ o (.lst xs))):iu K H (.ref a) (.type "list")
 | tup {a:Addr} {xs:List V} (e:H a=some (.tup xs)):iu K H (.ref a) (.type "tuple")
 | dK {a:Addr} {kvs:List (cb × V)} (e:H a=some (.dK kvs)):iu K H (.ref a) (.type "dict")
 | dT {a:Addr} {kvs:List (List cb × V)} (e:H a=some (.dT kvs)):iu K H (.ref a) (.type "dict")
 | ins {a C dx:Addr} {fs:List (Str × V)} (e:H a=some (.ins C dx fs)) (cl:B7 K C) (ha:findIn K (.ref C) "__class__" = some (some (.builtin "object.__class__")))
   (hn:PySem.W.specialIn K (.builtin "object.__class__") "__get__" = some (some (.builtin "getset_descriptor.__get__"))) (Ud:PySem.W.takesIn K (.builtin "object.__class__")=some true)
   (hm:PySem.W.mroIn K C (.type "object")=some true):iu K H (.ref a) (.ref C)
theorem qF {x:V}{u t:Value}(I:Inv X pins σ H s)(rx:RelV x u)(ty:iu X.K H x t)(e:kitOne X.K t c=some b)(h:∀ tk,Q (.bool b) { s with toks:=tk }) :
  wpAny (model X.prog X.w) A (call (.builtin "isinstance") [u,c]) Q E s:=by
 cases ty with
 | zt=>cases (show u=Value.none from rx);exact PySem.W.kia_one PySem.W.kitx_none I.zZ True.intro e (fun z=>nomatch z) h
 | bl y=>cases (show u=Value.bool y from rx);exact PySem.W.kia_one PySem.W.kitx_bool I.zZ True.intro e (fun z=>nomatch z) h
 | int i=>obtain⟨t,q⟩:=(show ∃ t,u=Value.int i t from rx);cases q;exact PySem.W.kia_one PySem.W.kitx_int I.zZ True.intro e (fun z=>nomatch z) h
 | str y=>obtain⟨t,q⟩:=(show ∃ t,u=Value.str y t from rx);cases q;exact PySem.W.kia_one PySem.W.kitx_str I.zZ True.intro e (fun z=>nomatch z) h
 | Gu y=>obtain⟨t,q⟩:=(show ∃ t,u=Value.float y t from rx);cases q;exact PySem.W.kia_one PySem.W.kitx_float I.zZ True.intro e (fun z=>nomatch z) h
 | @lst a xs ea =>
  cases (show u=Value.ref a from rx)
  obtain⟨_,_,n,_,h1⟩:=(show zu X.prog X.w H s.heap a (.lst xs) from I.zg a _ ea)
  exact PySem.W.kia_one PySem.W.kitx_list I.zZ ⟨_,h1,rfl⟩ e (fun z=>nomatch z) h
 | @AZ a ob xs ea =>
  cases (show u=Value.ref a from rx)
  obtain⟨_,_,_,n,_,h1⟩:=(show zu X.prog X.w H s.heap a (.AZ ob (.lst xs)) from I.zg a _ ea)
  exact PySem.W.kia_one PySem.W.kitx_list I.zZ ⟨_,h1,rfl⟩ e (fun z=>nomatch z) h
 | @tup a xs ea =>
  cases (show u=Value.ref a from rx)
  obtain⟨_,_,_,p⟩:=(show zu X.prog X.w H s.heap a (.tup xs) from I.zg a _ ea)
  obtain⟨o,h1,⟨h2,_⟩,_⟩:=p
  exact PySem.W.kia_one PySem.W.kitx_tuple I.zZ ⟨o,h1,h2⟩ e (fun z=>nomatch z) h
 | @dK a kvs ea =>
  cases (show u=Value.ref a from rx)
  obtain⟨_,_,vs,_,p⟩:=(show zu X.prog X.w H s.heap a (.dK kvs) from I.zg a _ ea)
  obtain⟨o,es,ep,h1,h2,_⟩:=p
  exact PySem.W.kia_one PySem.W.kitx_dict I.zZ ⟨o,h1,h2.1⟩ e (fun z=>nomatch z) h
 | @dT a kvs ea =>
  cases (show u=Value.ref a from rx)
  obtain⟨_,_,xs,_,o,es,ep,h1,h2,_⟩:=(show zu X.prog X.w H s.heap a (.dT kvs) from I.zg a _ ea)
  exact PySem.W.kia_one PySem.W.kitx_dict I.zZ ⟨o,h1,h2.1⟩ e (fun z=>nomatch z) h
 | @ins a C dx fs ea cl ha hn Ud hm =>
  cases (show u=Value.ref a from rx)
  obtain⟨mA,O,_⟩:=iO I.zg ea
  obtain⟨od,J,_⟩:=O.look
  exact PySem.W.kia_one (PySem.W.kitx_own (cl.get _) cl.hd ha hn Ud hm) I.zZ J e (fun z=>nomatch z) h
end
end L2
namespace L2
open PySem PySem.Spec PyProof.Rows
structure zm (k:Nat)(A:Around):Prop where
 hd:A.handled=none
 dp:A.depth + 3 * k + 5 < recursionLimit
 un:A.units + 16 * k + 200 < cLine
theorem zm.mono {j k:Nat}{A:Around}(r:zm k A)(h:j <= k):zm j A:=⟨r.hd,by have:=r.dp;omega,by have:=r.un;omega⟩
theorem zm.deeper {k:Nat}{A:Around}(r:zm (k + 1) A)(env:Env):zm k (A.deeper env) :=
 ⟨r.hd,by have:=r.dp;show A.depth + 1 + 3 * k + 5 < _;omega,by have:=r.un;show A.units + 3 + 16 * k + 200 < _;omega⟩
theorem nY {A:Around}{C:Addr}{us:List Value}{kw:List (Str × Value)}:(A.under (.builtin "type.__call__" ⟨.ref C :: us,kw⟩)).depth=A.depth + 1:=by
 first | rfl | simp[Around.under,Code.weight,Code.isCreation,Code.isGuard,Code.isCaller,Code.frames,Code.isFrame,guardIds]
theorem nX {A:Around}{C:Addr}{us:List Value}{kw:List (Str × Value)}:(A.under (.builtin "type.__call__" ⟨.ref C :: us,kw⟩)).units=A.units + 1:=by
 first | rfl | simp[Around.under,Code.cUnits,Code.frames,Code.isFrame]
theorem zm.make {k:Nat}{A:Around}(r:zm (k + 1) A)(C:Addr)(us:List Value)(kw:List (Str × Value)):zm k (A.under (.builtin "type.__call__" ⟨.ref C :: us,kw⟩)) :=
 ⟨r.hd,by have:=r.dp;rw[nY];omega,by have:=r.un;rw[nX];omega⟩
theorem zm.depth {k:Nat}{A:Around}(r:zm k A):A.depth < recursionLimit:=by have:=r.dp;omega
theorem zm.units {k:Nat}{A:Around}(r:zm k A):A.units + 64 < cLine:=by have:=r.un;omega
noncomputable def Jk:TA:=fun _ H Q=>Q [] H
noncomputable def Jl (ta:TE)(tr:TA):TA:=fun σ H Q=>ta σ H fun x H1=>tr σ H1 fun xs H2=>Q (x :: xs) H2
section
variable {X:Cx}{e:Expr}{es:List Expr}{te:TE}{t:TA}{pos:Pos}
theorem ad:PA X [] Jk:=fun _ _ _ _ H Q I h=>Calls.spliced_nil ⟨[],H,I, .nil,h⟩
theorem aa (ha:PE X e te)(hr:PA X es t)(hs:starEach (e :: es) X.env=(false,eval e X.env) :: starEach es X.env:=by rfl):PA X (e :: es) (Jl te t):=by
 intro pos pins s σ H Q I h
 rw[hs]
 show wpAny _ _ (spliced ((false,eval e X.env) :: backTo pos (starEach es X.env))) _ _ s
 refine Calls.spliced_cons (aS (ha pins s σ H _ I h) fun u s1 ⟨x,H1,I1,r1,q1⟩=>?_)
 exact aS (hr pos pins s1 σ H1 _ I1 q1) fun us s2 ⟨xs,H2,I2,r2,q2⟩=>⟨x :: xs,H2,I2, .cons r1 r2,q2⟩
noncomputable def OJ (t:TA):TE:=fun σ H Q=>t σ H fun xs H1=>xs.length <= sizeLine/\∀ p,H1 p=none->Q (.ref p) (upd H1 p (.tup xs))
noncomputable def OL (t:TA):TE:=fun σ H Q=>t σ H fun xs H1=>xs.length <= sizeLine/\∀ p,H1 p=none->Q (.ref p) (upd H1 p (.lst xs))
theorem bG {x1} (h:PA X es t):PE X (.Tuple es x1 pos) (OJ t):=by
 intro pins s σ H Q I hq
 refine wpAny_Tuple_spliced (aS (h pos pins s σ H _ I hq) fun us s1 ⟨xs,H1,I1,r,z,q⟩=>⟨by rw[← r.length];exact z,?_⟩)
 have hf:H1 s1.heap.objs.size=none:=I1.zg.fresh (Nat.le_refl _)
 refine⟨.ref s1.heap.objs.size,upd H1 s1.heap.objs.size (.tup xs),I1.laid (t':=s1.toks) (fun b u e=>Heap.get?_push_of_some _ e) (Nat.le_refl _) ?_,rfl,q _ hf⟩
 exact⟨z,us,r,⟨_,Heap.get?_push_size _ rfl,⟨rfl,_,rfl⟩,rfl⟩⟩
theorem aU (h:PA X es t):PE X (.List es pos) (OL t):=by
 intro pins s σ H Q I hq
 refine wpAny_List_spliced (aS (h pos pins s σ H _ I hq) fun us s1 ⟨xs,H1,I1,r,z,q⟩=>⟨by rw[← r.length];exact z,?_⟩)
 have hf:H1 s1.heap.objs.size=none:=I1.zg.fresh (Nat.le_refl _)
 refine⟨.ref s1.heap.objs.size,upd H1 s1.heap.objs.size (.lst xs),I1.laid (t':=s1.toks) (fun b u e=>Heap.get?_push_of_some _ e) (Nat.le_refl _) ?_,rfl,q _ hf⟩
 exact⟨z,us,0,r,Heap.get?_push_size _ rfl⟩
end
abbrev Sp:=List V->Hp->VK->XK->Prop
abbrev oF:=List Env->Hp->Shared->XK->Value->Shared->Prop
structure C7 (P:Program)(w:World)(K:Frag)(mg:Str->Option Value)(base:Heap)(A:Around)(outer:List Env)(s:Shared)(H:Hp):Prop where
 frames:A.frames=some outer
 mod:Mod K mg base
 bs:∀ b o,base.get? b=some o->s.heap.get? b=some o/\H b=none
 Ey:base.objs.size <= s.heap.objs.size
 Bf:s.heap.FunFrames base outer
 Gz:∀ b ∈ lg outer,H b=none
 zg:Ab P w H s.heap
 bare:AllBare s.gens
noncomputable def CE (outer:List Env)(P:Program)(w:World)(H:Hp)(s:Shared)(Q:VK)(u:Value)(s':Shared):Prop :=
 ∃ v H',s'.os=s.os/\AllBare s'.gens/\Un (lg outer) [] H H' s.heap s'.heap/\Ab P w H' s'.heap/\RelV v u/\Q v H'
noncomputable def CR (CX:oF)(outer:List Env)(P:Program)(w:World)(H:Hp)(s:Shared)(Q:VK)(E:XK)(r:Result)(s':Shared):Prop :=
 match r with
 | .ok (.ret u)=>CE outer P w H s Q u s'
 | .ok _=>False
 | .error e=>CX outer H s E e s'
structure zb (P:Program)(w:World)(K:Frag)(mg:Str->Option Value)(base:Heap)(CX:oF)(k:Nat)(f:Addr)(fd:FuncData)(ps:List Str)(sp:Sp):Prop where
 len:∀ vs H Q E,sp vs H Q E->vs.length=ps.length
 run:∀ (A:Around)(outer:List Env)(s:Shared)(H:Hp)(args:Args)(us:List Value)(vs:List V)(Q:VK)(E:XK),zm k A->C7 P w K mg base A outer s H->BindsTo s fd args (ps.zip us)->Vals vs us->sp vs H Q E ->
  codeAny (model P w) A (.call (.ref f) args) (CR CX outer P w H s Q E) s
theorem zb.imp {P:Program}{w:World}{K:Frag}{mg:Str->Option Value}{base:Heap}{CX:oF}{k:Nat}{f:Addr}{fd:FuncData}{ps:List Str}{sp Ue:Sp}(F:zb P w K mg base CX k f fd ps sp)
  (h:∀ vs H Q E,Ue vs H Q E->sp vs H Q E):zb P w K mg base CX k f fd ps Ue :=
 ⟨fun vs H Q E q=>F.len vs H Q E (h _ _ _ _ q),fun A outer s H args us vs Q E hr he hb hv hs=>F.run A outer s H args us vs Q E hr he hb hv (h _ _ _ _ hs)⟩
theorem C7.make {P:Program}{w:World}{K:Frag}{mg:Str->Option Value}{base:Heap}{A:Around}{outer:List Env}{s:Shared}{H:Hp}(e:C7 P w K mg base A outer s H)(C:Addr)(us:List Value)(kw:List (Str × Value)) :
  C7 P w K mg base (A.under (.builtin "type.__call__" ⟨.ref C :: us,kw⟩)) outer s H:=⟨by first | exact e.frames | (simpa [Around.under,Code.envs,Code.isFrame,pushEnvs] using e.frames),e.mod,e.bs,e.Ey,e.Bf,e.Gz,e.zg,e.bare⟩
section
variable {X:Cx}{pins:List (Addr × Obj)}{σ:St}{H:Hp}{s s':Shared}
theorem Inv.G6 (I:Inv X pins σ H s):C7 X.prog X.w X.K X.mg X.base X.A X.stack s H :=
 ⟨I.ok.frames,I.ok.mod,I.bs,le_trans I.ok.Ey I.sz,I.stack,I.BE,I.zg,I.bare⟩
theorem Inv.after {Q:VK}{u:Value}(I:Inv X pins σ H s)(h:CE X.stack X.prog X.w H s Q u s'):EP X pins σ Q u s':=by
 obtain⟨v,H',os,bare,un,zg,r,q⟩:=h
 obtain⟨hh,g,d,t,os'⟩:=s'
 obtain rfl:os' = s.os:=os
 exact⟨v,H',I.call (h':=hh) (g':=g) (d':=d) (t':=t) (ch:=[]) un zg bare (fun b z=>absurd z (by simp)),r,q⟩
end
noncomputable def Jm (sp:Sp)(Ai:List V)(E:XK)(t:TA):TE:=fun σ H Q=>t σ H fun vs H1=>sp (vs ++ Ai) H1 Q E
noncomputable def wB (C:Addr)(m:Str)(sp:Sp)(Ai:List V)(E:XK)(ta:TE)(t:TA):TE:=fun σ H Q=>ta σ H fun x H1=>∃ a dx fs,x = .ref a/\H1 a=some (.ins C dx fs)/\fs.lookup m=none /\
 t σ H1 fun vs H2=>sp (x :: (vs ++ Ai)) H2 Q E
noncomputable def Jn (C:Addr)(sp:Sp)(Ai:List V)(E:XK)(t:TA):TE:=fun σ H Q=>t σ H fun vs H1=>∀ x dx,H1 x=none->H1 dx=none->dx ≠ x ->
 sp (.ref x :: (vs ++ Ai)) (upd (upd H1 dx (.own x)) x (.ins C dx [])) (fun v H2=>v = .zt/\Q (.ref x) H2) E
noncomputable def Binds (K:Frag)(fd:FuncData)(ps:List Str)(ds:List Value):Prop :=
 ∀ (s:Shared)(us:List Value),K.In s.heap->(us ++ ds).length=ps.length->BindsTo s fd ⟨us,[]⟩ (ps.zip (us ++ ds))
theorem Binds.all {K:Frag}{fd:FuncData}{ps:List Str}(h:∀ us:List Value,us.length=ps.length->bindArgs fd ⟨us,[]⟩ = pure (ps.zip us)):Binds K fd ps []:=fun s us _ hl=>by
 rw[append_nil]at hl ⊢
 exact .of_eq (h us hl)
noncomputable def dH (CX:oF)(X:Cx)(E:XK):Prop:=∀ (pins:List (Addr × Obj))(σ:St)(H:Hp)(s:Shared)(e:Value)(s':Shared),Inv X pins σ H s->CX X.stack H s E e s'->X.xe e s'
section
variable {X:Cx}{CX:oF}{k:Nat}{f C:Addr}{fd:FuncData}{ps:List Str}{sp:Sp}{Ai:List V}{ds:List Value}{E:XK}{x m:Str}{p pos apos:Pos}{e o:Expr}{es:List Expr}{ta:TE}{t:TA}
theorem kK {pins:List (Addr × Obj)}{σ:St}{H:Hp}{s:Shared}{Q:VK}{us:List Value}{vs:List V}(F:zb X.prog X.w X.K X.mg X.base CX k f fd ps sp)(hr:zm k X.A)(hb:Binds X.K fd ps ds)(hd:Vals Ai ds)(hx:dH CX X E)
  (I:Inv X pins σ H s) (r:Vals vs us) (h:sp (vs ++ Ai) H Q E):wpAny (model X.prog X.w) X.A (call (.ref f) us) (EP X pins σ Q) X.xe s:=by
 have r2:Vals (vs ++ Ai) (us ++ ds):=r.append hd
 have hl:(us ++ ds).length=ps.length:=by rw[← r2.length];exact F.len _ _ _ _ h
 refine wpAny_call (codeAny_mono (F.run X.A X.stack s H ⟨us,[]⟩ (us ++ ds) (vs ++ Ai) Q E hr I.G6 (hb s us I.zZ hl) r2 h) fun r s' hq=>?_)
 cases r with
 | error e=>exact hx pins σ H s e s' I hq
 | ok fl =>
  cases fl with
  | ret u=>exact I.after hq
  | next=>exact False.elim hq
  | brk=>exact False.elim hq
  | cont=>exact False.elim hq
theorem au (F:zb X.prog X.w X.K X.mg X.base CX k f fd ps sp)(hr:zm k X.A)(hg:Gl X x)(hm:X.mg x=some (.ref f))(hk:keepIn X.K (.ref f)=true)(hb:Binds X.K fd ps ds)(hd:Vals Ai ds)(hx:dH CX X E)
  (ha:PA X (e :: es) t) (Dz:(x == ("__debug__":Str))=false:=by decide) (he:starEach (e :: es) X.env=(false,eval e X.env) :: starEach es X.env:=by rfl) (Aj:(backTo pos (starEach es X.env)).any (·.1)=false:=by rfl) :
  PE X (.Call (.Name x p) (e :: es) [] pos) (Jm sp Ai E t):=by
 intro pins s σ H Q I h
 refine wpAny_Call_Name_kw (gS I hg hm ?_ Dz)
 refine PySem.W.callWith_K (h₀:=X.base) I.ok.mod.Dv hk (aS (ha pos pins s σ H _ I h) fun us s1 ⟨vs,H1,I1,r,q⟩=>⟨I1.zZ,?_⟩) he Aj
 exact kK F hr hb hd hx I1 r q
theorem aB {pl:Sem Bool}(he:PE X o ta)(c:B7 X.K C)(hm:bA X.K C m f)(F:zb X.prog X.w X.K X.mg X.base CX k f fd ps sp)(hr:zm k X.A)(hb:Binds X.K fd ps ds)(hd:Vals Ai ds)(hx:dH CX X E)(ha:PA X (e :: es) t)
  (B0:starEach (e :: es) X.env=(false,eval e X.env) :: starEach es X.env:=by rfl) (Aj:(backTo pos (starEach es X.env)).any (·.1)=false:=by rfl)
  (ht:eval (.Call (.Attribute o m apos) (e :: es) [] pos) X.env=(do
   let ov ← eval o X.env
   standAt apos.atName
   let (f,first) ← holding [ov] (getMethod ov m pl)
   callWith pos f first (backTo pos (starEach (e :: es) X.env)) (backToKw pos (keywordEach [] X.env))):=by rfl) :
  PE X (.Call (.Attribute o m apos) (e :: es) [] pos) (wB C m sp Ai E ta t):=by
 intro pins s σ H Q I h
 refine PySem.W.methodCall_KW (pl:=pl) (aS (he pins s σ H _ I h) fun u s1 ⟨x,H1,I1,rx,a,dx,fs,ex,ea,l,q⟩=>?_) ht
 subst ex
 obtain rfl:u=Value.ref a:=rx
 refine ju I1 ea c hm l ?_
 refine PySem.W.callWith_K (first:=[.ref a]) (h₀:=X.base) I.ok.mod.Dv hm.kp (aS (ha pos pins s1 σ H1 _ I1 q) fun us s2 ⟨vs,H2,I2,r,q2⟩=>⟨I2.zZ,?_⟩) B0 Aj
 exact kK (us := .ref a :: us) (vs := .ref a :: vs) F hr hb hd hx I2 (.cons rfl r) q2
theorem ci {pl:Sem Bool}(he:PE X o ta)(c:B7 X.K C)(hm:bA X.K C m f)(F:zb X.prog X.w X.K X.mg X.base CX k f fd ps sp)(hr:zm k X.A)(hb:Binds X.K fd ps ds)(hd:Vals Ai ds)(hx:dH CX X E)
  (ht:eval (.Call (.Attribute o m apos) [] [] pos) X.env=(do
   let ov ← eval o X.env
   standAt apos.atName
   let (f,first) ← holding [ov] (getMethod ov m pl)
   callWith pos f first (backTo pos (starEach [] X.env)) (backToKw pos (keywordEach [] X.env))):=by rfl) :
  PE X (.Call (.Attribute o m apos) [] [] pos) (wB C m sp Ai E ta Jk):=by
 intro pins s σ H Q I h
 refine PySem.W.methodCall_KW (pl:=pl) (aS (he pins s σ H _ I h) fun u s1 ⟨x,H1,I1,rx,a,dx,fs,ex,ea,l,q⟩=>?_) ht
 subst ex
 obtain rfl:u=Value.ref a:=rx
 refine ju I1 ea c hm l ?_
 exact PySem.W.callWith_K0 (first:=[.ref a]) I1.zZ hm.kp (kK (us:=[.ref a]) (vs:=[.ref a]) F hr hb hd hx I1 (.cons rfl .nil) q)
structure Mk (K:Frag)(C f:Addr):Prop where
 makes:makesIn K C=true
 init:findIn K (.ref C) "__init__" = some (some (.ref f))
 fn:isFn K (.ref f)=true
 kp:keepIn K (.ref C)=true
theorem sG {pins:List (Addr × Obj)}{σ:St}{H:Hp}{s:Shared}{Q:VK}{us:List Value}{vs:List V}(M:Mk X.K C f)(F:zb X.prog X.w X.K X.mg X.base CX k f fd ps sp)(hr:zm (k + 1) X.A)(hb:Binds X.K fd ps ds)(hd:Vals Ai ds)
  (hx:dH CX X E) (I:Inv X pins σ H s) (r:Vals vs us)
  (h:∀ x dx,H x=none->H dx=none->dx ≠ x->sp (.ref x :: (vs ++ Ai)) (upd (upd H dx (.own x)) x (.ins C dx [])) (fun v H2=>v = .zt/\Q (.ref x) H2) E) :
  wpAny (model X.prog X.w) X.A (call (.ref C) us) (EP X pins σ Q) X.xe s:=by
 have hq:=h (s.heap.objs.size + 1) s.heap.objs.size (I.zg.fresh (le_succ _)) (I.zg.fresh (Nat.le_refl _)) (ne_of_lt (lt_succ_self _))
 have I2:=Inv.made (C:=C) I
 have r2:Vals (V.ref (s.heap.objs.size + 1) :: (vs ++ Ai)) (Value.ref (s.heap.objs.size + 1) :: (us ++ ds)) := .cons rfl (r.append hd)
 have hl:(Value.ref (s.heap.objs.size + 1) :: us ++ ds).length=ps.length:=by
  have e:=r2.length
  rw[F.len _ _ _ _ hq]at e
  exact e.symm
 refine wpAny_call (tT (f:=f) I.zZ M.makes M.init (beq_iff_eq.mp M.fn) (codeAny_mono (F.run _ X.stack _ _ ⟨Value.ref (s.heap.objs.size + 1) :: us,[]⟩ (Value.ref (s.heap.objs.size + 1) :: (us ++ ds)) _ _ E (hr.make C us [])
  (I2.G6.make C us []) (hb _ (Value.ref (s.heap.objs.size + 1) :: us) I2.zZ hl) r2 hq) fun r s' BG=>?_))
 cases r with
 | error e=>exact hx pins σ _ _ e s' I2 BG
 | ok fl =>
  cases fl with
  | ret u =>
   obtain⟨v,H',I3,rv,ev,q3⟩:=I2.after BG
   subst ev
   exact⟨rv,⟨V.ref (s.heap.objs.size + 1),H',I3,rfl,q3⟩⟩
  | next=>exact False.elim BG
  | brk=>exact False.elim BG
  | cont=>exact False.elim BG
theorem du (M:Mk X.K C f)(F:zb X.prog X.w X.K X.mg X.base CX k f fd ps sp)(hr:zm (k + 1) X.A)(hg:Gl X x)(hm:X.mg x=some (.ref C))(hb:Binds X.K fd ps ds)(hd:Vals Ai ds)(hx:dH CX X E)
  (ha:PA X (e :: es) t) (Dz:(x == ("__debug__":Str))=false:=by decide) (he:starEach (e :: es) X.env=(false,eval e X.env) :: starEach es X.env:=by rfl) (Aj:(backTo pos (starEach es X.env)).any (·.1)=false:=by rfl) :
  PE X (.Call (.Name x p) (e :: es) [] pos) (Jn C sp Ai E t):=by
 intro pins s σ H Q I h
 refine wpAny_Call_Name_kw (gS I hg hm ?_ Dz)
 refine PySem.W.callWith_K (h₀:=X.base) I.ok.mod.Dv M.kp (aS (ha pos pins s σ H _ I h) fun us s1 ⟨vs,H1,I1,r,q⟩=>⟨I1.zZ,?_⟩) he Aj
 exact sG M F hr hb hd hx I1 r q
end
section
variable {X:Cx}{CX:oF}{k:Nat}{f C:Addr}{fd:FuncData}{ps ks:List Str}{sp:Sp}{E:XK}{x m:Str}{p pos apos kpos:Pos}{e o:Expr}{es:List Expr}{kws:List Keyword}{te ta:TE}{t tk:TA}{nm:Option Str}
variable {g:List Value->List Value->List Value}{gV:List V->List V->List V}
end
structure ap (N P:List Str)(sc:Scope):Prop where
 kind:sc.kind = .function
 co:sc.isCoroutine=false
 gen:sc.isGenerator=false
 nd:N.Nodup
 pre:N.take P.length=P
 par:∀ x ∈ P,sc.names.lookup x=some .local∨sc.names.lookup x=some .cell
 G7:∀ y ∈ sc.names,y.2 ≠ .free
theorem kq {kindOf:Str->Option NameKind}{x:Str}:∀ {binds:List (Str × Value)}{m:Str->Option Value},(∀ v,(x,v) ∉ binds)->bindL kindOf binds m x=m x
 | [],_,_=>rfl
 | (n,v) :: r,m,h=>by
  unfold bindL
  rw[kq fun w hw=>h w (mem_cons_of_mem _ hw)]
  split
  ·have:x ≠ n:=by rintro rfl;exact h v mem_cons_self
   simp[this]
  ·rfl
theorem ky {kindOf:Str->Option NameKind}{x:Str}:∀ {binds:List (Str × Value)}{m:Str->Option Value},(∀ v,(x,v) ∉ binds)->bindC kindOf binds m x=m x
 | [],_,_=>rfl
 | (n,v) :: r,m,h=>by
  unfold bindC
  rw[ky fun w hw=>h w (mem_cons_of_mem _ hw)]
  split
  ·rfl
  ·have:x ≠ n:=by rintro rfl;exact h v mem_cons_self
   simp[this]
theorem ku {kindOf:Str->Option NameKind}{x:Str}{v:Value}:∀ {P:List Str}{vs:List Value}{i:Nat}{m:Str->Option Value},P.Nodup->P[i]? = some x->vs[i]? = some v->kindOf x=some .local ->
  bindL kindOf (P.zip vs) m x=some v
 | [],_,_,_,_,h,_,_=>by simp at h
 | _ :: _,[],_,_,_,_,h,_=>by simp at h
 | p :: P,w :: vs,0,m,nd,h1,h2,hk=>by
  simp at h1 h2;subst h1;subst h2
  show bindL kindOf ((p,w) :: P.zip vs) m p=_
  unfold bindL
  rw[kq fun v hv=>(nodup_cons.mp nd).1 (of_mem_zip hv).1,if_pos hk]
  simp
 | p :: P,w :: vs,i + 1,m,nd,h1,h2,hk=>by
  show bindL kindOf ((p,w) :: P.zip vs) m x=_
  unfold bindL
  exact ku (i:=i) (nodup_cons.mp nd).2 (by simpa using h1) (by simpa using h2) hk
theorem kz {kindOf:Str->Option NameKind}{x:Str}{v:Value}:∀ {P:List Str}{vs:List Value}{i:Nat}{m:Str->Option Value},P.Nodup->P[i]? = some x->vs[i]? = some v->kindOf x ≠ some .local ->
  bindC kindOf (P.zip vs) m x=some v
 | [],_,_,_,_,h,_,_=>by simp at h
 | _ :: _,[],_,_,_,_,h,_=>by simp at h
 | p :: P,w :: vs,0,m,nd,h1,h2,hk=>by
  simp at h1 h2;subst h1;subst h2
  show bindC kindOf ((p,w) :: P.zip vs) m p=_
  unfold bindC
  rw[ky fun v hv=>(nodup_cons.mp nd).1 (of_mem_zip hv).1,if_neg hk]
  simp
 | p :: P,w :: vs,i + 1,m,nd,h1,h2,hk=>by
  show bindC kindOf ((p,w) :: P.zip vs) m x=_
  unfold bindC
  exact kz (i:=i) (nodup_cons.mp nd).2 (by simpa using h1) (by simpa using h2) hk
noncomputable def start (N:List Str)(vs:List V):St:=vs.map some ++ List.replicate (N.length - vs.length) none
noncomputable def iB (CX:oF)(P:Program)(w:World)(K:Frag)(mg:Str->Option Value)(base:Heap)(N:List Str)(qual:Str)(scope:Scope)(f:Addr)(cd:Value)(A:Around)(outer:List Env)(s:Shared)(H:Hp)(E:XK):Cx where
 prog:=P
 w:=w
 K:=K
 mg:=mg
 base:=base
 A:=A.deeper (envOfC qual scope s.heap.objs.size f cd)
 N:=N
 s₀:=s
 H₀:=H
 env:=envOfC qual scope s.heap.objs.size f cd
 outer:=outer
 stack:=envOfC qual scope s.heap.objs.size f cd :: outer
 ex:=[]
 calm:=true
 fn:=fun _=>true
 pn:=[]
 xe:=fun e s'=>wpAny (model P w) (A.deeper (envOfC qual scope s.heap.objs.size f cd)) (leaving (envOfC qual scope s.heap.objs.size f cd) e) (fun _ G8=>CX outer H s E e G8) (fun e' G8=>CX outer H s E e' G8) s'
theorem mR {sc:Scope}{n:Nat}{x:Str}(h:sc.names.lookup x=some .cell):∃ c,(cellsFrom n sc.names []).lookup x=some c:=by
 have q:=PySem.W.cellsFrom_some sc.names n [] (.inl h)
 exact Option.isSome_iff_exists.mp q
theorem qG {CX:oF}{P:Program}{w:World}{K:Frag}{mg:Str->Option Value}{base:Heap}{N ps:List Str}{qual:Str}{scope:Scope}{f:Addr}{cd:Value}{A:Around}{outer:List Env}{s s1:Shared}{H:Hp}{E:XK}{us:List Value}{vs:List V}
  (S:ap N ps scope) (hd:A.handled=none) (e0:C7 P w K mg base A outer s H) (hl:vs.length=ps.length) (r:Vals vs us)
  (x:InCallC s s.heap.objs.size (bindL (envOfC qual scope s.heap.objs.size f cd).kindOf (ps.zip us) fun _=>none) (cellsFrom (s.heap.objs.size + 1) scope.names []) (bindC (envOfC qual scope s.heap.objs.size f cd).kindOf (ps.zip us) fun _=>none) s1) :
  Inv (iB CX P w K mg base N qual scope f cd A outer s H E) [] (start N vs) H s1:=by
 have Aj:ps.length <= N.length:=by have:=congrArg List.length S.pre;rw[length_take]at this;omega
 obtain⟨h1,tk,rfl,hk⟩:=x.done
 have Jo:∀ b:Addr,b ∉ (iB CX P w K mg base N qual scope f cd A outer s H E).ex:=fun b z=>absurd (show b ∈ ([]:List Addr) from z) (by simp)
 refine⟨⟨e0.mod,S.kind,rfl,rfl,Nat.le_refl _,fun y z c h1 h2=>?_,fun y hy=>?_,fun y c _ h=>?_,fun _=>hd,Around.frames_deeper e0.frames, .inr ⟨rfl,rfl⟩,fun b z=>absurd z (Jo b),e0.bs,e0.Ey,fun b _ _=>Jo b,fun b z=>absurd z (Jo b),e0.Bf,e0.Gz⟩,
  rfl,e0.bare,Un.kept hk,⟨_,x.toInCall.ns,fun i y v h1 h2 h3=>?_⟩,fun y c h=>⟨_,x.cell y c h⟩,e0.zg.fresh (Nat.le_refl _),fun y c h=>?_,fun p hp=>absurd (show p ∈ ([]:List (Addr × Obj)) from hp) (by simp),e0.zg.kept hk,?_⟩
 ·exact name_of_addr x.apart (PySem.mem_of_lookup h1) (PySem.mem_of_lookup h2)
 ·have hy:scope.names.lookup y=some .cell∨scope.names.lookup y=some .free:=hy
  rcases hy with hy | hy
  ·exact mR hy
  ·exact absurd rfl (S.G7 _ (PySem.mem_of_lookup hy))
 ·exact le_of_lt (x.above y c (PySem.mem_of_lookup h))
 ·have hi:i < vs.length:=by
   unfold start at h2
   by_cases hi:i < vs.length
   ·exact hi
   ·rw[List.getElem?_append_right (by simpa using hi)]at h2
    rw[List.getElem?_replicate]at h2
    split at h2<;>cases h2
  have ha:vs[i]? = some v:=by
   unfold start at h2
   rw[List.getElem?_append_left (by simpa using hi),List.getElem?_map]at h2
   cases e:vs[i]? with
   | none=>rw[e]at h2;cases h2
   | some a=>rw[e]at h2;cases h2;rfl
  obtain⟨u,hu,rv⟩:=r.get ha
  have hp:ps[i]? = some y:=by
   rw[← S.pre,List.getElem?_take_of_lt (by omega)];exact h1
  have Ug:ps.Nodup:=by rw[← S.pre];exact S.nd.sublist (List.take_sublist _ _)
  refine⟨u,rv,?_⟩
  rcases S.par y (mem_of_getElem? hp) with k | k
  ·exact .inl ⟨k,ku Ug hp hu k⟩
  ·obtain⟨c,e⟩:=mR (n:=s.heap.objs.size + 1) k
   refine .inr ⟨.inl k,c,e,?_⟩
   have q:=x.cell y c e
   rw[kz Ug hp hu (by show scope.names.lookup y ≠ _;rw[k];decide)]at q
   exact q
 ·exact e0.zg.fresh (le_of_lt (x.above y c (PySem.mem_of_lookup h)))
 ·unfold start
  show _=N.length
  rw[length_append,length_map,length_replicate]
  omega
theorem ud {CX:oF}{P:Program}{w:World}{K:Frag}{mg:Str->Option Value}{base:Heap}{k:Nat}{f:Addr}{name qual:Str}{params:Arguments}{body:List Stmt}{scope:Scope}{dV kV doc pm cdv ct oc:Value}{an od:Option Addr}
  {C8:Array (Option Value)} {N ps:List Str} {sp:Sp} (lk:K.lookup f=some ⟨oc,od, .func (fnOf name qual params body scope dV kV doc pm an cdv ct),C8⟩) (C5:codeIn K cdv qual=true) (S:ap N ps scope)
  (len:∀ vs H Q E,sp vs H Q E->vs.length=ps.length)
  (Bq:∀ (A:Around)(outer:List Env)(s:Shared)(H:Hp)(vs:List V)(Q:VK)(E:XK),zm k (A.deeper (envOfC qual scope s.heap.objs.size f cdv))->sp vs H Q E ->
   ∃ t,C4 (iB CX P w K mg base N qual scope f cdv A outer s H E) body t/\t { nx:=fun _ H'=>Q .zt H',rt:=Q } (start N vs) H) :
  zb P w K mg base CX (k + 1) f (fnOf name qual params body scope dV kV doc pm an cdv ct) ps sp:=by
 refine⟨len,fun A outer s H args us vs Q E hr e0 hb r D3=>?_⟩
 have hl:=len _ _ _ _ D3
 have KX:K.In s.heap:=e0.mod.Dv.keeps fun b o e=>(e0.bs b o e).1
 have lim:s.heap.NoLimit:=e0.mod.nolimit.keeps fun b o e=>(e0.bs b o e).1
 have Jp:∀ y ∈ ps.zip us,scope.names.lookup y.1=some .local∨(scope.names.lookup y.1=some .cell/\((cellsFrom (s.heap.objs.size + 1) scope.names []).lookup y.1).isSome=true):=fun⟨n,v⟩ hy=>by
  rcases S.par n (of_mem_zip hy).1 with q | q
  ·exact .inl q
  ·exact .inr ⟨q,PySem.W.cellsFrom_some _ _ _ (.inl q)⟩
 refine codeAny_call_function hr.depth (KX _ _ lk) rfl S.co S.gen rfl (PySem.W.codeRec_of KX C5) (hb _ _ _ _ ?_)
 refine wpAny_newFunctionEnv_cells S.kind Jp fun env he s1 x=>?_
 subst he
 refine⟨lim.keeps x.toInCall.keep,codeAny_func ?_⟩
 obtain⟨t,ht,hq⟩:=Bq A outer s H vs Q E (hr.deeper _) D3
 have I:Inv (iB CX P w K mg base N qual scope f cdv A outer s H E) [] (start N vs) H s1:=qG S hr.hd e0 hl r x
 refine wpAny_mono (ht [] s1 (start N vs) H _ I hq) (fun fl s' hs=>?_) fun e s' hs=>hs
 have fin:∀ {σ':St}{H':Hp}{v:V}{u:Value},Inv (iB CX P w K mg base N qual scope f cdv A outer s H E) [] σ' H' s'->RelV v u->Q v H'->CE outer P w H s Q u s' :=
  fun {σ' H' v u} J rv q=>⟨v,H',J.os,J.bare,J.base,J.zg,rv,q⟩
 cases fl with
 | ret u =>
  obtain⟨v,σ',H',J,rv,q⟩:=hs
  exact fin J rv q
 | next =>
  obtain⟨σ',H',J,q⟩:=hs
  exact fin (v:=V.zt) (u:=Value.none) J rfl q
 | brk =>
  obtain⟨_,_,_,q⟩:=hs
  exact False.elim q
 | cont =>
  obtain⟨_,_,_,q⟩:=hs
  exact False.elim q
end L2
namespace L2
open PySem PySem.Spec PyProof.Rows
section
variable {X:Cx}{x:Str}{p pos:Pos}{e:Expr}{es:List Expr}{t:TA}{id T:String}{r:List V->Hp->VK->Prop}
noncomputable def Uh (r:List V->Hp->VK->Prop)(t:TA):TE:=fun σ H Q=>t σ H fun vs H1=>r vs H1 Q
theorem aF (hc:fD X (.builtin id) r)(hg:Gl X x)(hm:X.mg x=none)(hv:bootBuiltins x=some (.builtin id))(ha:PA X (e :: es) t)(hn:x ≠ "__name__":=by decide)(Dz:(x == ("__debug__":Str))=false:=by decide)
  (he:starEach (e :: es) X.env=(false,eval e X.env) :: starEach es X.env:=by rfl) (Aj:(backTo pos (starEach es X.env)).any (·.1)=false:=by rfl):PE X (.Call (.Name x p) (e :: es) [] pos) (Uh r t):=by
 intro pins s σ H Q I h
 refine wpAny_Call_Name_kw (io I hg hm hv ?_ hn Dz)
 exact PyProof.Rows.callWith_builtin1 (aS (ha pos pins s σ H _ I h) fun us s1 ⟨vs,H1,I1,r1,q1⟩=>hc pins s1 σ H1 vs us Q I1 r1 q1) he Aj
theorem bW (hc:fD X (.type T) r)(hg:Gl X x)(hm:X.mg x=none)(hv:bootBuiltins x=some (.type T))(ha:PA X (e :: es) t)(hn:x ≠ "__name__":=by decide)(Dz:(x == ("__debug__":Str))=false:=by decide)
  (he:starEach (e :: es) X.env=(false,eval e X.env) :: starEach es X.env:=by rfl) (Aj:(backTo pos (starEach es X.env)).any (·.1)=false:=by rfl):PE X (.Call (.Name x p) (e :: es) [] pos) (Uh r t):=by
 intro pins s σ H Q I h
 refine wpAny_Call_Name_kw (io I hg hm hv ?_ hn Dz)
 exact PyProof.Rows.callWith_type1 (aS (ha pos pins s σ H _ I h) fun us s1 ⟨vs,H1,I1,r1,q1⟩=>hc pins s1 σ H1 vs us Q I1 r1 q1) he Aj
end
end L2
namespace HT
open PySem PyProof.Rows
section
open PySem.SeqAt
open PySem.AutoSeq1 (wpAny_loadPart')
open PySem.MeetsSeq PySem.MeetsSeq2 PySem.MeetsSeq3
end
section
variable {prog:Program}{w:World}{A:Around}{E:Value->Shared->Prop}{s:Shared}
theorem E3 {t b:Addr}{vs ws:List Value}{Q:Value->Shared->Prop}(ht:IsTup s.heap t vs.toArray)(hb:IsTup s.heap b ws.toArray)(hv:vs ≠ [])
  (h1:ws=[]->Q (.ref t) s) (h2:ws ≠ []->Q (.ref s.heap.objs.size) { s with heap:=s.heap.push { cls := .type "tuple",data := .seq (vs ++ ws).toArray } })
  (hsz:vs.length + ws.length <= sizeLine):wpAny (model prog w) A (binaryOp .Add (.ref t) (.ref b)) Q E s:=by
 obtain⟨⟨cls,dd,data,sl⟩,ho,hc,n,hd⟩:=id ht
 obtain⟨⟨OM,Na,data2,Ic⟩,AG,Cd,n2,hd2⟩:=id hb
 simp only at hc hd Cd hd2
 subst hc hd Cd hd2
 have e:vs.toArray ++ ws.toArray=(vs ++ ws).toArray:=by simp
 by_cases hw:ws=[]
 ·exact concat_meets ⟨_,ho,rfl⟩ ⟨_,AG,rfl⟩ noFill_tuple_add seq_tuple_add slot_tuple_add entry_tuple_add (args_tuple_add_2 _ _)
   (tuple_addW1 t b vs.toArray ws.toArray n n2 dd Na sl Ic (by simpa using hv) (by simp[hw])) ⟨ho,AG,h1 hw⟩
 ·refine concat_meets ⟨_,ho,rfl⟩ ⟨_,AG,rfl⟩ noFill_tuple_add seq_tuple_add slot_tuple_add entry_tuple_add (args_tuple_add_2 _ _)
   (tuple_addW2 t b vs.toArray ws.toArray n n2 dd Na sl Ic (by simpa using hv) (by simpa using hw) (by rw[size_toArray,size_toArray];exact hsz)) ⟨ho,AG,?_⟩
  rw[e]
  exact h2 hw
noncomputable def Bm (n d:Nat):Option Int->Nat
 | none=>d
 | some v=>if v < 0 then (v + (n:Int)).toNat else min v.toNat n
theorem AH (n d k:Nat):Bm n d (some (k:Int))=min k n:=by
 show(if (k:Int) < 0 then ((k:Int) + (n:Int)).toNat else min (k:Int).toNat n)=min k n
 rw[if_neg (by omega),toNat_natCast]
end
end HT
namespace L2
open PySem PySem.Spec PyProof.Rows
abbrev TO:=St->Hp->(Option Int->Hp->Prop)->Prop
noncomputable def PO (X:Cx)(e:Option Expr)(t:TO):Prop :=
 ∀ (pins:List (Addr × Obj))(s:Shared)(σ:St)(H:Hp)(Q:Option Int->Hp->Prop),Inv X pins σ H s->t σ H Q ->
  wpAny (model X.prog X.w) X.A (evalPart e X.env) (fun u s'=>∃ o H',Inv X pins σ H' s'/\IsPart u o/\Q o H') X.xe s
noncomputable def uK:TO:=fun _ H Q=>Q none H
noncomputable def Jq (t:TE):TO:=fun σ H Q=>t σ H fun x H1=>∃ i,x = .int i/\Q (some i) H1
theorem oq {ns:List Int}:∀ {us:List Value},Vals (ns.map V.int) us->IntsAre us ns:=by
 induction ns with
 | nil=>intro us r;rw[map_nil]at r;cases r;exact .nil
 | cons n ns ih =>
  intro us r
  rw[map_cons]at r
  cases r with
  | cons r1 r2 =>
   obtain⟨t,e⟩:=r1
   subst e
   exact .cons n t (ih r2)
section
variable {X:Cx}{e:Expr}{te:TE}{lo hi:Option Expr}{tl th:TO}{pos p2:Pos}
theorem iI:PO X none uK:=by
 intro pins s σ H Q I h
 rw[evalPart_none]
 exact wpAny_pure ⟨none,H,I, .none,h⟩
theorem fG (h:PE X e te):PO X (some e) (Jq te):=by
 intro pins s σ H Q I hw
 rw[evalPart_some]
 refine aS (h pins s σ H _ I hw) fun u s1 ⟨x,H1,I1,r1,q1⟩=>?_
 obtain⟨i,rfl,q⟩:=q1
 obtain⟨t,rfl⟩:=r1
 exact⟨some i,H1,I1, .int i t,q⟩
noncomputable def Ui (X:Cx)(r:V->Option Int->Option Int->Hp->VK->Prop):Prop :=
 ∀ (pins:List (Addr × Obj))(s:Shared)(σ:St)(H:Hp)(x:V)(v vl vu:Value)(lo hi:Option Int)(sl:Addr)(Q:VK),Inv X pins σ H s->RelV x v->s.heap.IsSliceOf sl vl vu .none->IsPart vl lo->IsPart vu hi->r x lo hi H Q ->
  ∃ T id,typeLookup (.type T) "__getitem__" = pure (some (.builtin id))/\s.TypeIs v T/\wpAny (model X.prog X.w) X.A (getItem v (.ref sl)) (EP X pins σ Q) X.xe s
noncomputable def tSl (r:V->Option Int->Option Int->Hp->VK->Prop)(te:TE)(tl th:TO):TE:=fun σ H Q=>te σ H fun x H1=>tl σ H1 fun l H2=>th σ H2 fun u H3=>r x l u H3 Q
theorem eU {r:V->Option Int->Option Int->Hp->VK->Prop}(hr:Ui X r)(he:PE X e te)(hl:PO X lo tl)(hu:PO X hi th):PE X (.Subscript e (.Slice lo hi none p2) pos) (tSl r te tl th):=by
 intro pins s σ H Q I h
 refine Subscript_ (aS (he pins s σ H _ I h) fun v s1 ⟨x,H1,I1,r1,q1⟩=>?_)
 refine wpAny_Slice (aS (hl pins s1 σ H1 _ I1 q1) fun vl s2 ⟨l,H2,I2,pl,q2⟩=>aS (hu pins s2 σ H2 _ I2 q2) fun vu s3 ⟨u,H3,I3,pu,q3⟩=>?_)
 rw[evalPart_none]
 refine wpAny_pure ?_
 have I4:Inv X pins σ H3 { s3 with heap:=s3.heap.push { cls := .type "slice",data := .fields #[vl,vu, .none] } }:=I3.kept (t':=s3.toks) fun b ob q=>Heap.get?_push_of_some _ q
 obtain⟨T,id,hT,ht,hg⟩:=hr pins { s3 with heap:=s3.heap.push { cls := .type "slice",data := .fields #[vl,vu, .none] } } σ H3 x v vl vu l u s3.heap.objs.size Q I4 r1 (Heap.IsSliceOf.new ..) pl pu q3
 show wpAny (model X.prog X.w) X.A (subscriptTail e (.Slice lo hi none p2) v (.ref s3.heap.objs.size)) (EP X pins σ Q) X.xe { s3 with heap:=s3.heap.push { cls := .type "slice",data := .fields #[vl,vu, .none] } }
 exact tail_any (ops:=[.ref s3.heap.objs.size,v]) ht hT hg (by with_unfolding_all rfl)
noncomputable def gr (xs:List V)(lo hi:Option Int):List V:=(xs.drop (HT.Bm xs.length 0 lo)).take (HT.Bm xs.length xs.length hi - HT.Bm xs.length 0 lo)
theorem mJ (xs:List V)(lo hi:Option Int):(gr xs lo hi).length <= xs.length:=by
 unfold gr
 rw[length_take,length_drop]
 omega
noncomputable def Jr (K:Frag):R2:=fun x y H Q=>∃ a b xs ys,x = .ref a/\y = .ref b/\zh K H a xs/\zh K H b ys/\xs ≠ []/\xs.length + ys.length <= sizeLine /\
 (ys=[]->Q (.ref a) H)/\(ys ≠ []->∀ p,H p=none->Q (.ref p) (upd H p (.tup (xs ++ ys))))
theorem Vals.Bn {xs:List V}{us:List Value}(r:Vals xs us):us=[]↔xs=[]:=by
 cases r with
 | nil=>simp
 | cons _ _=>simp
theorem vk:eD X (binaryOp .Add) (Jr X.K):=by
 intro pins s σ H x y v u Q I rx ry h
 obtain⟨a,b,xs,ys,rfl,rfl,ha,hb,hx,hz,q1,q2⟩:=h
 cases rx
 cases ry
 obtain⟨ze,r1,p1,_⟩:=I.tuple ha
 obtain⟨B1,r2,p2,_⟩:=I.tuple hb
 refine HT.E3 p1 p2 (fun z=>hx (r1.Bn.mp z)) (fun z=>⟨.ref a,H,I,rfl,q1 (r2.Bn.mp z)⟩) (fun z=>?_) (by rw[← r1.length,← r2.length];exact hz)
 refine⟨.ref s.heap.objs.size,_,I.laid (t':=s.toks) (o := .tup (xs ++ ys)) (fun b ob q=>Heap.get?_push_of_some _ q) (Nat.le_refl _) ?_,rfl,q2 (fun w=>z (r2.Bn.mpr w)) _ (I.zg.fresh (Nat.le_refl _))⟩
 exact⟨by rw[length_append];exact hz,_,r1.append r2,Ae.new _ _⟩
end
end L2
namespace L2
open PySem PySem.Spec PyProof.Rows
noncomputable def vW (n:Nat)(i:Int):Option Nat:=if 0 <= i then (if i < n then some i.toNat else none) else if -(n:Int) <= i then some (i + n).toNat else none
noncomputable def Ie {α:Type}(xs:List α)(i:Int):Option α:=(vW xs.length i).bind fun j=>xs[j]?
theorem pD {n:Nat}{i:Int}{j:Nat}(h:vW n i=some j):seqIndex? i n=some j/\j < n/\-(n:Int) <= i/\i < n:=by
 unfold vW at h
 by_cases h0:0 <= i
 ·rw[if_pos h0]at h
  by_cases h1:i < n
  ·rw[if_pos h1]at h
   have e:i.toNat=j:=Option.some.inj h
   exact⟨by rw[seqIndex_of h0 h1,e],by omega,by omega,h1⟩
  ·rw[if_neg h1]at h;cases h
 ·rw[if_neg h0]at h
  by_cases h1:-(n:Int) <= i
  ·rw[if_pos h1]at h
   have e:(i + n).toNat=j:=Option.some.inj h
   exact⟨by rw[seqIndex_neg (by omega) h1,e],by omega,h1,by omega⟩
  ·rw[if_neg h1]at h;cases h
theorem pP {α:Type}{xs:List α}{i:Int}{v:α}(h:Ie xs i=some v):∃ j,seqIndex? i xs.length=some j/\xs[j]? = some v/\j < xs.length/\-(xs.length:Int) <= i/\i < xs.length:=by
 unfold Ie at h
 cases e:vW xs.length i with
 | none=>rw[e]at h;cases h
 | some j =>
  rw[e]at h
  obtain⟨h1,h2,h3,h4⟩:=pD e
  exact⟨j,h1,h,h2,h3,h4⟩
theorem al {α:Type}{xs:List α}{j:Nat}{v:α}(h:xs[j]? = some v):Ie xs (j:Int)=some v:=by
 have hj:j < xs.length:=(List.getElem?_eq_some_iff.mp h).1
 have e:vW xs.length (j:Int)=some j:=by
  unfold vW
  rw[if_pos (by omega),if_pos (by omega)];simp
 unfold Ie;rw[e];exact h
noncomputable def wr (b:Expr):Prop:=∀ o i,subscripted b false o i=operate [o,i] (getItem o i)
noncomputable def oE (X:Cx)(r:R2):Prop :=
 ∀ (value slice:Expr)(pins:List (Addr × Obj))(s:Shared)(σ:St)(H:Hp)(x y:V)(v u:Value)(Q:VK),Inv X pins σ H s->RelV x v->RelV y u->r x y H Q ->
  subscripted slice false v u=operate [v,u] (getItem v u)->wpAny (model X.prog X.w) X.A (subscriptTail value slice v u) (EP X pins σ Q) X.xe s
noncomputable def Nc (X:Cx)(id:String)(r:V->List V->Hp->VK->Prop):Prop :=
 ∀ (pins:List (Addr × Obj))(s:Shared)(σ:St)(H:Hp)(x:V)(xs:List V)(v:Value)(us:List Value)(Q:VK),Inv X pins σ H s->RelV x v->Vals xs us->r x xs H Q ->
  wpAny (model X.prog X.w) X.A (call (.builtin id) (v :: us)) (EP X pins σ Q) X.xe s
section
variable {X:Cx}{a b:Expr}{ta tb:TE}{pos:Pos}
theorem aw {r:R2}(hr:oE X r)(ha:PE X a ta)(hb:PE X b tb)(hs:wr b):PE X (.Subscript a b pos) (MZ r ta tb):=by
 intro pins s σ H Q I h
 exact Subscript_ (yO ha hb I h fun v u s2 x y H2 I2 rx ry q=>hr a b pins s2 σ H2 x y v u Q I2 rx ry q (hs _ _))
noncomputable def sK (K:Frag):R2:=fun x y H Q=>∃ p xs i v,x = .ref p/\y = .int i/\zf K H p xs/\Ie xs i=some v/\Q v H
noncomputable def kM (K:Frag):R2:=fun x y H Q=>∃ p xs i v,x = .ref p/\y = .int i/\zh K H p xs/\Ie xs i=some v/\Q v H
theorem aM:oE X (sK X.K):=by
 intro value slice pins s σ H x y v u Q I rx ry h hs
 obtain⟨p,xs,i,z,rfl,rfl,hq,he,q⟩:=h
 cases rx
 obtain⟨t,rfl⟩:=ry
 obtain⟨ze,r,pl,hz⟩:=I.list hq
 obtain⟨j,h1,h2,h3,h4,h5⟩:=pP he
 obtain⟨w,ew,Ce⟩:=r.get h2
 have hl:=r.length
 have hn:=jp
 have fin:EP X pins σ Q w s:=⟨z,H,I,Ce,q⟩
 by_cases h0:0 <= i
 ·have hj:i.toNat=j:=by
   rw[seqIndex_of h0 h5]at h1
   exact Option.some.inj h1
  exact item_listR pl.isList h0 (by omega) (by rw[hj];simpa using ew) fin hs
 ·have hj:(i + (ze.toArray.size:Int)).toNat=j:=by
   rw[seqIndex_neg (by omega) h4]at h1
   rw[size_toArray,← hl]
   exact Option.some.inj h1
  exact subscriptTail_builtinR (x:=w) pl.isList.typeIs slot_list_getitem.lookup
   (wpAny_getItem_list_neg (Q:=fun r s'=>r=w/\EP X pins σ Q r s') pl.isList (by omega) (by rw[size_toArray]<;>omega) (by omega) (by rw[hj];simpa using ew) ⟨rfl,fin⟩) hs
theorem aA:oE X (kM X.K):=by
 intro value slice pins s σ H x y v u Q I rx ry h hs
 obtain⟨p,xs,i,z,rfl,rfl,hq,he,q⟩:=h
 cases rx
 obtain⟨t,rfl⟩:=ry
 obtain⟨ze,r,pl,hz⟩:=I.tuple hq
 obtain⟨j,h1,h2,h3,h4,h5⟩:=pP he
 obtain⟨w,ew,Ce⟩:=r.get h2
 have hl:=r.length
 have hn:=jp
 have fin:EP X pins σ Q w s:=⟨z,H,I,Ce,q⟩
 exact subscriptTail_builtinR (x:=w) pl.typeIs slot_tuple_getitem.lookup
  (getItem_tuple (j:=j) (Q:=fun r s'=>r=w/\EP X pins σ Q r s') pl (by omega) (by omega) (by rw[size_toArray,← hl];exact h1) (by simpa using ew) ⟨rfl,fin⟩) hs
theorem nU (ze:List Value)(n j:Nat)(u:Value):Obj.mapSeq (·.setIfInBounds j u) { cls := .type "list",data := .seq ze.toArray n } = { cls := .type "list",data := .seq (ze.set j u).toArray n }:=by
 simp[Obj.mapSeq]
theorem Inv.lst {pins:List (Addr × Obj)}{σ:St}{H:Hp}{s:Shared}{p:Addr}{xs:List V}(I:Inv X pins σ H s)(h:H p=some (.lst xs)) :
  ∃ (ze:List Value)(n:Nat),Vals xs ze/\s.heap.get? p=some { cls := .type "list",data := .seq ze.toArray n }/\xs.length <= sizeLine:=by
 obtain⟨z,ze,n,r,e⟩:=I.zg p _ h
 exact⟨ze,n,r,e,z⟩
theorem Inv.G9 {pins:List (Addr × Obj)}{σ:St}{H:Hp}{s:Shared}{p:Addr}{xs ys:List V}{ze its':List Value}{n n':Nat}{f:Obj->Obj}(I:Inv X pins σ H s)(h:H p=some (.lst xs))
  (ho:s.heap.get? p=some { cls := .type "list",data := .seq ze.toArray n }) (hf:f { cls := .type "list",data := .seq ze.toArray n } = { cls := .type "list",data := .seq its'.toArray n' }) (r:Vals ys its') (hz:ys.length <= sizeLine) (t:Nat) :
  Inv X pins σ (upd H p (.lst ys)) { s with heap:=s.heap.update p f,toks:=t }:=by
 have e:(s.heap.update p f).get? p=some { cls := .type "list",data := .seq its'.toArray n' }:=by
  rw[Heap.get?_update_self f ho (by rw[hf]<;>rfl),hf]
 refine I.write (x:=p) (e:=p) (by rw[h];trivial) (.inl rfl) (fun b u hb q=>(Heap.get?_update_other _ _ (Ne.symm hb)).trans q) ⟨_,e⟩ ?_
 exact⟨hz,its',n',r,e⟩
noncomputable def Js:V->V->V->Hp->(Hp->Prop)->Prop:=fun o i v H Q=>∃ p xs k j,o = .ref p/\i = .int k/\H p=some (.lst xs)/\vW xs.length k=some j/\Q (upd H p (.lst (xs.set j v)))
theorem jb:IX X Js:=by
 intro pins s σ H o i v ov iv u Q I ro ri rv h
 obtain⟨p,xs,k,j,rfl,rfl,hp,hj,q⟩:=h
 cases ro
 obtain⟨t,rfl⟩:=ri
 obtain⟨ze,n,r,ho,hz⟩:=I.lst hp
 obtain⟨h1,h2,h3,h4⟩:=pD hj
 have hl:=r.length
 have hn:=jp
 have I':Inv X pins σ (upd H p (.lst (xs.set j v))) { s with heap:=s.heap.update p (Obj.mapSeq (·.setIfInBounds j u)) } :=
  I.G9 hp ho (nU ze n j u) (r.set rv j) (by rw[length_set];exact hz) s.toks
 by_cases h0:0 <= k
 ·have hk:k.toNat=j:=by
   rw[seqIndex_of h0 h4]at h1
   exact Option.some.inj h1
  exact PySem.W.ki_setAt ho h0 (by omega) (by rw[size_toArray,← hl];exact h4) (by rw[hk];exact⟨_,I',q⟩)
 ·have hk:(k + (ze.toArray.size:Int)).toNat=j:=by
   rw[seqIndex_neg (by omega) h3]at h1
   rw[size_toArray,← hl]
   exact Option.some.inj h1
  exact PySem.W.ki_setBack ho (by omega) (by rw[size_toArray,← hl];exact h3) (by omega) (by rw[hk];exact⟨_,I',q⟩)
theorem kF (lo hi:Option Int)(n:Nat):(sliceBounds lo hi none n).1=((HT.Bm n 0 lo:Nat):Int)/\(sliceBounds lo hi none n).2.1=((HT.Bm n n hi:Nat):Int)/\(sliceBounds lo hi none n).2.2=1:=by
 refine⟨?_,?_,rfl⟩
 ·cases lo with
  | none=>simp[sliceBounds,HT.Bm]
  | some i =>
   simp only[sliceBounds,HT.Bm,Option.getD_none,show (1:Int) > 0 by decide,if_true]
   by_cases h:i < 0
   ·simp only[h,if_true]<;>omega
   ·simp only[h,if_false]<;>omega
 ·cases hi with
  | none=>simp[sliceBounds,HT.Bm]
  | some i =>
   simp only[sliceBounds,HT.Bm,Option.getD_none,show (1:Int) > 0 by decide,if_true]
   by_cases h:i < 0
   ·simp only[h,if_true]<;>omega
   ·simp only[h,if_false]<;>omega
theorem jA (ze:List Value)(lo hi:Option Int):slicePick ze.toArray lo hi none=((ze.drop (HT.Bm ze.length 0 lo)).take (HT.Bm ze.length ze.length hi - HT.Bm ze.length 0 lo)).toArray:=by
 obtain⟨h1,h2,h3⟩:=kF lo hi ze.toArray.size
 unfold slicePick
 rw[h1,h2,h3]
 simp only[sliceRange_one,pick_run,size_toArray]<;>rfl
noncomputable def ON (K:Frag):V->Option Int->Option Int->Hp->VK->Prop:=fun x lo hi H Q=>∃ a xs,x = .ref a/\zf K H a xs/\∀ p,H p=none->Q (.ref p) (upd H p (.lst (gr xs lo hi)))
theorem gG:Ui X (ON X.K):=by
 intro pins s σ H x v vl vu lo hi sl Q I rx hs pl pu h
 obtain⟨a,xs,rfl,hx,q⟩:=h
 cases rx
 obtain⟨ze,r,ht,hz⟩:=I.list hx
 have hlen:=r.length
 refine⟨"list",_,slot_list_getitem.lookup,ht.isList.typeIs,?_⟩
 refine wpAny_getItem_list_slice ht.isList hs pl pu .none (by simp) ?_ (by rw[size_toArray]<;>omega)
 rw[jA,← hlen]
 refine⟨.ref s.heap.objs.size,_,I.laid (t':=s.toks) (o := .lst (gr xs lo hi)) (fun b ob q=>Heap.get?_push_of_some _ q) (Nat.le_refl _) ?_,rfl,q _ (I.zg.fresh (Nat.le_refl _))⟩
 exact⟨le_trans (mJ xs lo hi) hz,_,0,(r.drop (HT.Bm xs.length 0 lo)).take (HT.Bm xs.length xs.length hi - HT.Bm xs.length 0 lo),Heap.get?_push_size _ rfl⟩
noncomputable def gX:V->Bool
 | .zt=>true
 | .bl _=>true
 | .int _=>true
 | .str _=>true
 | _=>false
noncomputable def wU:V->V->Bool
 | .zt, .zt=>true
 | .bl a, .bl b=>a == b
 | .bl a, .int b=>(if a then 1 else 0) == b
 | .int a, .bl b=>a == (if b then 1 else 0)
 | .int a, .int b=>a == b
 | .str a, .str b=>a == b
 | _,_=>false
theorem yH {A:Around}{s:Shared}{y x:V}{u v:Value}(ry:RelV y u)(rx:RelV x v)(fy:gX y=true)(fx:gX x=true):SeqAt.EqAt A s u v (wU y x):=by
 cases y with
 | zt =>
  cases ry
  cases x with
  | zt=>cases rx;exact SeqAt.EqAt.same _
  | bl b=>cases rx;exact SeqAt.EqAt.none_bool b
  | int b=>obtain⟨t,rfl⟩:=rx;exact SeqAt.EqAt.none_int b t
  | str b=>obtain⟨t,rfl⟩:=rx;exact SeqAt.EqAt.none_str b t
  | _=>exact absurd (show false=true from fx) Bool.false_ne_true
 | bl a =>
  cases ry
  cases x with
  | zt=>cases rx;exact SeqAt.EqAt.bool_none a
  | bl b=>cases rx;exact SeqAt.EqAt.bool_bool a b
  | int b=>obtain⟨t,rfl⟩:=rx;exact SeqAt.EqAt.bool_int a b t
  | str b=>obtain⟨t,rfl⟩:=rx;exact SeqAt.EqAt.bool_str a b t
  | _=>exact absurd (show false=true from fx) Bool.false_ne_true
 | int a =>
  obtain⟨t',rfl⟩:=ry
  cases x with
  | zt=>cases rx;exact SeqAt.EqAt.int_none a t'
  | bl b=>cases rx;exact SeqAt.EqAt.int_bool a t' b
  | int b=>obtain⟨t,rfl⟩:=rx;exact SeqAt.EqAt.int_int a t' b t
  | str b=>obtain⟨t,rfl⟩:=rx;exact SeqAt.EqAt.int_str a t' b t
  | _=>exact absurd (show false=true from fx) Bool.false_ne_true
 | str a =>
  obtain⟨t',rfl⟩:=ry
  cases x with
  | zt=>cases rx;exact SeqAt.EqAt.str_none a t'
  | bl b=>cases rx;exact SeqAt.EqAt.str_bool a t' b
  | int b=>obtain⟨t,rfl⟩:=rx;exact SeqAt.EqAt.str_int a t' b t
  | str b=>obtain⟨t,rfl⟩:=rx;exact SeqAt.EqAt.str_str a t' b t
  | _=>exact absurd (show false=true from fx) Bool.false_ne_true
 | _=>exact absurd (show false=true from fy) Bool.false_ne_true
noncomputable def oy (x:V)(u:Value):Bool:=match u with
 | .none=>wU .zt x
 | .bool b=>wU (.bl b) x
 | .int i _=>wU (.int i) x
 | .str z _=>wU (.str z) x
 | _=>false
theorem uf {x y:V}{u:Value}(r:RelV y u)(f:gX y=true):oy x u=wU y x:=by
 cases y with
 | zt=>cases r;rfl
 | bl b=>cases r;rfl
 | int i=>obtain⟨t,rfl⟩:=r;rfl
 | str z=>obtain⟨t,rfl⟩:=r;rfl
 | _=>exact absurd (show false=true from f) Bool.false_ne_true
theorem hU {x:V}:∀ {xs:List V}{us:List Value},Vals xs us->xs.all gX=true->us.any (oy x)=xs.any fun y=>wU y x
 | _,_, .nil,_=>rfl
 | y :: xs,u :: us, .cons r t,f=>by
  rw[all_cons,Bool.and_eq_true]at f
  rw[any_cons,any_cons,uf r f.1,hU t f.2]
theorem fj {A:Around}{s:Shared}{x:V}{v:Value}(rx:RelV x v)(fx:gX x=true):∀ {xs:List V}{us:List Value},Vals xs us->xs.all gX=true->∀ u ∈ us,SeqAt.EqAt A s u v (oy x u)
 | _,_, .nil,_=>fun u hu=>by cases hu
 | y :: xs,u :: us, .cons r t,f=>fun u' hu=>by
  rw[all_cons,Bool.and_eq_true]at f
  rcases mem_cons.mp hu with rfl | hu
  ·rw[uf r f.1];exact yH r rx f.1 fx
  ·exact fj rx fx t f.2 u' hu
noncomputable def uE (x:V)(xs:List V):Bool:=xs.any fun y=>wU y x
noncomputable def OO (K:Frag)(neg:Bool):R2:=fun x y H Q=>∃ p xs,y = .ref p/\(zf K H p xs∨zh K H p xs)/\gX x=true/\xs.all gX=true/\Q (.bl (if neg then !uE x xs else uE x xs)) H
theorem qm:eD X (compareOp .In) (OO X.K false):=by
 intro pins s σ H x y v u Q I rx ry h
 obtain⟨p,xs,rfl,hq,fx,fs,q⟩:=h
 cases ry
 rcases hq with hq | hq
 ·obtain⟨ze,r,pl,hz⟩:=I.list hq
  refine SeqAt.in_listAt (oy x) pl.isList (fun w hw=>fj rx fx r fs w (by simpa using hw)) ⟨.bl _,H,I,rfl,?_⟩
  rw[show ze.toArray.any (oy x)=ze.any (oy x) by simp,hU r fs]
  exact q
 ·obtain⟨ze,r,pl,hz⟩:=I.tuple hq
  refine SeqAt.in_tupleAt (oy x) pl (fun w hw=>fj rx fx r fs w (by simpa using hw)) ⟨.bl _,H,I,rfl,?_⟩
  rw[show ze.toArray.any (oy x)=ze.any (oy x) by simp,hU r fs]
  exact q
theorem gM:eD X (compareOp .NotIn) (OO X.K true):=by
 intro pins s σ H x y v u Q I rx ry h
 obtain⟨p,xs,rfl,hq,fx,fs,q⟩:=h
 cases ry
 rcases hq with hq | hq
 ·obtain⟨ze,r,pl,hz⟩:=I.list hq
  refine SeqAt.notIn_listAt (oy x) pl.isList (fun w hw=>fj rx fx r fs w (by simpa using hw)) ⟨.bl _,H,I,rfl,?_⟩
  rw[show ze.toArray.any (oy x)=ze.any (oy x) by simp,hU r fs]
  exact q
 ·obtain⟨ze,r,pl,hz⟩:=I.tuple hq
  refine SeqAt.notIn_tupleAt (oy x) pl (fun w hw=>fj rx fx r fs w (by simpa using hw)) ⟨.bl _,H,I,rfl,?_⟩
  rw[show ze.toArray.any (oy x)=ze.any (oy x) by simp,hU r fs]
  exact q
theorem ax:fD X (.builtin "len") (fun xs H Q=>∃ p ys,xs=[.ref p]/\(zf X.K H p ys∨zh X.K H p ys)/\Q (.int ys.length) H):=by
 intro pins s σ H xs us Q I r h
 obtain⟨p,ys,rfl,hq,q⟩:=h
 obtain⟨u,rfl,rx⟩:=l4 r
 cases rx
 have hn:=jp
 rcases hq with hq | hq
 ·obtain⟨ze,r',pl,hz⟩:=I.list hq
  have hlen:=r'.length
  exact Calls.call_len_list pl.isList (by simp only[size_toArray]<;>omega) ⟨.int ys.length,H,I.tok _,⟨s.toks + 1,by rw[size_toArray,hlen]⟩,q⟩
 ·obtain⟨ze,r',pl,hz⟩:=I.tuple hq
  have hlen:=r'.length
  exact len_tuple pl (by simp only[size_toArray]<;>omega) ⟨.int ys.length,H,I.tok _,⟨s.toks + 1,by rw[size_toArray,hlen]⟩,q⟩
theorem bX:fD X (.type "list") (fun xs H Q=>∃ p ys,xs=[.ref p]/\(zf X.K H p ys∨zh X.K H p ys)/\∀ l,H l=none->Q (.ref l) (upd H l (.lst ys))):=by
 intro pins s σ H xs us Q I r h
 obtain⟨p,ys,rfl,hq,q⟩:=h
 obtain⟨u,rfl,rx⟩:=l4 r
 cases rx
 have fin:∀ (ze:List Value),Vals ys ze->ys.length <= sizeLine->∀ (h':Heap)(c':Nat),(∀ b o',s.heap.get? b=some o'->h'.get? b=some o') ->
   h'.get? s.heap.objs.size=some { cls := .type "list",dict:=none,data := .seq ze.toArray c',slots:=#[] }->EP X pins σ Q (.ref s.heap.objs.size) { s with heap:=h' }:=fun ze r' hz h' c' kp e =>
  ⟨.ref s.heap.objs.size,_,I.laid (t':=s.toks) kp (Nat.le_refl _) (show zu X.prog X.w _ h' _ (.lst ys) from ⟨hz,ze,c',r',e⟩),rfl,q _ (I.zg.fresh (Nat.le_refl _))⟩
 rcases hq with hq | hq
 ·obtain⟨ze,r',pl,hz⟩:=I.list hq
  have hlen:=r'.length
  obtain⟨o,ho,hc,n,hd⟩:=pl.isList
  exact call_list_seq p (.inl rfl) ho hc hd (fun h' c' kp e=>fin ze r' hz h' c' kp e) (by simp only[size_toArray]<;>omega)
 ·obtain⟨ze,r',pl,hz⟩:=I.tuple hq
  have hlen:=r'.length
  obtain⟨o,ho,hc,n,hd⟩:=pl
  exact call_list_seq p (.inr rfl) ho hc hd (fun h' c' kp e=>fin ze r' hz h' c' kp e) (by simp only[size_toArray]<;>omega)
theorem dG:fD X (.type "tuple") (fun xs H Q=>∃ p ys,xs=[.ref p]/\((zf X.K H p ys/\∀ l,H l=none->Q (.ref l) (upd H l (.tup ys)))∨(zh X.K H p ys/\Q (.ref p) H))):=by
 intro pins s σ H xs us Q I r h
 obtain⟨p,ys,rfl,h⟩:=h
 obtain⟨u,rfl,rx⟩:=l4 r
 cases rx
 rcases h with ⟨hq,q⟩ | ⟨hq,q⟩
 ·obtain⟨ze,r',pl,hz⟩:=I.list hq
  have hlen:=r'.length
  refine call_tuple_list pl.isList (fun h' kp=>?_) (by simp only[size_toArray]<;>omega)
  have I1:Inv X pins σ H { s with heap:=h' }:=I.kept (t':=s.toks) kp
  have I2:Inv X pins σ (upd H h'.objs.size (.tup ys)) { s with heap:=h'.push { cls := .type "tuple",data := .seq ze.toArray } } :=
   I1.laid (t':=s.toks) (fun b o e=>Heap.get?_push_of_some _ e) (Nat.le_refl _) (show zu X.prog X.w _ _ _ (.tup ys) from ⟨hz,ze,r',Ae.new _ _⟩)
  exact⟨.ref h'.objs.size,_,I2,rfl,q _ (I1.zg.fresh (Nat.le_refl _))⟩
 ·obtain⟨ze,r',pl,hz⟩:=I.tuple hq
  exact call_tuple_same pl ⟨.ref p,H,I,rfl,q⟩
noncomputable def OP (K:Frag)(T:String)(x:V)(H:Hp):Prop:=match x with
 | .str _=>T = "str"
 | .int _=>T = "int"
 | .ref p=>(T = "list"/\∃ xs,zf K H p xs)∨(T = "tuple"/\∃ o,K.lookup p=some o/\o.cls = .type "tuple"/\o.dict=none) ∨
   (T = "dict"/\((∃ kvs,H p=some (.dK kvs))∨∃ kvs,H p=some (.dT kvs)))∨(T = "set"/\∃ S n,H p=some (.set S n))
 | _=>False
theorem rf {pins:List (Addr × Obj)}{σ:St}{H:Hp}{s:Shared}{T:String}{x:V}{v:Value}(I:Inv X pins σ H s)(r:RelV x v)(ty:OP X.K T x H) :
  s.TypeIs v T/\∀ a,v = .ref a->∃ ob,s.heap.get? a=some ob/\ob.dict=none:=by
 cases x with
 | str z =>
  obtain⟨t,rfl⟩:=r
  cases (show T = "str" from ty)
  exact⟨typeIs_str s z t,fun _ e=>nomatch e⟩
 | int i =>
  obtain⟨t,rfl⟩:=r
  cases (show T = "int" from ty)
  exact⟨typeIs_int s i t,fun _ e=>nomatch e⟩
 | ref p =>
  cases r
  rcases ty with ⟨rfl,xs,hq⟩ | ⟨rfl,o,hk,hc,hd⟩ | ⟨rfl,hk⟩ | ⟨rfl,S,n,hk⟩
  ·obtain⟨ze,_,pl,_⟩:=I.list hq
   refine⟨pl.isList.typeIs,fun a e=>?_⟩
   cases e
   obtain⟨o,n,e,c,hd,_⟩:=pl
   exact⟨o,e,hd⟩
  ·refine⟨⟨o,I.zZ p o hk,hc⟩,fun a e=>?_⟩
   cases e
   exact⟨o,I.zZ _ o hk,hd⟩
  ·have z:∃ o,s.heap.get? p=some o/\o.ExactDict:=by
    rcases hk with ⟨kvs,hk⟩ | ⟨kvs,hk⟩
    ·obtain⟨_,_,_,_,o,_,_,e,ex,_⟩:=I.zg p _ hk
     exact⟨o,e,ex⟩
    ·obtain⟨_,_,_,_,o,_,_,e,ex,_⟩:=I.zg p _ hk
     exact⟨o,e,ex⟩
   obtain⟨o,e,ex⟩:=z
   refine⟨⟨o,e,ex.1⟩,fun a e2=>?_⟩
   cases e2
   exact⟨o,e,ex.2.1⟩
  ·obtain⟨o,_,_,_,e,ex,_⟩:=I.zg p _ hk
   refine⟨⟨o,e,ex.1⟩,fun a e2=>?_⟩
   cases e2
   exact⟨o,e,ex.2.1⟩
 | _=>exact False.elim ty
noncomputable def OQ (K:Frag)(T:String)(r:V->List V->Hp->VK->Prop)(to:TE):TE:=fun σ H Q=>to σ H fun x H1=>OP K T x H1/\r x [] H1 Q
noncomputable def tBM (K:Frag)(T:String)(r:V->List V->Hp->VK->Prop)(to:TE)(t:TA):TE:=fun σ H Q=>to σ H fun x H1=>OP K T x H1/\t σ H1 fun xs H2=>r x xs H2 Q
variable {o e:Expr}{es:List Expr}{to:TE}{t:TA}{name:Str}{apos zP:Pos}{T id:String}{r:V->List V->Hp->VK->Prop}
theorem xM (pa:PlainAttrs T)(slot:Slot T name id)(OR:typeOf (.builtin id)=pure (.type "method_descriptor"))(hm:Nc X id r)(ho:PE X o to)
  (Cf:attributeBase o name X.env (eval o X.env)=eval o X.env:=by rfl) (DD:(apos.endLine == zP.line)=true:=by rfl):PE X (.Call (.Attribute o name apos) [] [] zP) (OQ X.K T r to):=by
 intro pins s σ H Q I h
 refine wpAny_Call_method0_late Cf DD (aS (ho pins s σ H _ I h) fun v s1 ⟨x,H1,I1,r1,ty,q1⟩=>?_)
 obtain⟨h1,h2⟩:=rf I1 r1 ty
 exact⟨T,id,pa,slot,OR,h1,h2,Calls.callWith_builtin rfl (PySem.evalArgs_none (hm pins s1 σ H1 x [] v [] Q I1 r1 .nil q1))⟩
theorem c4 (pa:PlainAttrs T)(slot:Slot T name id)(OR:typeOf (.builtin id)=pure (.type "method_descriptor"))(hm:Nc X id r)(ho:PE X o to)(ha:PA X (e :: es) t)
  (Cf:attributeBase o name X.env (eval o X.env)=eval o X.env:=by rfl)
  (C9:((backTo zP (starEach (e :: es) X.env)).all (fun x=>!x.1) && (backToKw zP (keywordEach [] X.env)).all (fun x=>x.1.isSome)
   && decide ((e :: es).length + ([]:List Keyword).length + (if ([]:List Keyword).isEmpty then 0 else 1) < 30))=true:=by rfl)
  (DD:(apos.endLine == zP.line)=true:=by rfl) (hs:starEach (e :: es) X.env=(false,eval e X.env) :: starEach es X.env:=by rfl) (GA:(backTo zP (starEach es X.env)).any (·.1)=false:=by rfl) :
  PE X (.Call (.Attribute o name apos) (e :: es) [] zP) (tBM X.K T r to t):=by
 intro pins s σ H Q I h
 refine wpAny_Call_method_late Cf C9 DD rfl (aS (ho pins s σ H _ I h) fun v s1 ⟨x,H1,I1,r1,ty,q1⟩=>?_)
 obtain⟨h1,h2⟩:=rf I1 r1 ty
 refine⟨T,id,pa,slot,OR,h1,h2,?_⟩
 have hA:=ha zP pins s1 σ H1 _ I1 q1
 rw[hs]at hA ⊢
 refine Calls.callWith_builtin (by show(false || (backTo zP (starEach es X.env)).any (·.1))=false;rw[GA]<;>rfl) (Calls.evalArgs_plain ?_)
 exact aS hA fun us s2 ⟨vs,H2,I2,r2,q2⟩=>hm pins s2 σ H2 x vs v us Q I2 r1 r2 q2
end
end L2
namespace L2
open PySem PySem.Spec PyProof.Rows
noncomputable def OS (X:Cx)(id:String)(r:V->List V->Hp->VK->Prop):Prop :=
 ∀ (pins:List (Addr × Obj))(s:Shared)(σ:St)(H:Hp)(x:V)(xs:List V)(v:Value)(us:List Value)(Q:VK),Inv X pins σ H s->RelV x v->Vals xs us->r x xs H Q ->
  wpAny (model X.prog X.w) X.A (call (.builtin id) (v :: us)) (EP X pins σ Q) X.xe s
theorem Vals.one:∀ {x:V}{us:List Value},Vals [x] us->∃ u,us=[u]/\RelV x u
 | _,_, .cons r .nil=>⟨_,rfl,r⟩
theorem Vals.eraseIdx:∀ {xs:List V}{us:List Value}(i:Nat),Vals xs us->Vals (xs.eraseIdx i) (us.eraseIdx i)
 | _,_,_, .nil => .nil
 | _,_,0, .cons _ t=>t
 | _,_,i + 1, .cons r t => .cons r (Vals.eraseIdx i t)
theorem Vals.rep {xs:List V}{us:List Value}(h:Vals xs us):∀ k:Nat,Vals (List.replicate k xs).flatten (List.replicate k us).flatten
 | 0 => .nil
 | k + 1=>by
  rw[replicate_succ,replicate_succ,flatten_cons,flatten_cons]
  exact Vals.append h (Vals.rep h k)
theorem jS {α:Type}:∀ (l:List α)(i:Nat),(l.eraseIdx i).length <= l.length
 | [],_=>Nat.le_refl _
 | _ :: _,0=>le_succ _
 | _ :: r,i + 1=>Nat.succ_le_succ (jS r i)
theorem jW (ze:List Value):∀ (k:Nat)(acc:List Value),
  List.foldl (fun x1 x2=>x1 ++ x2) acc.toArray (List.replicate k ze.toArray)=(acc ++ (List.replicate k ze).flatten).toArray
 | 0,acc=>by simp
 | k + 1,acc=>by
  have e:acc.toArray ++ ze.toArray=(acc ++ ze).toArray:=by simp
  have e2:(acc ++ ze) ++ (List.replicate k ze).flatten=acc ++ (List.replicate (k + 1) ze).flatten:=by
   rw[replicate_succ,flatten_cons,append_assoc]
  rw[← e2,← jW ze k (acc ++ ze),← e,replicate_succ,List.foldl_cons]
section
variable {X:Cx}{pins:List (Addr × Obj)}{σ:St}{H:Hp}{s:Shared}{l b:Addr}{xs ys zs:List V}
theorem Inv.GC {ze its':List Value}{n:Nat}{f:Array Value->Array Value}{t':Nat}(I:Inv X pins σ H s)(hH:H l=some (.lst xs))
  (e:s.heap.get? l=some { cls := .type "list",data := .seq ze.toArray n }) (hf:f ze.toArray=its'.toArray) (hv:Vals ys its') (hz:ys.length <= sizeLine) :
  Inv X pins σ (upd H l (.lst ys)) { s with heap:=s.heap.update l (Obj.mapSeq f),toks:=t' }:=by
 have q:=PySem.IsL.update e f
 rw[hf]at q
 refine I.write (x:=l) (e:=l) (by rw[hH];exact trivial) (.inl rfl) (fun b' u hb hu=>(Heap.get?_update_other s.heap (Obj.mapSeq f) (Ne.symm hb)).trans hu) ⟨_,q⟩ ?_
 exact⟨hz,its',_,hv,q⟩
theorem Inv.Jt {ze:List Value}{t':Nat}(I:Inv X pins σ H s)(hv:Vals ys ze)(hz:ys.length <= sizeLine) :
  Inv X pins σ (upd H s.heap.objs.size (.lst ys)) { s with heap:=s.heap.push { cls := .type "list",data := .seq ze.toArray },toks:=t' } :=
 I.laid (fun _ _ q=>Heap.get?_push_of_some _ q) (Nat.le_refl _) ⟨hz,ze,0,hv,Heap.get?_push_size _ rfl⟩
theorem Inv.fresh (I:Inv X pins σ H s):H s.heap.objs.size=none:=I.zg.fresh (Nat.le_refl _)
theorem Inv.Cg (I:Inv X pins σ H s)(hH:H l=some (.lst xs)):xs.length <= sizeLine/\∃ (ze:List Value)(n:Nat),Vals xs ze/\xs.length=ze.length/\s.heap.get? l=some { cls := .type "list",data := .seq ze.toArray n }:=by
 obtain⟨z,ze,n,r,e⟩:=I.zg l _ hH
 exact⟨z,ze,n,r,r.length,e⟩
theorem lW {n:Nat}(h:n <= sizeLine):Builtin.List.listTooLong n=false:=by
 unfold Builtin.List.listTooLong
 exact decide_eq_false (by omega)
end
section
variable {X:Cx}
noncomputable def vb:V->List V->Hp->VK->Prop:=fun x vs H Q=>∃ l xs y,x = .ref l/\vs=[y]/\H l=some (.lst xs)/\xs.length < sizeLine/\Q .zt (upd H l (.lst (xs ++ [y])))
theorem bN:OS X "list.append" vb:=by
 intro pins s σ H x vs v us Q I rx rv h
 obtain⟨l,xs,y,rfl,rfl,hH,hz,q⟩:=h
 cases rx
 obtain⟨u,rfl,ru⟩:=rv.one
 obtain⟨z,ze,n,r,hl,e⟩:=I.Cg hH
 refine call_meets F.slot_list_append ⟨_,e,rfl⟩ F.entry_list_append (F.args_list_append_2 _ _) (PySem.list_append l ze.toArray n u (by rw[size_toArray];omega)) ⟨e,?_⟩
 refine⟨.zt,_,I.GC (its':=ze ++ [u]) hH e (by simp) (r.append (.cons ru .nil)) ?_,rfl,q⟩
 rw[length_append,length_singleton]
 omega
noncomputable def va:V->List V->Hp->VK->Prop:=fun x vs H Q=>∃ l b xs zs,x = .ref l/\vs=[.ref b]/\H l=some (.lst xs)/\H b=some (.lst zs)/\xs.length + zs.length <= sizeLine/\Q .zt (upd H l (.lst (xs ++ zs)))
theorem fL:OS X "list.extend" va:=by
 intro pins s σ H x vs v us Q I rx rv h
 obtain⟨l,b,xs,zs,rfl,rfl,hH,hB,hz,q⟩:=h
 cases rx
 obtain⟨u,rfl,ru⟩:=rv.one
 cases ru
 obtain⟨z,ze,n,r,hl,e⟩:=I.Cg hH
 obtain⟨z2,B1,n2,r2,E4,e2⟩:=I.Cg hB
 have hsz:ze.toArray.size + B1.toArray.size <= sizeLine:=by rw[size_toArray,size_toArray];omega
 have DE:¬ (!ze.toArray.isEmpty && Builtin.List.listTooLong (ze.toArray.size + B1.toArray.size))=true:=by
  rw[lW hsz,Bool.and_false]
  exact Bool.false_ne_true
 refine call_meets F.slot_list_extend ⟨_,e,rfl⟩ F.entry_list_extend (F.args_list_extend_2 _ _)
  (AutoSeq1.list_extend_list_list_0 l ze.toArray n b B1.toArray n2 DE (by rw[size_toArray];omega) (by omega)) ⟨e,e2,?_⟩
 refine⟨.zt,_,I.GC (its':=ze ++ B1) hH e (by simp) (r.append r2) ?_,rfl,q⟩
 rw[length_append]
 omega
noncomputable def xI:V->List V->Hp->VK->Prop:=fun x vs H Q=>∃ l xs i k y,x = .ref l/\vs=[.int i]/\H l=some (.lst xs)/\-(2 ^ 63) <= i/\i < 2 ^ 63/\seqIndex? i xs.length=some k/\xs[k]? = some y/\Q y (upd H l (.lst (xs.eraseIdx k)))
theorem tO:OS X "list.pop" xI:=by
 intro pins s σ H x vs v us Q I rx rv h
 obtain⟨l,xs,i,k,y,rfl,rfl,hH,h1,h2,hk,hy,q⟩:=h
 cases rx
 obtain⟨u,rfl,ru⟩:=rv.one
 obtain⟨t,rfl⟩:=ru
 obtain⟨z,ze,n,r,hl,e⟩:=I.Cg hH
 obtain⟨w,hw,Ce⟩:=r.get hy
 refine call_meets F.slot_list_pop ⟨_,e,rfl⟩ F.entry_list_pop (F.args_list_pop_2 _ _)
  (MeetsSeq.list_pop_at l ze.toArray n i t k w (fitsIndex_both h1 h2) (by rw[size_toArray,← hl];exact hk) (by rw[← Array.getElem?_toList];exact hw) (by rw[size_toArray];omega)) ⟨e,?_⟩
 refine⟨y,_,I.GC (its':=ze.eraseIdx k) hH e ?_ (r.eraseIdx k) ?_,Ce,q⟩
 ·show ze.toArray.eraseIdxIfInBounds k=(ze.eraseIdx k).toArray
  rw[List.eraseIdxIfInBounds_toArray]
 ·have:=jS xs k
  omega
noncomputable def OT:R2:=fun x y H Q=>∃ l b xs zs,x = .ref l/\y = .ref b/\H l=some (.lst xs)/\H b=some (.lst zs)/\xs.length + zs.length <= sizeLine/\∀ p,H p=none->Q (.ref p) (upd H p (.lst (xs ++ zs)))
theorem sX:eD X (binaryOp .Add) OT:=by
 intro pins s σ H x y v u Q I rx ry h
 obtain⟨l,b,xs,zs,rfl,rfl,hH,hB,hz,q⟩:=h
 cases rx
 cases ry
 obtain⟨z,ze,n,r,hl,e⟩:=I.Cg hH
 obtain⟨z2,B1,n2,r2,E4,e2⟩:=I.Cg hB
 refine PySem.P.add_list e e2 ?_ (by rw[size_toArray,size_toArray];omega)
 have ea:ze.toArray ++ B1.toArray=(ze ++ B1).toArray:=by simp
 rw[ea]
 exact⟨.ref _,_,I.Jt (t':=s.toks) (r.append r2) (by rw[length_append];omega),rfl,q _ I.fresh⟩
noncomputable def OU:R2:=fun x y H Q=>∃ l k xs,x = .ref l/\y = .int k/\H l=some (.lst xs)/\-(2 ^ 63) <= k/\k < 2 ^ 63/\xs.length * k.toNat <= sizeLine /\
 ∀ p,H p=none->Q (.ref p) (upd H p (.lst (List.replicate k.toNat xs).flatten))
theorem vS {α:Type}(xs:List α)(k:Nat):(List.replicate k xs).flatten.length=k * xs.length:=by
 induction k with
 | zero=>simp
 | succ k ih=>rw[replicate_succ,flatten_cons,length_append,ih,Nat.succ_mul,Nat.add_comm]
theorem xU:eD X (binaryOp .Mult) OU:=by
 intro pins s σ H x y v u Q I rx ry h
 obtain⟨l,k,xs,rfl,rfl,hH,h1,h2,hz,q⟩:=h
 cases rx
 obtain⟨t,rfl⟩:=ry
 obtain⟨z,ze,n,r,hl,e⟩:=I.Cg hH
 have hlen:ze.toArray.size * k.toNat <= sizeLine:=by rw[size_toArray,← hl];exact hz
 have OV:¬ ze.toArray.size * k.toNat > (2 ^ 63 - 1) / 8:=by
  have:(sizeLine:Nat) <= (2 ^ 63 - 1) / 8:=by decide
  omega
 have GD:¬ (!Builtin.List.listFitsIndex k)=true:=by
  rw[fitsIndex_both h1 h2]
  exact Bool.false_ne_true
 have DE:¬ Builtin.List.listTooLong (ze.toArray.size * k.toNat)=true:=by
  rw[lW hlen]
  exact Bool.false_ne_true
 have OW:List.foldl (fun x1 x2=>x1 ++ x2) #[] (List.replicate (if ze.toArray.isEmpty=true then 0 else k.toNat) ze.toArray)=(List.replicate k.toNat ze).flatten.toArray:=by
  have f0:∀ m:Nat,List.foldl (fun x1 x2=>x1 ++ x2) #[] (List.replicate m ze.toArray)=(List.replicate m ze).flatten.toArray:=fun m=>by
   have:=jW ze m []
   rw[nil_append]at this
   exact this
  rw[f0]
  cases ze with
  | nil=>simp
  | cons a r'=>rw[if_neg (by simp)]
 refine wpAny_binaryOp_repeat_ref (T := "list") (U := "int") (by decide) ⟨_,e,rfl⟩ (fun s'=>typeIs_int s' k t) noFill_list_mul F.fills_int_mul F.slot_int_rmul repeat_list F.slot_int_index.lookup
  (call_meets F.slot_int_rmul (typeIs_int s k t) F.entry_int_rmul (F.args_int_rmul_2 _ _) (int___rmul___int_list k t l ze.toArray n)
   ⟨e,rfl,⟨_,e,rfl⟩,call_meets F.slot_list_mul ⟨_,e,rfl⟩ F.entry_list_mul (F.args_list_mul_2 _ _) (AutoListH.list___mul___list_int_3 l ze.toArray n k t GD OV DE) ⟨e,?_⟩⟩)
 rw[OW]
 exact⟨.ref _,_,I.Jt (t':=s.toks) (r.rep k.toNat) (by rw[vS,Nat.mul_comm];exact hz),rfl,q _ I.fresh⟩
end
section
variable {prog:Program}{w:World}{A:Around}{E:Value->Shared->Prop}{s:Shared}
set_option maxRecDepth 100000 in
end
section
variable {X:Cx}
end
end L2
namespace Uj
open PySem PySem.W PySem.Calls PyProof.Rows
theorem iA {P:Params}{h:Heap}:∀ (ns:List Int)(vs:List Value),WellAll P h vs (ns.map WData.int)->IntsAre vs ns:=by
 intro ns
 induction ns with
 | nil =>
  intro vs w
  rw[map_nil]at w
  cases w
  exact .nil
 | cons n ns ih =>
  intro vs w
  rw[map_cons]at w
  cases w with
  | cons a b =>
   cases a
   exact .cons _ _ (ih _ b)
theorem qe {l:OpenLaw}{n:Nat}(hn:l.most=some n){P:Params}{h:Heap}{args:List WData}{vals:List Value}
  (E5:l.row.toRowW.claim.pre args=true) (Eh:WellAll P h vals args) :
  ∃ a vs ns,vals=[Value.ref a]/\args=[WData.list (ns.map WData.int)]/\h.get? a=some { cls := .type "list",data := .seq vs.toArray }/\IntsAre vs ns/\ns.length <= n:=by
 have hsh:WShape.hasAll [] args [.list .int]=true:=(pre_splitW E5).1
 have hc:l.pre.holds [] { args:=args } = true:=(pre_splitW E5).2
 obtain⟨d,r,rfl,h1,h2⟩:=hasAllW_cons hsh
 obtain rfl:=hasAllW_nil h2
 obtain⟨xs,rfl,h3⟩:=hasW_list h1
 obtain⟨ns,rfl⟩:=items_int h3
 have hlen:ns.length <= n:=by
  unfold OpenLaw.pre at hc
  have h4:(WTm.not (.lt (.lit (.int (n:Int))) (.len (.arg 0)))).holds [] { args:=[.list (ns.map .int)] } = true:=by
   have h4:=(holds_andW hc).1
   rw[hn]at h4
   exact h4
  have h5:=condW_of h4 (w_not (w_lt w_lit (w_len_list (w_arg rfl))))
  rw[length_map]at h5
  refine Nat.le_of_not_lt fun q=>?_
  have q':(n:Int) < ((ns.length:Nat):Int):=by omega
  first
   | (rw[decide_eq_true q']at h5;exact absurd h5 (by decide))
   | (simp at h5;omega)
 cases Eh with
 | cons w1 w2 =>
  cases w2
  cases w1 with
  | list ho Ak=>exact⟨_,_,ns,rfl,rfl,ho,iA ns _ Ak,hlen⟩
theorem qh (l:OpenLaw)(args:List WData):l.row.toRowW.claim.post args (.bool true) args=true :=
 postW_of (r:=l.row.toRowW) (X:=(true == true))
  (show WShape.has [] (.bool true) .bool=true by first | rfl | decide | simp[WShape.has,WShape.arms,WShape.armsAll])
  (show(WTm.eq .res (.lit (.bool true))).value [] { args:=args,res:=some (.bool true),after:=args } = some (.bool (true == true)) from w_eq_bool (w_res rfl) w_lit) rfl
theorem Ci {l:OpenLaw}{n:Nat}{q:Program}{loose:List Str}{XP:(Str->Option Value)->Heap->Prop}{YP:World->Heap->Prop}{d:DefRec}
  (hn:l.most=some n) (Ju:d.params.defaults=[])
  (call:∀ (w:World)(s₀ s₁:Shared)(mg mb:Str->Option Value)(fa:Addr)(o:Obj)(pm cd doc:Value)(a:Addr)(vs:List Value)(ns:List Int),
   Ground q loose [] XP w s₀ mg mb s₁.heap->YP w s₁.heap ->
   s₁.heap.get? fa=some o->o.data = .func (docDef d.name d.params d.body d.scope pm cd doc)->s₁.heap.CodeRec cd d.name->mg d.name=some (.ref fa) ->
   s₁.heap.get? a=some { cls := .type "list",data := .seq vs.toArray }->IntsAre vs ns->ns.length <= n->s₁.gens = #[] ->
   codeAny (model l.prog w) callerA (.call (.ref fa) ⟨[.ref a],[]⟩) (fun r s'=>r = .ok (.ret (.bool true))/\OldK s₁.heap s'.heap/\s'.os=s₁.os/\AllBare s'.gens) s₁) :
  WalkO q loose XP YP l.row.toRowW d [] (fun f vs=>PySem.call f vs):=by
 intro w s₀ s₁ mg mb G Y fa o pm cd doc dV kV ho hd C5 hD hmg hg args vals as E5 hlay hrd Eh hlo
 obtain rfl:dV = .none:=Dflts.none hD Ju
 obtain rfl:kV = .none:=Dflts.noKw hD
 obtain⟨a,vs,ns,rfl,rfl,GF,hints,hlen⟩:=qe hn E5 Eh
 refine enter_call (codeAny_mono (call w s₀ s₁ mg mb fa o pm cd doc a vs ns G Y ho (fd_plain hd) C5 hmg GF hints hlen hg) fun r s' hq=>?_)
 obtain⟨rfl,h2,h3,h4⟩:=hq
 exact⟨.inl ⟨.bool true, .bool true,[],rfl,fun _=>rfl, .bool true,qh l _,fun _=>⟨List.Pairwise.nil,fun _ hm=>(nomatch hm)⟩⟩,h2,h3,h4⟩
section
variable {prog:Program}{w:World}{A:Around}{E:Value->Shared->Prop}{s:Shared}{K:Frag}
end
end Uj
namespace L2
open PySem PySem.Spec PyProof.Rows
theorem jE:∀ {vs:List Value}{ns:List Int},IntsAre vs ns->Vals (ns.map V.int) vs
 | _,_, .nil => .nil
 | _,_, .cons n t h => .cons ⟨t,rfl⟩ (jE h)
noncomputable def yV (H:Hp):Prop:=∀ b,H b=none∨∃ o xs,H b=some (.AZ o (.lst xs))
theorem tV {P:Program}{w:World}{K:Frag}{mg mb:Str->Option Value}{CX:oF}{k:Nat}{fa a:Addr}{fd:FuncData}{x:Str}{sp:Sp}{s₁:Shared}{vs:List Value}{ns:List Int}
  (KX:K.In s₁.heap) (GH:s₁.heap.Ns mainGlobals mg) (hb:s₁.heap.Ns builtinsNs mb) (hbb:∀ x:Str,x ≠ "__name__"->mb x=bootBuiltins x) (OX:s₁.heap.NoLimit) (hg:s₁.gens = #[])
  (ha:s₁.heap.get? a=some { cls := .type "list",data := .seq vs.toArray }) (hi:IntsAre vs ns) (hl:ns.length <= sizeLine) (hr:zm k callerA)
  (F:∀ base:Heap,K.In base->base.Ns mainGlobals mg->zb P w K mg base CX k fa fd [x] sp) (Jv:∀ (s:Shared)(u:Value),BindsTo s fd ⟨[u],[]⟩ [(x,u)])
  (D3:∀ H:Hp,yV H->zf K H a (ns.map V.int)->sp [.ref a] H (fun v _=>v = .bl true) fun _ _ _=>False)
  (OY:∀ H e s',CX [] H s₁ (fun _ _ _=>False) e s'->False) :
  codeAny (model P w) callerA (.call (.ref fa) ⟨[.ref a],[]⟩) (fun r s'=>r = .ok (.ret (.bool true))/\OldK s₁.heap s'.heap/\s'.os=s₁.os/\AllBare s'.gens) s₁:=by
 have rv:=jE hi
 have OZ:=hi.length
 have core:∀ H:Hp,yV H->zf K H a (ns.map V.int)->Ab P w H s₁.heap->(∀ b,H b ≠ none->b=a)->(H a ≠ none->K.lookup a=none) ->
   codeAny (model P w) callerA (.call (.ref fa) ⟨[.ref a],[]⟩) (fun r s'=>r = .ok (.ret (.bool true))/\OldK s₁.heap s'.heap/\s'.os=s₁.os/\AllBare s'.gens) s₁:=by
  intro H hO hS zg hA hK
  have base_of:∀ {b:Addr}{o:Obj},s₁.heap.get? b=some o->H b=none->(ld s₁.heap H).get? b=some o:=fun e n=>tZ e n
  have Jo:∀ {b:Addr}{o:Obj}{es:Array DictEntry}{ep:Nat},s₁.heap.get? b=some o->o.data = .dict es ep->H b=none:=fun {b o es ep} e d=>by
   cases q:H b with
   | none=>rfl
   | some u =>
    have e':b=a:=hA b (by rw[q];simp)
    subst e'
    rw[ha]at e;cases e
    have d':Data.seq vs.toArray _=Data.dict es ep:=d
    cases d'
  have Nd:∀ {b:Addr}{m:Str->Option Value},s₁.heap.Ns b m->(ld s₁.heap H).Ns b m:=fun {b m} ⟨o,es,ep,e,d,r⟩=>⟨o,es,ep,base_of e (Jo e d),d,r⟩
  have Uk:K.In (ld s₁.heap H):=fun b o e=>base_of (KX b o e) (by
   cases q:H b with
   | none=>rfl
   | some u =>
    have e':b=a:=hA b (by rw[q];simp)
    subst e'
    rw[hK (by rw[q];simp)]at e;cases e)
  have hM:Mod K mg (ld s₁.heap H):=⟨Uk,Nd GH,⟨mb,Nd hb,hbb⟩,let ⟨mc,h1,h2⟩:=OX; ⟨mc,Nd h1,h2⟩⟩
  have e0:C7 P w K mg (ld s₁.heap H) callerA [] s₁ H:=⟨rfl,hM,fun b o e=>vK e,le_of_eq (qH _ _),trivial,fun b hb=>absurd (show b ∈ ([]:List Addr) from hb) (by simp),zg, .of_eq hg⟩
  refine codeAny_mono ((F _ Uk (Nd GH)).run callerA [] s₁ H ⟨[.ref a],[]⟩ [.ref a] [.ref a] _ _ hr e0 (Jv s₁ (.ref a)) (.cons rfl .nil) (D3 H hO hS)) fun r s' h=>?_
  cases r with
  | error e=>exact(OY H e s' h).elim
  | ok fl =>
   cases fl with
   | next=>exact False.elim h
   | brk=>exact False.elim h
   | cont=>exact False.elim h
   | ret u =>
    obtain⟨v,H',os,bare,un,Pa,r',q⟩:=h
    have q':v = .bl true:=q
    subst q'
    obtain rfl:u=Value.bool true:=r'
    refine⟨rfl,OldK.of_keep fun b o e=>?_,os,bare⟩
    cases q:H b with
    | none=>exact un.keep b o e q (by intro z;exact absurd (show b ∈ ([]:List Addr) from z) (by simp)) (by simp)
    | some u =>
     rcases hO b with z | ⟨ob,xs,z⟩
     ·rw[q]at z;cases z
     ·have z2:=un.Bd b ob _ z
      obtain⟨e1,_⟩:=zg b _ z
      obtain⟨e2,_⟩:=Pa b _ z2
      rw[e]at e1;cases e1
      exact e2
 cases hk:K.lookup a with
 | some o =>
  have e:=KX a o hk
  rw[ha]at e
  cases e
  refine core (fun _=>none) (fun _ => .inl rfl) (.inr ⟨_,vs.toArray,_,hk,rfl,rfl,rfl,by rw[size_toArray,OZ];exact hl,by simpa using rv⟩) (fun b u z=>by have z':(none:Option HO)=some u:=z;cases z') (fun b z=>absurd rfl z) fun z=>absurd rfl z
 | none =>
  refine core (fun b=>if b=a then some (.AZ { cls := .type "list",data := .seq vs.toArray } (.lst (ns.map V.int))) else none) (fun b=>?_) (.inl (.inr ⟨{ cls := .type "list",data := .seq vs.toArray },if_pos rfl⟩)) (fun b u z=>?_) (fun b z=>?_) fun _=>hk
  ·by_cases hb:b=a
   ·exact .inr ⟨_,_,if_pos hb⟩
   ·exact .inl (if_neg hb)
  ·by_cases hb:b=a
   ·have z':=(if_pos hb).symm.trans z
    cases z'
    subst hb
    exact⟨ha,by rw[length_map];exact hl,vs,_,rv,ha⟩
   ·have z':=(if_neg hb).symm.trans z
    cases z'
  ·by_cases hb:b=a
   ·exact hb
   ·exact absurd (if_neg hb) z
end L2
namespace L2
open PySem PySem.Spec PyProof.Rows
theorem E6 {l:PySem.W.OpenLaw}{n k:Nat}{q:Program}{loose:List Str}{XP:(Str->Option Value)->Heap->Prop}{YP:World->Heap->Prop}{d:DefRec}{K:Params->Frag}{CX:World->oF}{sp:World->Sp}{x:Str}
  (hn:l.most=some n) (AV:n <= sizeLine) (Ju:d.params.defaults=[]) (hr:zm k callerA)
  (hY:∀ (w:World)(h:Heap),YP w h->(K w.params).In h)
  (F:∀ (w:World)(mg:Str->Option Value)(fa:Addr)(h:Heap),(K w.params).In h->h.Ns mainGlobals mg->mg d.name=some (.ref fa) ->
   ∃ fd:FuncData,(∀ (s:Shared)(u:Value),BindsTo s fd ⟨[u],[]⟩ [(x,u)]) /\
    ∀ base:Heap,(K w.params).In base->base.Ns mainGlobals mg->zb l.prog w (K w.params) mg base (CX w) k fa fd [x] (sp w))
  (D3:∀ (w:World)(H:Hp)(a:Addr)(ns:List Int),ns.length <= n->yV H->zf (K w.params) H a (ns.map V.int)->sp w [.ref a] H (fun v _=>v = .bl true) fun _ _ _=>False)
  (OY:∀ (w:World)(H:Hp)(s:Shared)(e:Value)(s':Shared),CX w [] H s (fun _ _ _=>False) e s'->False) :
  PySem.W.WalkO q loose XP YP l.row.toRowW d [] (fun f vs=>PySem.call f vs):=by
 refine Uj.Ci hn Ju fun w s₀ s₁ mg mb fa o pm cd doc a vs ns G Y ho hd C5 hmg GF hints hlen hg=>?_
 have KX:=hY w _ Y
 obtain⟨fd,hb,hF⟩:=F w mg fa _ KX G.T.g hmg
 exact tV KX G.T.g G.T.b G.T.builtins G.T.nolimit hg GF hints (le_trans hlen AV) hr hF hb (fun H hO hS=>D3 w H a ns hlen hO hS) fun H e s'=>OY w H s₁ e s'
end L2
namespace L2
open PySem PySem.Spec PyProof.Rows
noncomputable def aE (s:Stmt)(j:Nat):Stmt:=match s with
 | .ClassDef _ _ _ body _ _ _ _ _ _ _=>body.getD j (.Pass ⟨0,0,0,0⟩)
 | _ => .Pass ⟨0,0,0,0⟩
noncomputable def bI (s:Stmt):Arguments:=match s with
 | .FunctionDef _ a _ _ _ _ _ _ _ _=>a
 | _=>{ posonlyargs:=[],args:=[],vararg:=none,kwonlyargs:=[],kw_defaults:=[],kwarg:=none,defaults:=[] }
noncomputable def aJ (s:Stmt):List Stmt:=match s with
 | .FunctionDef _ _ b _ _ _ _ _ _ _=>b
 | _=>[]
noncomputable def aj (s:Stmt):Scope:=match s with
 | .FunctionDef _ _ _ _ _ _ sc _ _ _=>sc
 | _=>{ kind := .function,names:=[],isGenerator:=false,isCoroutine:=false }
abbrev aG:oF:=fun _ _ _ _ _ _=>False
abbrev E0:XK:=fun _ _ _=>False
theorem aq {X:Cx}:dH aG X E0:=fun _ _ _ _ _ _ _ h=>h.elim
structure zA (K:Frag)(x qual:Str)(st:Stmt)(f:Addr)(fd:FuncData):Prop where
 ex:∃ (oc:Value)(od:Option Addr)(kV doc pm:Value)(an:Option Addr)(cdv ct:Value)(C8:Array (Option Value)),
  fd=fnOf x qual (bI st) (aJ st) (aj st) .none kV doc pm an cdv ct/\K.lookup f=some ⟨oc,od, .func fd,C8⟩/\codeIn K cdv qual=true
 kp:keepIn K (.ref f)=true
section
variable {P:Program}{w:World}{K:Frag}{mg:Str->Option Value}{base:Heap}
theorem zA.ok {x qual:Str}{st:Stmt}{f:Addr}{fd:FuncData}{N ps:List Str}{k:Nat}{sp:Sp}(F:zA K x qual st f fd)(S:ap N ps (aj st))(len:∀ vs H Q E,sp vs H Q E->vs.length=ps.length)
  (Bq:∀ (cdv:Value)(A:Around)(outer:List Env)(s:Shared)(H:Hp)(vs:List V)(Q:VK)(E:XK),zm k (A.deeper (envOfC qual (aj st) s.heap.objs.size f cdv))->sp vs H Q E ->
   ∃ t,C4 (iB aG P w K mg base N qual (aj st) f cdv A outer s H E).MT (aJ st) t/\t { nx:=fun _ H'=>Q .zt H',rt:=Q } (start N vs) H):zb P w K mg base aG (k + 1) f fd ps sp:=by
 obtain⟨oc,od,kV,doc,pm,an,cdv,ct,C8,rfl,lk,C5⟩:=F.ex
 refine ud lk C5 S len fun A outer s H vs Q E hr D3=>?_
 obtain⟨t,h,q⟩:=Bq cdv A outer s H vs Q E hr D3
 exact⟨t,h.MT,q⟩
theorem zA.binds {x qual:Str}{st:Stmt}{f:Addr}{fd:FuncData}{ps:List Str}(F:zA K x qual st f fd)
  (h:∀ (kV doc pm:Value)(an:Option Addr)(cdv ct:Value)(us:List Value),us.length=ps.length->bindArgs (fnOf x qual (bI st) (aJ st) (aj st) .none kV doc pm an cdv ct) ⟨us,[]⟩ = pure (ps.zip us)):Binds K fd ps []:=by
 obtain⟨oc,od,kV,doc,pm,an,cdv,ct,C8,rfl,lk,C5⟩:=F.ex
 exact .all (h kV doc pm an cdv ct)
theorem jw {x qual:Str}{st:Stmt}{f:Addr}{oc:Value}{od an:Option Addr}{C8:Array (Option Value)}{kV doc pm cdv ct:Value}(l:K.lookup f=some ⟨oc,od, .func (fnOf x qual (bI st) (aJ st) (aj st) .none kV doc pm an cdv ct),C8⟩)
  (c:codeIn K cdv qual=true) (k:keepIn K (.ref f)=true):zA K x qual st f (fnOf x qual (bI st) (aJ st) (aj st) .none kV doc pm an cdv ct):=⟨⟨oc,od,kV,doc,pm,an,cdv,ct,C8,rfl,l,c⟩,k⟩
end
theorem jV {A:Around}{k:Nat}(hr:zm k A):A.units + 1 < cLine:=lt_of_le_of_lt (Nat.add_le_add_left (by decide:1 <= 64) _) hr.units
section
variable {X:Cx}
theorem pv (i:Nat){x:Str}{pos:Pos}(hN:X.N[i]? = some x:=by rfl)(hv:MN X.env.scope x:=by first | exact Or.inl rfl | exact Or.inr (Or.inl rfl) | exact Or.inr (Or.inr rfl))(hd:(x == ("__debug__":Str))=false:=by decide)
  (C5:(x == ("__classdict__":Str))=false:=by decide):PE X (.Name x pos) (qa i):=xL hN hv hd C5
end
theorem aH {A B:Prop}(h:B):if false=true then A else B:=by
 rw[if_neg Bool.false_ne_true]
 exact h
theorem aK {A B:Prop}(h:A):if true=true then A else B:=by
 rw[if_pos rfl]
 exact h
theorem Pb {c A B:Prop} [Decidable c] (h1:c->A) (h2:¬ c->B):if c then A else B:=by
 by_cases h:c
 ·rw[if_pos h]
  exact h1 h
 ·rw[if_neg h]
  exact h2 h
noncomputable def za (H H':Hp):Prop:=∀ b o,H b=some o->H' b=some o
theorem za.refl (H:Hp):za H H:=fun _ _ h=>h
theorem za.trans {H H1 H2:Hp}(a:za H H1)(b:za H1 H2):za H H2:=fun c o h=>b c o (a c o h)
theorem za.free {H H':Hp}(e:za H H'){l:Addr}(h:H' l=Option.none):H l=Option.none:=by
 cases q:H l with
 | none=>rfl
 | some o =>
  rw[e l o q]at h
  cases h
theorem za.seq {K:Frag}{H H':Hp}{a:Addr}{xs:List V}(e:za H H')(h:zf K H a xs):zf K H' a xs:=by
 rcases h with (h | ⟨o,h⟩) | h
 ·exact .inl (.inl (e _ _ h))
 ·exact .inl (.inr ⟨o,e _ _ h⟩)
 ·exact .inr h
end L2
namespace Yd
open PySem
theorem oA (a b:Nat):Builtin.bitAnd (a:Int) (b:Int)=((a &&& b:Nat):Int):=by
 unfold Builtin.bitAnd
 simp
theorem cC (x:Int):Builtin.bitNot x = -x - 1:=by
 unfold Builtin.bitNot
 omega
theorem De (a b:Nat):Builtin.bitOr (a:Int) (b:Int)=((a ||| b:Nat):Int):=by
 unfold Builtin.bitOr
 have h1:Builtin.bitNot (a:Int) = -(a:Int) - 1:=cC _
 have h2:Builtin.bitNot (b:Int) = -(b:Int) - 1:=cC _
 unfold Builtin.bitAnd
 rw[h1,h2]
 have e1:decide (0 <= -(a:Int) - 1)=false:=decide_eq_false (by omega)
 have e2:decide (0 <= -(b:Int) - 1)=false:=decide_eq_false (by omega)
 rw[e1,e2]
 simp only[]
 have e3:Builtin.bitNot (-(a:Int) - 1)=a:=by rw[cC];omega
 have e4:Builtin.bitNot (-(b:Int) - 1)=b:=by rw[cC];omega
 rw[e3,e4]
 simp only[toNat_natCast]
 rw[cC,cC]
 omega
noncomputable def zI:List Nat->Nat->Nat
 | [],s=>s
 | n :: r,s=>zI r (s ||| 2 ^ n)
theorem Al (k:Nat):∀ (l:List Nat)(s:Nat),(zI l s).testBit k=(s.testBit k || decide (k ∈ l))
 | [],s=>by simp[zI]
 | n :: r,s=>by
  unfold zI
  rw[Al k r]
  rw[Nat.testBit_or,Nat.testBit_two_pow]
  by_cases h:n=k
  ·subst h;simp
  ·have:¬ k=n:=fun z=>h z.symm
   simp[h,this]
theorem DF (l r:List Nat)(s:Nat):zI (l ++ r) s=zI r (zI l s):=by
 induction l generalizing s with
 | nil=>rfl
 | cons n t ih=>exact ih _
noncomputable def jC (l:List Nat):Nat->Nat
 | 0=>0
 | n + 1=>if n ∈ l then jC l n + 2 ^ n else jC l n
theorem BH (l:List Nat):∀ n,jC l n < 2 ^ n
 | 0=>by simp[jC]
 | n + 1=>by
  have:=BH l n
  unfold jC
  rw[Nat.pow_succ]
  split<;>omega
theorem mD (l:List Nat)(k:Nat):∀ n,(jC l n).testBit k=decide (k < n/\k ∈ l)
 | 0=>by simp[jC]
 | n + 1=>by
  have ih:=mD l k n
  have zL:=BH l n
  unfold jC
  by_cases hn:n ∈ l
  ·rw[if_pos hn,Nat.add_comm]
   rcases Nat.lt_trichotomy k n with h | h | h
   ·rw[Nat.testBit_two_pow_add_gt h,ih]
    simp[h,Nat.lt_succ_of_lt h]
   ·subst h
    rw[Nat.testBit_two_pow_add_eq,testBit_lt_two_pow zL]
    simp[hn]
   ·have hb:2 ^ n + jC l n < 2 ^ k:=by
     have:2 ^ (n + 1) <= 2 ^ k:=pow_le_pow_right (by decide) h
     rw[Nat.pow_succ]at this
     omega
    rw[testBit_lt_two_pow hb]
    have:¬ k < n + 1:=by omega
    simp[this]
  ·rw[if_neg hn,ih]
   by_cases h:k=n
   ·subst h;simp[hn]
   ·have:k < n↔k < n + 1:=by omega
    simp[this]
theorem E7 {l:List Nat}{n:Nat}(h:∀ k ∈ l,k < n):jC l n=zI l 0:=by
 apply Nat.eq_of_testBit_eq
 intro k
 rw[mD,Al]
 by_cases hk:k ∈ l
 ·simp[hk,h k hk]
 ·simp[hk]
noncomputable def CA (m b:Nat):List Nat:=(List.range b).filter fun k=>m.testBit k
theorem Cj {m b k:Nat}(h:m < 2 ^ b):k ∈ CA m b↔m.testBit k=true:=by
 unfold CA
 rw[mem_filter,mem_range]
 constructor
 ·exact fun z=>z.2
 ·intro z
  refine⟨?_,z⟩
  by_cases hk:k < b
  ·exact hk
  ·have:m < 2 ^ k:=lt_of_lt_of_le h (pow_le_pow_right (by decide) (by omega))
   rw[testBit_lt_two_pow this]at z
   cases z
theorem Df (m b:Nat):(CA m b).Pairwise (· < ·):=List.Pairwise.filter _ pairwise_lt_range
theorem Ck:∀ {l r:List Int},l.Pairwise (· < ·)->r.Pairwise (· < ·)->(∀ k,k ∈ l↔k ∈ r)->l=r
 | [],[],_,_,_=>rfl
 | [],y :: r,_,_,h=>by
  have:=(h y).mpr mem_cons_self
  cases this
 | x :: l,[],_,_,h=>by
  have:=(h x).mp mem_cons_self
  cases this
 | x :: l,y :: r,hl,hr,h=>by
  obtain⟨hx,Bh⟩:=pairwise_cons.mp hl
  obtain⟨hy,Fj⟩:=pairwise_cons.mp hr
  have e:x=y:=by
   rcases mem_cons.mp ((h x).mp mem_cons_self) with z | z
   ·exact z
   ·rcases mem_cons.mp ((h y).mpr mem_cons_self) with z' | z'
    ·exact z'.symm
    ·have:=hx y z'
     have:=hy x z
     omega
  subst e
  congr 1
  refine Ck Bh Fj fun k=>?_
  constructor
  ·intro z
   rcases mem_cons.mp ((h k).mp (mem_cons_of_mem _ z)) with q | q
   ·have:=hx k z;omega
   ·exact q
  ·intro z
   rcases mem_cons.mp ((h k).mpr (mem_cons_of_mem _ z)) with q | q
   ·have:=hy k z;omega
   ·exact q
theorem CM (m:Nat):m < 2 ^ (Builtin.Int.intBits (m:Int)):=by
 unfold Builtin.Int.intBits
 by_cases h:m=0
 ·subst h;simp
 ·have e:((m:Int) == 0)=false:=by simp[h]
  rw[e]
  simp only[Bool.false_eq_true,if_false,Int.natAbs_natCast]
  exact Nat.lt_log2_self
theorem bits_le {m b:Nat}(h:m < 2 ^ b):Builtin.Int.intBits (m:Int) <= b:=by
 unfold Builtin.Int.intBits
 by_cases h0:m=0
 ·subst h0;simp
 ·have e:((m:Int) == 0)=false:=by simp[h0]
  rw[e]
  simp only[Bool.false_eq_true,if_false,Int.natAbs_natCast]
  have:=(Nat.log2_lt h0).mpr h
  omega
theorem CN (m k:Nat):decide (Builtin.bitAnd ((m:Int) / 2 ^ k) 1=1)=m.testBit k:=by
 have e:((m:Int) / 2 ^ k)=((m / 2 ^ k:Nat):Int):=by
  rw[Int.natCast_ediv,Int.natCast_pow]
  rfl
 rw[e,show (1:Int)=((1:Nat):Int) from rfl,oA,Nat.testBit_eq_decide_div_mod_eq]
 rw[Nat.and_one_is_mod]
 congr 1
 exact propext ⟨fun z=>by exact_mod_cast z,fun z=>by exact_mod_cast z⟩
end Yd
namespace L2
open PySem PySem.Spec PyProof.Rows
noncomputable def ca (cells:List (Str × Addr)):List (Str × NameKind)->List (Str × Addr)->List (Str × Addr)
 | [],acc=>acc
 | (n,k) :: r,acc=>if k == .free then ca cells r ((n,(cells.lookup n).getD 0) :: acc) else ca cells r acc
theorem fZ {scope:Scope}{env:Env}(h:∀ y ∈ scope.names,y.2 = .free->∃ c,env.cells.lookup y.1=some c) :
  closureFor scope env=pure (ca env.cells scope.names []):=by
 unfold closureFor
 have key:∀ (names:List (Str × NameKind))(acc:List (Str × Addr)),(∀ y ∈ names,y.2 = .free->∃ c,env.cells.lookup y.1=some c) ->
   (forIn names acc fun (x:Str × NameKind)(cs:List (Str × Addr))=>(match x with
    | (name,kind)=>if (kind == NameKind.free)=true then do
      let c ← cellOf env name
      pure (ForInStep.yield ((name,c) :: cs))
     else pure (ForInStep.yield cs):Sem (ForInStep (List (Str × Addr)))))=(pure (ca env.cells names acc):Sem (List (Str × Addr))):=by
  intro names
  induction names with
  | nil=>intro acc _;rfl
  | cons y r ih =>
   intro acc hy
   obtain⟨n,k⟩:=y
   rw[List.forIn_cons]
   by_cases hk:(k == NameKind.free)=true
   ·obtain⟨c,hc⟩:=hy (n,k) mem_cons_self (by simpa using hk)
    have e1:cellOf env n=pure c:=by
     unfold cellOf
     simp only[]at hc
     rw[hc]
    simp only[hk,if_true,e1,pure_bind]
    rw[ih _ fun z hz=>hy z (mem_cons_of_mem _ hz)]
    unfold ca
    simp only[]at hc
    rw[if_pos hk,hc]
    conv=>rhs;unfold ca
    rfl
   ·simp only[hk,Bool.false_eq_true,if_false,pure_bind]
    rw[ih _ fun z hz=>hy z (mem_cons_of_mem _ hz)]
    conv=>rhs;unfold ca
    rw[if_neg hk]
 exact(congrArg (fun (m:Sem (List (Str × Addr)))=>m >>= fun z=>pure z) (key scope.names [] h)).trans (pure_bind _ _)
theorem dF {cells:List (Str × Addr)}{x:Str}{c:Addr}:∀ (names:List (Str × NameKind))(acc:List (Str × Addr)),(∀ y ∈ names,y.2 = .free->∃ c,cells.lookup y.1=some c) ->
  (∀ c,acc.lookup x=some c->cells.lookup x=some c)->(ca cells names acc).lookup x=some c->cells.lookup x=some c
 | [],acc,_,ha,e=>ha c e
 | (n,k) :: r,acc,hn,ha,e=>by
  unfold ca at e
  have hr:=fun z hz=>hn z (mem_cons_of_mem _ hz)
  split at e
  ·rename_i hk
   refine dF r _ hr (fun c' e'=>?_) e
   rw[lookup_cons]at e'
   split at e'
   ·rename_i hx
    have BW:x=n:=by simpa using hx
    subst BW
    obtain⟨c0,zY⟩:=hn (x,k) mem_cons_self (by simpa using hk)
    simp only[]at zY
    rw[zY]at e' ⊢
    exact e'
   ·exact ha c' e'
  ·exact dF r acc hr ha e
theorem eC {cells:List (Str × Addr)}{x:Str}:∀ (names:List (Str × NameKind))(acc:List (Str × Addr)),((x,NameKind.free) ∈ names∨∃ c,acc.lookup x=some c) ->
  ∃ c,(ca cells names acc).lookup x=some c
 | [],acc,h=>by
  rcases h with h | h
  ·cases h
  ·exact h
 | (n,k) :: r,acc,h=>by
  unfold ca
  split
  ·rename_i hk
   refine eC r _ ?_
   rcases h with h | ⟨c,h⟩
   ·rcases mem_cons.mp h with h | h
    ·refine .inr ⟨(cells.lookup n).getD 0,?_⟩
     injection h with h1 h2
     rw[lookup_cons,h1]
     simp
    ·exact .inl h
   ·refine .inr ?_
    rw[lookup_cons]
    split
    ·exact⟨_,rfl⟩
    ·exact⟨c,h⟩
  ·rename_i hk
   refine eC r _ ?_
   rcases h with h | h
   ·rcases mem_cons.mp h with h | h
    ·injection h with h1 h2
     subst h2
     exact absurd rfl hk
    ·exact .inl h
   ·exact .inr h
theorem gL {env:Env}{x:Str}:∀ {names:List (Str × NameKind)},names.lookup x=some .free ->
  (names.map fun (n,k)=>if (k == NameKind.free && env.scope.kind == .function && env.kindOf n == some .cell) then (n,NameKind.cell) else (n,k)).lookup x=some .cell ∨
  (names.map fun (n,k)=>if (k == NameKind.free && env.scope.kind == .function && env.kindOf n == some .cell) then (n,NameKind.cell) else (n,k)).lookup x=some .free
 | [],h=>by simp at h
 | (n,k) :: r,h=>by
  have ih:=@gL env x r
  rw[map_cons]
  cases hx:x == n with
  | true =>
   rw[lookup_cons,hx]at h
   cases h
   simp only[]
   split
   ·left;rw[lookup_cons,hx]
   ·right;rw[lookup_cons,hx]
  | false =>
   rw[lookup_cons,hx]at h
   simp only[]
   split
   ·rw[lookup_cons,hx];exact ih h
   ·rw[lookup_cons,hx];exact ih h
theorem eO {env:Env}{x:Str}{k:NameKind}(hk:k = .cell∨k = .free):∀ {names:List (Str × NameKind)},(∀ y ∈ names,y.2 ≠ .cell) ->
  (names.map fun (n,k)=>if (k == NameKind.free && env.scope.kind == .function && env.kindOf n == some .cell) then (n,NameKind.cell) else (n,k)).lookup x=some k->(x,NameKind.free) ∈ names
 | [],_,h=>by simp at h
 | (n,k') :: r,hc,h=>by
  have ih:=@eO env x k hk r fun y hy=>hc y (mem_cons_of_mem _ hy)
  rw[map_cons]at h
  simp only[]at h
  cases hx:x == n with
  | true =>
   have e:x=n:=by simpa using hx
   subst e
   split at h
   ·rename_i q
    have q':k' = .free:=by
     have:=(Bool.and_eq_true _ _ ▸ q:_/\_).1
     have:=(Bool.and_eq_true _ _ ▸ this:_/\_).1
     simpa using this
    rw[q']
    exact mem_cons_self
   ·rw[lookup_cons,hx]at h
    have e2:k' = k:=Option.some.inj h
    rcases hk with z | z
    ·exact absurd (e2.trans z) (hc (x,k') mem_cons_self)
    ·rw[e2,z];exact mem_cons_self
  | false =>
   split at h
   ·rw[lookup_cons,hx]at h;exact mem_cons_of_mem _ (ih h)
   ·rw[lookup_cons,hx]at h;exact mem_cons_of_mem _ (ih h)
section
variable {prog:Program}{w:World}{A:Around}{R:Result->Shared->Prop}{s:Shared}
abbrev k9 (ifs:List Expr)(env:Env):Sem Bool :=
 forIn ifs true fun c r=>if r=true then do let ok ← isTrue c env (eval c env);pure (ForInStep.yield ok) else pure (ForInStep.yield r)
theorem mQ {elt tg iter:Expr}{ifs:List Expr}{scope:Scope}{pos:Pos}{it acc:Value}{env:Env}(I:Nat->Shared->Prop)
  (turn:∀ n s,I n s->wpAny (model prog w) A (pyNext it) (fun r s1=>match r with
   | none=>R (.ok .next) s1
   | some v=>wpAny (model prog w) A (letOwnedTupleGo tg it v) (fun _ s2=>wpAny (model prog w) A (assign tg env v) (fun _ s3 =>
     wpAny (model prog w) A (k9 ifs env) (fun ok s4 =>
      if ok=true then wpAny (model prog w) A (eval elt env) (fun x s5 =>
       wpAny (model prog w) A (call (.builtin "list.append") [acc,x]) (fun _ s6=>∃ m,m < n/\I m s6) (fun _ _=>False) s5) (fun _ _=>False) s4
      else ∃ m,m < n/\I m s4) (fun _ _=>False) s3) (fun _ _=>False) s2) (fun _ _=>False) s1) (fun _ _=>False) s)
  (n:Nat) (h:I n s):codeAny (model prog w) A (.compLoop (.ListComp elt [⟨tg,iter,ifs,0⟩] scope pos) 0 it acc env) R s:=by
 refine codeAny_loop rfl I (fun n s hI=>?_) n h
 have no:∀ {E':Value->Shared->Prop}(e:Value)(s':Shared),False->E' e s':=fun _ _ z=>z.elim
 show wpAny _ A (Sem.onRaise (compTurn (.ListComp elt [⟨tg,iter,ifs,0⟩] scope pos) 0 it acc env) fun x=>do
  noteFrame x env
  theTreesLotGoes x) _ _ s
 refine wpAny_noted ?_
 rw[compTurn_list]
 refine wpAny_bind (wpAny_standAt (wpAny_bind (wpAny_mono (turn n s hI) (fun r s1 h1=>?_) no)))
 cases r with
 | none=>exact wpAny_pure h1
 | some v =>
  refine wpAny_bind (wpAny_mono h1 (fun _ s2 h2=>?_) no)
  refine wpAny_bind (wpAny_mono h2 (fun _ s3 h3=>?_) no)
  refine wpAny_bind (wpAny_mono h3 (fun ok s4 h4=>?_) no)
  cases ok with
  | false=>exact wpAny_pure ⟨rfl,h4⟩
  | true =>
   refine wpAny_bind (wpAny_bind (wpAny_mono h4 (fun x s5 h5=>?_) no))
   exact wpAny_bind (wpAny_mono h5 (fun _ s6 h6=>wpAny_pure (wpAny_pure ⟨rfl,h6⟩)) no)
end
noncomputable def Jw (X:Cx)(ifs:List Expr)(t:TT):Prop :=
 ∀ (pins:List (Addr × Obj))(s:Shared)(σ:St)(H:Hp)(Q:Bool->Hp->Prop),Inv X pins σ H s->t σ H Q->wpAny (model X.prog X.w) X.A (k9 ifs X.env) (TP X pins σ Q) X.xe s
noncomputable def pZ:TT:=fun _ H Q=>Q true H
theorem dq {X:Cx}:Jw X [] pZ:=fun _ _ _ H _ I h=>wpAny_pure ⟨H,I,h⟩
theorem bV {X:Cx}{c:Expr}{t:TT}(h:PT X c t):Jw X [c] t:=fun pins s σ H Q I hw=>by
 simp only[k9,List.forIn_cons,List.forIn_nil,if_true]
 exact wpAny_bind (wpAny_bind (aS (h pins s σ H Q I hw) fun b s' hb=>wpAny_pure (wpAny_pure hb)))
structure As (N:List Str)(sc scope:Scope)(capN:List Str)(cap:List Nat):Prop where
 kind:scope.kind = .function
 CB:∀ y ∈ scope.names,y.2 ≠ .cell
 loc:∀ y ∈ scope.names,y.2 = .local->scope.names.lookup y.1=some .local
 free:∀ y ∈ scope.names,y.2 = .free->sc.names.lookup y.1=some .cell∨sc.names.lookup y.1=some .free
 len:cap.length=capN.length
 cap:∀ p ∈ capN.zip cap,scope.names.lookup p.1=some .free/\N[p.2]? = some p.1
abbrev bS (X:Cx)(scope:Scope)(N:List Str)(C:Addr)(s:Shared)(H:Hp)(fp:List Addr):Cx :=
 { X with N:=N,s₀:=s,H₀:=H,env:=compEnvC scope (ca X.env.cells scope.names []) C X.env,outer:=X.stack,stack:=X.stack,ex:=fp,fn:=fun _=>false,pn:=[],xe:=fun _ _=>False }
noncomputable def ir (n:Nat)(cap:List Nat)(σ:St):St:=List.replicate n none ++ cap.map fun j=>(σ[j]?).join
theorem mT (n:Nat)(cap:List Nat)(σ:St):(ir n cap σ).length=n + cap.length:=by simp[ir]
section
variable {X:Cx}{pins:List (Addr × Obj)}{σ:St}{H:Hp}{s:Shared}{scope:Scope}{own capN:List Str}{cap:List Nat}{fp:List Addr}
theorem As.GI (B:As X.N X.env.scope scope capN cap)(ok:X.Ok):∀ y ∈ scope.names,y.2 = .free->∃ c,X.env.cells.lookup y.1=some c:=fun y hy hf=>ok.has y.1 (B.free y hy hf)
theorem As.cell (B:As X.N X.env.scope scope capN cap)(ok:X.Ok){x:Str}{c:Addr}(h:(ca X.env.cells scope.names []).lookup x=some c):X.env.cells.lookup x=some c :=
 dF scope.names [] (B.GI ok) (fun _ e=>by cases e) h
theorem As.locs (I:Inv X pins σ H s)(B:As X.N X.env.scope scope capN cap){h':Heap}(k:∀ x c v,X.env.cells.lookup x=some c->s.heap.IsCell c v->h'.IsCell c v)(C:Addr)(m0:Str->Option Value) :
  ∀ (i:Nat)(x:Str)(v:V),(own ++ capN)[i]? = some x->(ir own.length cap σ)[i]? = some (some v)->∃ u,RelV v u/\Look (compEnvC scope (ca X.env.cells scope.names []) C X.env) h' m0 x u:=by
 intro i x v e1 e2
 have hi:own.length <= i:=by
  by_cases q:own.length <= i
  ·exact q
  ·unfold ir at e2
   rw[List.getElem?_append_left (by simp;omega),List.getElem?_replicate,if_pos (by omega)]at e2
   cases e2
 have e1':capN[i - own.length]? = some x:=by
  rwa [List.getElem?_append_right hi]at e1
 unfold ir at e2
 rw[List.getElem?_append_right (by simpa using hi),length_replicate,List.getElem?_map]at e2
 cases ej:cap[i - own.length]? with
 | none=>rw[ej]at e2;cases e2
 | some j =>
  rw[ej]at e2
  have Nf:(σ[j]?).join=some v:=Option.some.inj e2
  have e3':σ[j]? = some (some v):=by
   cases q:σ[j]? with
   | none=>rw[q]at Nf;cases Nf
   | some u=>rw[q]at Nf;exact congrArg some Nf
  have hz:(x,j) ∈ capN.zip cap:=by
   refine List.mem_iff_getElem?.mpr ⟨i - own.length,?_⟩
   rw[List.getElem?_zip_eq_some]
   exact⟨e1',ej⟩
  obtain⟨c1,c2⟩:=B.cap (x,j) hz
  have Ul:(x,NameKind.free) ∈ scope.names:=PySem.mem_of_lookup c1
  have hX:=B.free _ Ul rfl
  obtain⟨m,hm,hl⟩:=I.loc
  obtain⟨u,ru,lk⟩:=hl j x v c2 e3' (hX.elim (fun z => .inr (.inl z)) fun z => .inr (.inr z))
  refine⟨u,ru, .inr ⟨gL c1,?_⟩⟩
  rcases lk with ⟨q,_⟩ | ⟨_,c,ec,ic⟩
  ·have q':X.env.scope.names.lookup x=some .local:=q
   rcases hX with z | z
   ·rw[z]at q';cases q'
   ·rw[z]at q';cases q'
  ·obtain⟨c',Um⟩:=eC (cells:=X.env.cells) (x:=x) scope.names [] (.inl Ul)
   have:=B.cell I.ok Um
   rw[ec]at this
   cases this
   exact⟨c,Um,k x c _ ec ic⟩
theorem Inv.blk {h4:Heap}{tk:Nat}{m0:Str->Option Value}{C:Addr}(I:Inv X pins σ H s)(B:As X.N X.env.scope scope capN cap)(hC:s.heap.objs.size <= C)(k:∀ b o,s.heap.get? b=some o->h4.get? b=some o)
  (hn:h4.Ns C m0) (hf:∀ b ∈ fp,fT X pins H b) (zL:∀ b ∈ fp,b < s.heap.objs.size) :
  Inv (bS X scope (own ++ capN) C s H fp) [] (ir own.length cap σ) H { s with heap:=h4,toks:=tk }:=by
 have Pe:∀ b ∈ fp,b ∉ lg X.stack:=fun b hb z=>by
  obtain⟨_,f1,f2,_⟩:=hf b hb
  rcases mem_cons.mp (I.AU b z) with e | e
  ·exact f1 e
  ·exact f2 e
 have hinv:∀ x,((relabel scope X.env).names.lookup x=some .cell∨(relabel scope X.env).names.lookup x=some .free)->(x,NameKind.free) ∈ scope.names:=fun x hx=>by
  rcases hx with q | q
  ·exact eO (.inl rfl) B.CB q
  ·exact eO (.inr rfl) B.CB q
 refine⟨⟨I.ok.mod,B.kind,I.ok.glob,I.ok.blt,hC,fun x y c h1 h2=>I.ok.inj x y c (B.cell I.ok h1) (B.cell I.ok h2),fun x hx=>eC scope.names [] (.inl (hinv x hx)),fun _ _ z=>absurd z Bool.false_ne_true,I.ok.hd,I.ok.frames, .inl rfl,
  fun b hb=>⟨ne_of_lt (lt_of_lt_of_le (zL b hb) hC),fun x c e=>(hf b hb).2.2.2.2.1 x c (B.cell I.ok e)⟩,I.bs,le_trans I.ok.Ey I.sz,fun b o e hb=>?_,fun b hb=>Pe b hb,I.stack,I.BE⟩,
  rfl,I.bare,Un.kept k,⟨m0,hn,fun i x v e1 e2 _=>B.locs I (fun _ _ _ _ q=>q.keeps k) C m0 i x v e1 e2⟩,fun x c e=>?_,I.zg.fresh hC,fun x c e=>I.zQ x c (B.cell I.ok e),fun p hp=>absurd (show p ∈ ([]:List (Addr × Obj)) from hp) (by simp),I.zg.kept k,?_⟩
 ·rcases (hf b hb).2.2.2.1 with z | z
  ·exact I.ok.DC b o e z
  ·exact absurd (lt_of_lt_of_le (lt_size e) (le_trans I.ok.Ey z)) (lt_irrefl _)
 ·obtain⟨v,q⟩:=I.cell x c (B.cell I.ok e)
  exact⟨v,q.keeps k⟩
 ·show(ir own.length cap σ).length=(own ++ capN).length
  rw[mT,length_append,B.len]
theorem Inv.reset {Cb:List (Addr × Obj)}{σ':St}{H':Hp}{s':Shared}{C:Addr}(I:Inv X pins σ H s)(B:As X.N X.env.scope scope capN cap)(hf:∀ b ∈ fp,fT X pins H b)(J:Inv (bS X scope (own ++ capN) C s H fp) Cb σ' H' s') :
  Inv (bS X scope (own ++ capN) C s H fp) Cb (ir own.length cap σ) H' s':=by
 obtain⟨m,hn,_⟩:=J.loc
 refine⟨J.ok,J.os,J.bare,J.base,⟨m,hn,fun i x v e1 e2 _=>?_⟩,J.cell,J.free,J.zQ,J.pin,J.zg,?_⟩
 ·refine B.locs I (fun y c v' ec ic=>?_) C m i x v e1 e2
  obtain⟨o,ho,hd⟩:=ic
  have hx:c ∉ fp:=fun z=>(hf c z).2.2.2.2.1 y c ec rfl
  obtain⟨sl,e⟩:=J.base.any ho (I.zQ y c ec) hx
  exact⟨_,e,hd⟩
 ·show(ir own.length cap σ).length=(own ++ capN).length
  rw[mT,length_append,B.len]
theorem Inv.adopt {D:Addr}{o:HO}(I:Inv X pins σ H s)(hn:H D=none)(h0:X.s₀.heap.objs.size <= D)(hL:D ≠ X.env.locals)(hc:∀ x c,X.env.cells.lookup x=some c->c ≠ D)(hp:∀ p ∈ X.pn ++ pins,p.1 ≠ D)
  (new:zu X.prog X.w (upd H D o) s.heap D o):Inv X pins σ (upd H D o) s:=by
 have ne:∀ b u,H b=some u->b ≠ D:=fun b u e=>ah e hn
 refine⟨I.ok,I.os,I.bare,⟨I.base.keep,I.base.slot,fun b ob e n hx=>?_,I.base.there,fun b xs e=>?_,fun b ob u e=>?_,fun b ps e=>?_⟩,I.loc,I.cell,?_,fun x c e=>?_,fun p BI=>?_,fun b u e=>?_,I.len⟩
 ·rw[ae (ne_of_lt (lt_of_lt_of_le (lt_size e) h0))]
  exact I.base.free b ob e n hx
 ·have q:=I.base.Bo b xs e
  rw[ae (ne b _ q)];exact q
 ·have q:=I.base.Bd b ob u e
  rw[ae (ne b _ q)];exact q
 ·obtain⟨more,q⟩:=I.base.Bp b ps e
  exact⟨more,by rw[ae (ne b _ q)];exact q⟩
 ·rw[ae (Ne.symm hL)];exact I.free
 ·rw[ae (hc x c e)];exact I.zQ x c e
 ·obtain⟨e,n,r⟩:=I.pin p BI
  exact⟨e,by rw[ae (hp p BI)];exact n,r⟩
 ·by_cases hb:b=D
  ·subst hb;rw[ac]at e;cases e;exact new
  ·rw[ae hb]at e
   exact(I.zg b u e).Ac (fun _ _ _ q=>q) (fun c q=>by rw[ae (ne c _ q)];exact q) fun c xs q=>by rw[ae (ne c _ q)];exact q
end
noncomputable def dz (J:It)(g:TG)(tt:TT)(te:TE)(σ0:St)(Q:VK)(H1:Hp):Prop:=∃ W:Nat->Nat->List V->Hp->Prop,(∃ m,W 0 m [] H1)/\∀ i m acc H,W i m acc H ->
 acc.length < sizeLine/\((J.stop i H/\∀ D,H D=none->Q (.ref D) (upd H D (.lst acc)))∨(J.go i H/\∃ N:List V->Hp->Prop,(∀ zT H',N zT H'->∃ m',m' < m/\W (i + 1) m' zT H') /\
  ∀ x H',J.Ef i H x H'->g x σ0 H' fun σ2 H2=>tt σ2 H2 fun b H3=>if b=true then te σ2 H3 fun y H4=>N (acc ++ [y]) H4 else N acc H3))
noncomputable def wC (wi:TI)(g:TG)(tt:TT)(te:TE)(n:Nat)(cap:List Nat):TE:=fun σ H Q=>wi σ H fun J H1=>dz J g tt te (ir n cap σ) Q H1
section
variable {X:Cx}{tg iter elt:Expr}{ifs:List Expr}{scope:Scope}{pos:Pos}{wi:TI}{g:TG}{tt:TT}{te:TE}{own capN:List Str}{cap:List Nat}
abbrev kY (ze:List Value)(k:Nat):Obj:={ cls := .type "list",data := .seq ze.toArray k }
theorem mK {pins:List (Addr × Obj)}{s:Shared}{σ:St}{H:Hp}{Q:VK}{it:Addr}{fp:List Addr}{tn:Nat->Heap->Prop}{J:It}(B:As X.N X.env.scope scope capN cap)(hc:X.calm=true)
  (hb:∀ (C:Addr)(s:Shared)(H:Hp)(fp:List Addr),PG (bS X scope (own ++ capN) C s H fp) tg g/\Jw (bS X scope (own ++ capN) C s H fp) ifs tt/\PE (bS X scope (own ++ capN) C s H fp) elt te)
  (I:Inv X pins σ H s) (T:mX X.prog X.w X.K tg J fp it tn) (st:tn 0 s.heap) (hf:∀ b ∈ fp,fT X pins H b) {W:Nat->Nat->List V->Hp->Prop} {m0:Nat} (w0:W 0 m0 [] H)
  (turn:∀ i m acc H,W i m acc H->acc.length < sizeLine/\((J.stop i H/\∀ D,H D=none->Q (.ref D) (upd H D (.lst acc)))∨(J.go i H/\∃ N:List V->Hp->Prop,(∀ zT H',N zT H'->∃ m',m' < m/\W (i + 1) m' zT H') /\
   ∀ x H',J.Ef i H x H'->g x (ir own.length cap σ) H' fun σ2 H2=>tt σ2 H2 fun b H3=>if b=true then te σ2 H3 fun y H4=>N (acc ++ [y]) H4 else N acc H3)))
  {RR:Value->Addr->Result->Shared->Prop}
  (fin:∀ (D C:Addr)(H':Hp)(s':Shared),Q (.ref D) H'->Inv X pins σ H' s'->(∃ m,s'.heap.Ns C m)->H' C=none->C ≠ X.env.locals->X.s₀.heap.objs.size <= C->(∀ x c,X.env.cells.lookup x=some c->c ≠ C)->(∀ p ∈ X.pn ++ pins,p.1 ≠ C) ->
   RR (.ref D) C (.ok .next) s') :
  wpAny (model X.prog X.w) X.A (newList []) (fun acc s3=>wpAny (model X.prog X.w) X.A (newFunctionEnv scope X.env.globals (ca X.env.cells scope.names []) [] X.env.qual none .none (some X.env)) (fun Jx s4 =>
   codeAny (model X.prog X.w) X.A (.compStart (.ListComp elt [⟨tg,iter,ifs,0⟩] scope pos) 0 (.ref it) acc { Jx with scope:=relabel scope X.env }) (RR acc Jx.locals) s4) X.xe s3) X.xe s:=by
 refine wpAny_newObj_type (wpAny_newFunctionEnv B.CB (by intro y hy;simp at hy) (fun h1 GH Fl=>?_) B.kind)
 dsimp only at GH Fl ⊢
 generalize DG:s.heap.push { cls := .type "list",dict:=none,data := .seq ([]:List Value).toArray } = H2 at GH Fl ⊢
 have hCs:H2.objs.size=s.heap.objs.size + 1:=by rw[← DG,size_push]
 have CD:s.heap.objs.size <= H2.objs.size:=by omega
 have E8:∀ b ∈ fp,b < s.heap.objs.size:=fun b hb=>by
  obtain⟨o,e,_⟩:=T.obj 0 s.heap st b hb
  exact lt_size e
 have old:∀ b o,s.heap.get? b=some o->h1.get? b=some o:=fun b o e =>
  Fl.extBut b o (ne_of_lt (lt_of_lt_of_le (lt_size e) CD)) (Heap.get?_push_of_some _ (DG ▸ Heap.get?_push_of_some _ e))
 have Ng:s.heap.objs.size ≠ H2.objs.size:=by omega
 have Pf:h1.get? s.heap.objs.size=some (kY [] 0):=Fl.extBut _ _ Ng (Heap.get?_push_of_some _ (DG ▸ Heap.get?_push_size _ rfl))
 have I4:Inv (bS X scope (own ++ capN) H2.objs.size s H fp) [] (ir own.length cap σ) H { s with heap:=h1,toks:=s.toks + ([]:List (Str × Value)).length }:=I.blk (own:=own) B CD old GH hf E8
 have Pe:∀ b ∈ fp,b ∉ lg X.stack:=fun b hb z=>by
  obtain⟨_,f1,f2,_⟩:=hf b hb
  rcases mem_cons.mp (I.AU b z) with e | e
  ·exact f1 e
  ·exact f2 e
 have E9:∀ b ∈ lg X.stack,b < s.heap.objs.size:=fun b hb=>by
  obtain⟨_,o,ho,_⟩:=I.stack.mem hb
  exact lt_size ho
 have CF:∀ x c,X.env.cells.lookup x=some c->c < s.heap.objs.size:=fun x c e=>by
  obtain⟨v,q⟩:=I.cell x c e
  exact q.lt
 have Fm:∀ (H':Hp)(h':Heap)(ze:List Value)(k:Nat),H' s.heap.objs.size=none->h'.get? s.heap.objs.size=some (kY ze k) ->
   ∀ p ∈ [(s.heap.objs.size,kY ze k)],h'.get? p.1=some p.2/\H' p.1=none/\p.1 ≠ (bS X scope (own ++ capN) H2.objs.size s H fp).env.locals/\p.1 ∉ (bS X scope (own ++ capN) H2.objs.size s H fp).fs/\∀ v,p.2.data ≠ .cell v:=fun H' h' ze k hn he p hp=>by
  have e:p=(s.heap.objs.size,kY ze k):=by simpa using hp
  subst e
  exact⟨he,hn,Ng,fun z=>absurd (E9 _ z) (lt_irrefl _),fun v z=>by cases z⟩
 have stat:∀ (H':Hp)(ze:List Value)(k:Nat),(∀ b ∈ fp,H' b=none)->∀ b ∈ fp,fT (bS X scope (own ++ capN) H2.objs.size s H fp) [(s.heap.objs.size,kY ze k)] H' b:=fun H' ze k hn b hb =>
  ⟨hn b hb,ne_of_lt (lt_of_lt_of_le (E8 b hb) CD),Pe b hb, .inl hb,fun x c e=>(hf b hb).2.2.2.2.1 x c (B.cell I.ok e),fun p hp=>by
   have e:p=(s.heap.objs.size,kY ze k):=by simpa using hp
   subst e
   exact ne_of_gt (E8 b hb)⟩
 have loop:∀ s3:Shared,s3 = { s with heap:=h1,toks:=s.toks + ([]:List (Str × Value)).length } ->
   codeAny (model X.prog X.w) X.A (.compLoop (.ListComp elt [⟨tg,iter,ifs,0⟩] scope pos) 0 (.ref it) (.ref s.heap.objs.size) (compEnvC scope (ca X.env.cells scope.names []) H2.objs.size X.env))
    (RR (.ref s.heap.objs.size) H2.objs.size) s3:=by
  rintro s3 rfl
  refine mQ (fun n s'=>∃ i acc ze k H',Inv (bS X scope (own ++ capN) H2.objs.size s H fp) [(s.heap.objs.size,kY ze k)] (ir own.length cap σ) H' s'/\tn i s'.heap/\(∀ b ∈ fp,H' b=none)/\Vals acc ze/\W i n acc H') ?_ m0
   ⟨0,[],[],0,H,I4.Ap (Fm _ _ _ _ (I.zg.fresh (Nat.le_refl _)) Pf),T.keep 0 s.heap h1 st fun b _ o e=>old b o e,fun b hb=>(hf b hb).1, .nil,w0⟩
  rintro n s5 ⟨i,acc,ze,k,H5,I5,HZ,MY,rv,w5⟩
  obtain⟨hsz,Jy⟩:=turn i n acc H5 w5
  obtain⟨hgt,Ei,hte⟩:=hb H2.objs.size s H fp
  rcases Jy with ⟨stop,q⟩ | ⟨go,N,hN,step⟩
  ·refine aS (T.done (bS X scope (own ++ capN) H2.objs.size s H fp) rfl rfl rfl hc i _ s5 _ H5 _ I5 (stat H5 ze k MY) HZ stop) fun r s6 ⟨hr,I6⟩=>?_
   subst hr
   obtain⟨hD,Jz,_⟩:=I6.pin (s.heap.objs.size,kY ze k) (by simp)
   have J1:Inv X pins σ H5 s6:=I.Fg (s':=s6) (ch:=fp) I6.os I6.base I6.zg I6.bare fun b hb=>by
    obtain⟨_,f1,_,f3,f4,f5⟩:=hf b hb
    exact⟨f3,f1,f4,f5⟩
   have J2:Inv X pins σ (upd H5 s.heap.objs.size (.lst acc)) s6:=J1.adopt Jz I.sz (ne_of_gt I.lt) (fun x c e=>ne_of_lt (CF x c e)) (fun p hp=>ne_of_lt (lt_size (I.pin p hp).1)) ⟨le_of_lt hsz,ze,k,rv,hD⟩
   obtain⟨mC,J0,_⟩:=I6.loc
   refine fin _ _ _ s6 (q _ Jz) J2 ⟨mC,J0⟩ (by rw[ae (Ne.symm Ng)];exact I6.free) (ne_of_gt (lt_of_lt_of_le I.lt CD)) (le_trans I.sz CD) (fun x c e=>ne_of_lt (lt_of_lt_of_le (CF x c e) CD)) fun p hp =>
    ne_of_lt (lt_of_lt_of_le (lt_size (I.pin p hp).1) CD)
  ·refine aS (T.item (bS X scope (own ++ capN) H2.objs.size s H fp) rfl rfl rfl hc i _ s5 _ H5 _ I5 (stat H5 ze k MY) HZ go) fun r s6 ⟨u,hr,h6⟩=>?_
   subst hr
   refine aS h6 fun _ s7 ⟨x,H7,I7,r7,y7,Pg,fr7⟩=>?_
   have I7':=I7.pinned (stat H7 ze k fr7) (T.obj _ _ Pg)
   refine aS (hgt _ s7 _ H7 x u _ I7' r7 (step x H7 y7)) fun _ s8 ⟨σ8,H8,I8,q8⟩=>?_
   refine aS (Ei _ s8 σ8 H8 _ I8 q8) fun b s9 ⟨H9,I9,q9⟩=>?_
   have Uo:∀ {H':Hp}{s':Shared}{σ':St},Inv (bS X scope (own ++ capN) H2.objs.size s H fp) (dZ fp s7.heap) σ' H' s'->tn (i + 1) s'.heap/\∀ b ∈ fp,H' b=none:=fun {H' s' σ'} K=>by
    refine⟨T.keep _ _ _ Pg fun b hb o e=>(K.pin (b,o) (eA hb e)).1,fun b hb=>?_⟩
    obtain⟨o,e,_⟩:=T.obj _ _ Pg b hb
    exact(K.pin (b,o) (eA hb e)).2.1
   cases b with
   | false =>
    rw[if_neg Bool.false_ne_true]
    obtain⟨m',hm,w9⟩:=hN acc H9 (by simpa using q9)
    have K9:Inv (bS X scope (own ++ capN) H2.objs.size s H fp) (dZ fp s7.heap) σ8 H9 s9:=I9.Ap fun p hp=>I9.pin p (mem_append_right _ (mem_append_right _ hp))
    obtain⟨t9,f9⟩:=Uo K9
    exact⟨m',hm,i + 1,acc,ze,k,H9,I.reset B hf I9.AF,t9,f9,rv,w9⟩
   | true =>
    rw[if_pos rfl]
    have q9':te σ8 H9 fun y H4=>N (acc ++ [y]) H4:=by simpa using q9
    refine aS (hte _ s9 σ8 H9 _ I9 q9') fun yv Ph ⟨y,Dg,Pj,r10,q10⟩=>?_
    obtain⟨hD,Jz,_⟩:=Pj.pin (s.heap.objs.size,kY ze k) (by simp)
    have hlen:=rv.length
    refine wpAny_list_append_plain ⟨k,hD⟩ (fun h' Aj GJ=>?_) (by rw[size_toArray];omega)
    obtain⟨k',hD'⟩:=Aj
    obtain⟨m',hm,w10⟩:=hN (acc ++ [y]) Dg q10
    have K10:Inv (bS X scope (own ++ capN) H2.objs.size s H fp) (dZ fp s7.heap) σ8 Dg Ph:=Pj.Ap fun p hp=>Pj.pin p (mem_append_right _ (mem_append_right _ hp))
    have Up:Inv (bS X scope (own ++ capN) H2.objs.size s H fp) (dZ fp s7.heap) σ8 Dg { Ph with heap:=h' }:=K10.turned (t':=Ph.toks) (it:=s.heap.objs.size) (fun b o hb e=>(GJ.2 b hb).trans e) Jz Ng (.inr (Nat.le_refl _))
     (fun x c e=>ne_of_lt (CF x c (B.cell I.ok e))) fun p hp=>by
      obtain⟨hb,_⟩:=jM (show p ∈ dZ fp s7.heap from hp)
      exact ne_of_lt (E8 p.1 hb)
    obtain⟨t11,Nh⟩:=Uo Up
    refine⟨m',hm,i + 1,acc ++ [y],ze ++ [yv],k',Dg,?_,t11,Nh,rv.append (.cons r10 .nil),w10⟩
    refine I.reset B hf (Up.Ap (Fm _ _ _ _ Jz ?_))
    show h'.get? s.heap.objs.size=some { cls := .type "list",data := .seq (ze ++ [yv]).toArray k' }
    rw[show(ze ++ [yv]).toArray=ze.toArray.push yv by simp]
    exact hD'
 exact codeAny_compStart_list (loop _ rfl) (T.self X.A 0 _ _ _ (T.keep 0 s.heap h1 st fun b _ o e=>old b o e) (loop _ rfl))
theorem b5 (B:As X.N X.env.scope scope capN cap)(hc:X.calm=true)(hi:PI X tg iter wi)
  (hb:∀ (C:Addr)(s:Shared)(H:Hp)(fp:List Addr),PG (bS X scope (own ++ capN) C s H fp) tg g/\Jw (bS X scope (own ++ capN) C s H fp) ifs tt/\PE (bS X scope (own ++ capN) C s H fp) elt te)
  (hs:∀ x,foldedSetIterable iter X.env x=pure x:=by intro _;rfl):PE X (.ListComp elt [⟨tg,iter,ifs,0⟩] scope pos) (wC wi g tt te own.length cap):=by
 intro pins s σ H Q I h
 rw[eval_ListComp]
 refine wpAny_comprehension_free (use:=none) rfl hs (fZ (B.GI I.ok)) B.kind B.loc (aS (hi pins s σ H _ I h) fun v s1 h1=>aS h1 fun MW s2 h2=>?_)
 obtain⟨it,fp,tn,J,H2,e,I2,T,Jb,f2,W,⟨m0,w0⟩,turn⟩:=h2
 subst e
 refine mK (own:=own) B hc hb I2 T Jb f2 w0 turn (RR:=fun acc C=>compPost (model X.prog X.w) X.A X.xe none (EP X pins σ Q) acc C) fun D C H' s' q J2 ⟨mC,J0⟩ fC n1 n2 n3 n4=>?_
 refine⟨mC,J0,fun h' Fl=>⟨.ref D,H',?_,rfl,q⟩⟩
 exact J2.turned (t':=s'.toks) (it:=C) (fun b o hb e=>(Fl.2 b hb).trans e) fC n1 (.inr n2) n3 n4
theorem gk {i:Nat}{x:Str}{px:Pos}{J4:Pos}(B:As X.N X.env.scope scope capN cap)(hc:X.calm=true)(hN:X.N.Nodup)(hx:X.N[i]? = some x)(hl:X.env.scope.names.lookup x=some .local)(hi:PI X tg iter wi)
  (hb:∀ (C:Addr)(s:Shared)(H:Hp)(fp:List Addr),PG (bS X scope (own ++ capN) C s H fp) tg g/\Jw (bS X scope (own ++ capN) C s H fp) ifs tt/\PE (bS X scope (own ++ capN) C s H fp) elt te)
  (hsw:swapsWith (.ListComp elt [⟨tg,iter,ifs,0⟩] scope pos) (some (.Name x px)) J4.line X.env=pure true:=by rfl)
  (hs:∀ x,foldedSetIterable iter X.env x=pure x:=by intro _;rfl):PS X (.Assign [.Name x px] (.ListComp elt [⟨tg,iter,ifs,0⟩] scope pos) J4) (xk (wC wi g tt te own.length cap) (cU i)):=by
 intro pins s σ H D0 I h
 rw[exec_Assign_Name_used _ _ _ _ hsw]
 refine wpAny_bind (wpAny_standAt (wpAny_bind ?_))
 show wpAny _ X.A (do
  let _ ← comprehension (.ListComp elt [⟨tg,iter,ifs,0⟩] scope pos) scope X.env _ (newList []) false (eval iter X.env) (some (assign (.Name x px) X.env))) _ _ s
 refine wpAny_bind (wpAny_mono (wpAny_comprehension_free (use:=some (assign (.Name x px) X.env)) (Q:=fun _ s'=>SP X pins D0 .next s') rfl hs (fZ (B.GI I.ok)) B.kind B.loc
  (aS (hi pins s σ H _ I h) fun v s1 h1=>aS h1 fun MW s2 h2=>?_)) (fun _ s' hq=>wpAny_pure (wpAny_pure hq)) fun _ _ e=>e)
 obtain⟨it,fp,tn,J,H2,e,I2,T,Jb,f2,W,⟨m0,w0⟩,turn⟩:=h2
 subst e
 refine mK (own:=own) (Q:=fun x H1=>cU i x σ H1 D0.nx) B hc hb I2 T Jb f2 w0 turn (RR:=fun acc C=>compPost (model X.prog X.w) X.A X.xe (some (assign (.Name x px) X.env)) (fun _ s'=>SP X pins D0 .next s') acc C) fun D C H' s' q J2 ⟨mC,J0⟩ fC n1 n2 n3 n4=>?_
 show wpAny _ X.A (assign (.Name x px) X.env (.ref D)) _ _ s'
 refine wpAny_assign_Name (jG J2 hN hx (.inl hl) (show RelV (.ref D) (.ref D) from rfl) (fun G8 J3 ⟨a,Fl,ha⟩=>?_) (.inr hl))
 have hCa:C ≠ a:=by
  rcases ha with z | z
  ·rw[z];exact n1
  ·exact(n3 x a z).symm
 refine⟨mC,J0.sameBut Fl hCa,fun h' GJ=>⟨_,H',?_,q⟩⟩
 exact J3.turned (t':=G8.toks) (it:=C) (fun b o hb e=>(GJ.2 b hb).trans e) fC n1 (.inr n2) n3 n4
end
end L2
namespace L2
open PySem PySem.Spec PyProof.Rows
mutual
inductive lu (K:Frag)(H:Hp):V->PyData->Prop
 | zt:lu K H .zt .none
 | bl (b:Bool):lu K H (.bl b) (.bool b)
 | int (i:Int):lu K H (.int i) (.int i)
 | str (x:Str):lu K H (.str x) (.str x)
 | lst {a:Addr} {xs:List V} {ds:List PyData}:zf K H a xs->j7 K H xs ds->lu K H (.ref a) (.list ds)
 | tup {a:Addr} {xs:List V} {ds:List PyData}:zh K H a xs->j7 K H xs ds->lu K H (.ref a) (.tuple ds)
inductive j7 (K:Frag)(H:Hp):List V->List PyData->Prop
 | nil:j7 K H [] []
 | cons {x:V} {d:PyData} {xs:List V} {ds:List PyData}:lu K H x d->j7 K H xs ds->j7 K H (x :: xs) (d :: ds)
end
section
variable {X:Cx}{pins:List (Addr × Obj)}{σ:St}{H:Hp}{s:Shared}
mutual
theorem Inv.den (I:Inv X pins σ H s):∀ {x:V}{d:PyData}{u:Value},lu X.K H x d->RelV x u->∃ as,Reads s.heap u d as
 | _,_,_, .zt,r=>by cases r;exact⟨_, .none⟩
 | _,_,_, .bl b,r=>by cases r;exact⟨_, .bool b⟩
 | _,_,_, .int i,r=>by obtain⟨t,rfl⟩:=r;exact⟨_, .int i t⟩
 | _,_,_, .str x,r=>by obtain⟨t,rfl⟩:=r;exact⟨_, .str x t⟩
 | _,_,_, .lst hq hd,r=>by
  cases r
  obtain⟨ze,rv,⟨o,n,e,hc,_,Pk⟩,_⟩:=I.list hq
  obtain⟨as,q⟩:=I.GK hd rv
  exact⟨_, .list e hc Pk (by simpa using q)⟩
 | _,_,_, .tup hq hd,r=>by
  cases r
  obtain⟨ze,rv,⟨o,e,hc,n,Pk⟩,_⟩:=I.tuple hq
  obtain⟨as,q⟩:=I.GK hd rv
  exact⟨_, .tuple e hc Pk (by simpa using q)⟩
theorem Inv.GK (I:Inv X pins σ H s):∀ {xs:List V}{ds:List PyData}{us:List Value},j7 X.K H xs ds->Vals xs us->∃ as,ReadsAll s.heap us ds as
 | _,_,_, .nil, .nil=>⟨_, .nil⟩
 | _,_,_, .cons hd hr, .cons r rr=>by
  obtain⟨as,q⟩:=I.den hd r
  obtain⟨bs,q'⟩:=I.GK hr rr
  exact⟨_, .cons q q'⟩
end
noncomputable def J5 (K:Frag):R2:=fun x y H Q=>∃ da db,lu K H x da/\lu K H y db/\SeqAt.shaped da=true/\SeqAt.shaped db=true/\Q (.bl (PyData.eqv da db)) H
noncomputable def J6 (K:Frag):R2:=fun x y H Q=>∃ da db,lu K H x da/\lu K H y db/\SeqAt.shaped da=true/\SeqAt.shaped db=true/\Q (.bl (!PyData.eqv da db)) H
end
section
variable {X:Cx}
theorem kX (hu:X.A.units + 64 < cLine):eD X (compareOp .Eq) (J5 X.K):=by
 intro pins s σ H x y v u Q I rx ry h
 obtain⟨da,db,h1,h2,h3,h4,q⟩:=h
 obtain⟨as,r1⟩:=I.den h1 rx
 obtain⟨bs,r2⟩:=I.den h2 ry
 exact SeqAt.compareEq_shaped r1 r2 h3 h4 hu ⟨.bl _,H,I,rfl,q⟩
theorem sW (hu:X.A.units + 64 < cLine):eD X (compareOp .NotEq) (J6 X.K):=by
 intro pins s σ H x y v u Q I rx ry h
 obtain⟨da,db,h1,h2,h3,h4,q⟩:=h
 obtain⟨as,r1⟩:=I.den h1 rx
 obtain⟨bs,r2⟩:=I.den h2 ry
 exact SeqAt.compareNe_shaped r1 r2 h3 h4 hu ⟨.bl _,H,I,rfl,q⟩
theorem kg {K:Frag}{H:Hp}:∀ ns:List Int,j7 K H (ns.map V.int) (ns.map PyData.int)
 | [] => .nil
 | n :: r => .cons (.int n) (kg r)
theorem mH {K:Frag}{H:Hp}{a:Addr}{ns:List Int}(h:zf K H a (ns.map V.int)):lu K H (.ref a) (.list (ns.map PyData.int)) := .lst h (kg ns)
noncomputable def Pl (K:Frag):R2:=fun x y H Q=>∃ (p q:Addr)(ns ms:List Int),x = .ref p/\y = .ref q/\zf K H p (ns.map V.int)/\zf K H q (ms.map V.int)/\Q (.bl (!decide (ns=ms))) H
theorem xV (hu:X.A.units + 64 < cLine):eD X (compareOp .NotEq) (Pl X.K):=by
 intro pins s σ H x y v u Q I rx ry h
 obtain⟨p,q,ns,ms,rfl,rfl,h1,h2,q⟩:=h
 refine sW hu pins s σ H _ _ v u Q I rx ry ⟨_,_,mH h1,mH h2,PySem.W.shaped_ints ns,PySem.W.shaped_ints ms,?_⟩
 simp only[PyData.eqv,PySem.W.ked_eqvAll]
 exact q
noncomputable def Pm (K:Frag):List V->Hp->VK->Prop:=fun xs H Q =>
 (∃ i,xs=[.int i, .ty "int"]/\Q (.bl true) H)∨(∃ i,xs=[.int i, .ty "bool"]/\Q (.bl false) H)∨(∃ p ys,xs=[.ref p, .ty "list"]/\zf K H p ys/\Q (.bl true) H)∨(∃ p ys,xs=[.ref p, .ty "tuple"]/\zh K H p ys/\Q (.bl true) H)
theorem mS:fD X (.builtin "isinstance") (Pm X.K):=by
 intro pins s σ H xs us Q I r h
 rcases h with ⟨i,rfl,q⟩ | ⟨i,rfl,q⟩ | ⟨p,ys,rfl,hq,q⟩ | ⟨p,ys,rfl,hq,q⟩
 ·cases r with
  | cons r1 r2 =>
   cases r2 with
   | cons r2 r3 =>
    cases r3
    obtain⟨t,rfl⟩:=r1
    cases r2
    exact IsiPair.int_int ⟨.bl true,H,I,rfl,q⟩
 ·cases r with
  | cons r1 r2 =>
   cases r2 with
   | cons r2 r3 =>
    cases r3
    obtain⟨t,rfl⟩:=r1
    cases r2
    exact IsiPair.int_bool ⟨.bl false,H,I.tok _,rfl,q⟩
 ·cases r with
  | cons r1 r2 =>
   cases r2 with
   | cons r2 r3 =>
    cases r3
    cases r1
    cases r2
    obtain⟨ze,rv,⟨o,n,e,hc,_⟩,_⟩:=I.list hq
    exact IsiPair.list_list e hc ⟨.bl true,H,I,rfl,q⟩
 ·cases r with
  | cons r1 r2 =>
   cases r2 with
   | cons r2 r3 =>
    cases r3
    cases r1
    cases r2
    obtain⟨ze,rv,⟨o,e,hc,_⟩,_⟩:=I.tuple hq
    exact IsiPair.tuple_tuple e hc ⟨.bl true,H,I,rfl,q⟩
theorem vL:Nc X "int.bit_length" (fun x xs H Q=>∃ i,x = .int i/\xs=[]/\Q (.int (Builtin.Int.intBits i:Nat)) H):=by
 intro pins s σ H x xs v us Q I rx rv h
 obtain⟨i,rfl,rfl,q⟩:=h
 obtain⟨t,rfl⟩:=rx
 cases rv
 exact call_int_bit_length ⟨.int _,H,I.tok _,⟨_,rfl⟩,q⟩
theorem Inv.same {pins:List (Addr × Obj)}{σ:St}{H:Hp}{s s':Shared}(I:Inv X pins σ H s)(k:∀ b o,s.heap.get? b=some o->s'.heap.get? b=some o)(g:s'.gens=s.gens)(ho:s'.os=s.os):Inv X pins σ H s':=by
 obtain⟨hh,gg,dd,tt,oo⟩:=s'
 simp only at k g ho
 subst g
 subst ho
 have J:Inv X pins σ H { s with heap:=hh,toks:=tt }:=I.kept k
 exact⟨J.ok,J.os,J.bare,J.base,J.loc,J.cell,J.free,J.zQ,J.pin,J.zg,J.len⟩
theorem j3 (hc:X.calm=true):fD X (.builtin "all") (fun xs H Q=>∃ (p:Addr)(bs:List Bool),xs=[.ref p]/\zf X.K H p (bs.map V.bl)/\Q (.bl (bs.all id)) H):=by
 intro pins s σ H xs us Q I r h
 obtain⟨p,bs,rfl,hq,q⟩:=h
 obtain⟨u,rfl,rx⟩:=l4 r
 cases rx
 obtain⟨ze,rv,pl,hz⟩:=I.list hq
 have hlen:=rv.length
 rw[length_map]at hlen
 have zL:p < s.heap.objs.size:=by obtain⟨o,n,e,_⟩:=pl;exact lt_size e
 have Uq:∀ (i:Nat)(v:Value),ze.toArray[i]? = some v->v=Value.bool (bs.getD i false):=fun i v hv=>by
  have Fi:ze[i]? = some v:=by simpa using hv
  have hi:i < bs.length:=by rw[hlen];exact(List.getElem?_eq_some_iff.mp Fi).1
  obtain⟨u,hu,ru⟩:=rv.get (i:=i) (x := .bl bs[i]) (by simp[hi])
  rw[Fi]at hu
  cases hu
  rw[getD_eq_getElem?_getD,List.getElem?_eq_getElem hi]
  exact ru
 have hh1:X.A.in1.handled=none:=I.ok.hd hc
 refine call_all_walkS (wpAny_pyIter_list pl.isList ⟨s.heap.objs.size,[s.heap.objs.size,p],[s.heap.objs.size],fun a b=>b=a,ze.toArray.size,fun i v=>ze.toArray[i]? = some v,_,fun i=>bs.getD i false,rfl,
  (Walks.list hh1 _ p (ne_of_lt zL) ze.toArray).toS,⟨⟨_,Heap.get?_push_size _ rfl,rfl,rfl⟩,pl.isList.push _⟩,fun i v s1 Q1 E1 hv Pn=>?_,fun s' hm=>?_⟩)
 ·rw[Uq i v hv]
  exact wpAny_truthy_bool Pn
 ·have I1:Inv X pins σ H { s with heap:=s.heap.push { cls := .type "list_iterator",data := .fields #[.ref p, .int 0 0] } }:=I.kept (t':=s.toks) fun b o e=>Heap.get?_push_of_some _ e
  refine⟨.bl _,H,I.same (fun b o e=>hm.heap b o (fun hb=>?_) (Heap.get?_push_of_some _ e)) hm.gens hm.os,rfl,?_⟩
  ·have zW:b=s.heap.objs.size:=by simpa using hb
   exact absurd (lt_size e) (by rw[zW];exact lt_irrefl _)
  ·have e:((List.range ze.toArray.size).all fun i=>bs.getD i false)=bs.all id:=by
    rw[size_toArray,← hlen]
    clear Uq hlen hq rv q
    have:(List.range bs.length).map (fun i=>bs.getD i false)=bs:=by
     apply List.ext_getElem
     ·simp
     ·intro i h1 h2
      simp[h2]
    conv=>rhs;rw[← this]
    rw[all_map]
    rfl
   rw[e]
   exact q
end
end L2
namespace L2
open PySem PySem.Spec PyProof.Rows
theorem j1 {o:Obj}{vs:Array Value}(hd:o.data = .fields vs)(f:Array Value->Array Value):(Obj.mapFields f o).dict=o.dict:=by
 obtain⟨c,d,dt,sl⟩:=o
 cases dt<;>rfl
noncomputable def EA (h:Heap)(e:Addr)(cls:Value)(dd:Option Addr)(ch:List Addr):Prop :=
 ∃ oe vs,h.get? e=some oe/\oe.cls=cls/\oe.dict=dd/\oe.data = .fields vs /\
  ((vs[1]? = some .none/\ch=[e])∨∃ T oT ts,vs[1]? = some (.ref T)/\T ≠ e/\h.get? T=some oT/\oT.data = .fields ts/\ts[3]? = some .none/\ch=[e,T])
theorem EA.rec {h:Heap}{e:Addr}{cls:Value}{dd:Option Addr}{ch:List Addr}(x:EA h e cls dd ch):∀ b ∈ ch,∃ o vs,h.get? b=some o/\o.data = .fields vs:=by
 obtain⟨oe,vs,he,_,_,hd,h1 | ⟨T,oT,ts,_,_,hT,Ig,_,rfl⟩⟩:=x
 ·obtain⟨_,rfl⟩:=h1
  intro b hb
  simp only[mem_singleton]at hb
  subst hb
  exact⟨oe,vs,he,hd⟩
 ·intro b hb
  simp only[mem_cons,not_mem_nil,or_false]at hb
  rcases hb with rfl | rfl
  ·exact⟨oe,vs,he,hd⟩
  ·exact⟨oT,ts,hT,Ig⟩
structure pS (fs ch:List Addr)(h h':Heap):Prop where
 keep:∀ b o,h.get? b=some o->b ∉ ch->b ∉ fs->h'.get? b=some o
 slot:∀ b o,h.get? b=some o->b ∉ ch->∃ sl,h'.get? b=some { o with slots:=sl }
 there:∀ b o,h.get? b=some o->∃ o',h'.get? b=some o'
section
variable {M:Model}{A:Around}{E:Value->Shared->Prop}{s:Shared}
theorem jO {base:Heap}{env:Env}{outer:List Env}{L e:Addr}{oe:Obj}{vs:Array Value}{head:Value}{hadNext:Bool}{Q:Unit->Shared->Prop}
  (B8:A.frames=some (env :: outer)) (hl:s.heap.FunFrames base (env :: outer)) (hf:env.frame=some L)
  (he:s.heap.get? e=some oe) (hd:oe.data = .fields vs) (hsz:1 < vs.size)
  (h:∀ h',EA h' e oe.cls oe.dict [e,s.heap.objs.size]->pS (lg (env :: outer)) [e] s.heap h'->Q () { s with heap:=h' }) :
  wpAny M A (do let a ← frameOf env;let pl ← entryPlaceOf L hadNext;let b ← EntryCells.newEntry head a .none (rawInt L) .none pl;setField (.ref e) 1 b) (fun _ s'=>wpAny M A (setFlight (.ref e) none) Q E s') E s:=by
 have Po:e ∉ (env :: outer).filterMap (·.frame):=fun hm=>by
  obtain⟨_,o,ho,J7⟩:=hl.mem hm
  rw[he]at ho;injection ho with ho;subst ho;exact J7 vs hd
 refine wpAny_bind (wpAny_frameOf_fun B8 hl hf fun h₁ Cm=>?_)
 refine wpAny_bind (wpAny_entryPlaceOf fun pl Aj=>?_)
 unfold EntryCells.newEntry newFields
 refine wpAny_bind (wpAny_newObj_type ?_ (Aj.sizeOk5 _ _ _ _ _))
 have Fn:h₁.get? e=some oe:=(Cm.2.1 e Po).trans he
 have Fp:=Heap.get?_push_of_some (h:=h₁) { cls := .type "traceback",dict:=none,data := .fields ([head, .ref L, .none,rawInt L, .none] ++ (if pl.isEmpty then List.replicate 6 Value.none else pl)).toArray } Fn
 refine wpAny_setField Fp hd hsz ?_
 have Ih:h₁.objs.size ≠ e:=ne_of_gt (lt_size Fn)
 have DH:=Obj.data_mapFields hd (·.setIfInBounds 1 (Value.ref h₁.objs.size))
 have DI:=Heap.get?_update_self (Obj.mapFields (·.setIfInBounds 1 (Value.ref h₁.objs.size))) Fp (Obj.isFreed_of_fields DH)
 have Fq:=(Heap.get?_update_other (h₁.push { cls := .type "traceback",dict:=none,data := .fields ([head, .ref L, .none,rawInt L, .none] ++ (if pl.isEmpty then List.replicate 6 Value.none else pl)).toArray })
  (Obj.mapFields (·.setIfInBounds 1 (Value.ref h₁.objs.size))) (Ne.symm Ih)).trans (Heap.get?_push_size h₁ rfl)
 unfold setFlight
 refine wpAny_bind (wpAny_field DI DH (x := .ref h₁.objs.size) (by simp[hsz]) ?_)
 rw[if_pos (show(Value.ref h₁.objs.size != Value.none)=true from by simp)]
 refine wpAny_setField Fq rfl (by simp only[size_toArray,length_append,length_cons,length_nil]<;>omega) (h _ ?_ ?_)
 ·refine⟨_,_,?_,Obj.cls_mapFields _ _,j1 hd _,DH, .inr ⟨h₁.objs.size,_,_,by simp[hsz],Ih,Heap.get?_update_self _ Fq (Obj.isFreed_of_fields (Obj.data_mapFields rfl _)),Obj.data_mapFields rfl _,by first | (simp;done) | (rcases Aj with rfl | ⟨_,_,_,_,_,_,_,rfl⟩<;>simp),by rw[Cm.1]⟩⟩
  rw[Heap.get?_update_other _ _ Ih];exact DI
 ·have keep:∀ b o,b ≠ e->h₁.get? b=some o ->
    (((h₁.push { cls := .type "traceback",dict:=none,data := .fields ([head, .ref L, .none,rawInt L, .none] ++ (if pl.isEmpty then List.replicate 6 Value.none else pl)).toArray }).update e (Obj.mapFields (·.setIfInBounds 1 (Value.ref h₁.objs.size)))).update h₁.objs.size
     (Obj.mapFields (·.setIfInBounds 3 ((none:Option Addr).elim Value.none fun f=>rawInt f)))).get? b=some o:=fun b o BD hb=>by
   have Ni:h₁.objs.size ≠ b:=ne_of_gt (lt_size hb)
   rw[Heap.get?_update_other _ _ Ni,Heap.get?_update_other _ _ (Ne.symm BD)]
   exact Heap.get?_push_of_some _ hb
  refine⟨fun b o hb hc Pp=>keep b o (by simpa using hc) ((Cm.2.1 b Pp).trans hb),fun b o hb hc=>?_,fun b o hb=>?_⟩
  ·obtain⟨sl,hs⟩:=Cm.2.2 b o hb
   exact⟨sl,keep b _ (by simpa using hc) hs⟩
  ·by_cases BD:b=e
   ·subst BD
    exact⟨_,by rw[Heap.get?_update_other _ _ Ih];exact DI⟩
   ·obtain⟨sl,hs⟩:=Cm.2.2 b o hb
    exact⟨_,keep b _ BD hs⟩
theorem qx {base:Heap}{env:Env}{outer:List Env}{L e:Addr}{cls:Value}{dd:Option Addr}{ch:List Addr}{Q:Unit->Shared->Prop}
  (B8:A.frames=some (env :: outer)) (hl:s.heap.FunFrames base (env :: outer)) (hf:env.frame=some L) (x:EA s.heap e cls dd ch)
  (h:∀ h' GL,EA h' e cls dd GL->pS (lg (env :: outer)) ch s.heap h'->(∀ b ∈ GL,b ∈ ch∨s.heap.objs.size <= b)->Q () { s with heap:=h' }) :
  wpAny M A (noteFrame (.ref e) env) (fun _ s'=>wpAny M A (setFlight (.ref e) none) Q E s') E s:=by
 obtain⟨oe,vs,he,rfl,rfl,hd,⟨h1,rfl⟩ | ⟨T,oT,ts,h1,Ih,hT,Ig,h3,rfl⟩⟩:=x
 ·unfold noteFrame
  simp only[hf]
  refine wpAny_bind (wpAny_field he hd h1 ?_)
  rw[if_neg (by decide)]
  refine jO B8 hl hf he hd (Array.getElem?_eq_some_iff.mp h1).1 fun h' f m=>h h' _ f m fun b hb=>?_
  simp only[mem_cons,not_mem_nil,or_false]at hb
  rcases hb with rfl | rfl
  ·exact .inl (by simp)
  ·exact .inr (Nat.le_refl _)
 ·unfold noteFrame
  simp only[hf]
  refine wpAny_bind (wpAny_field he hd h1 ?_)
  rw[if_pos (show(Value.ref T != Value.none)=true from by simp)]
  refine wpAny_bind (wpAny_field hT Ig h3 ?_)
  rw[if_neg (show ¬ ((Value.none == rawInt L)=true) from by simp[rawInt])]
  refine wpAny_bind (wpAny_setField hT Ig (Array.getElem?_eq_some_iff.mp h3).1 ?_)
  have other:∀ b,b ≠ T->(s.heap.update T (Obj.mapFields (·.setIfInBounds 3 Value.none))).get? b=s.heap.get? b:=fun b hb=>Heap.get?_update_other _ _ (Ne.symm hb)
  have J8:=Heap.get?_update_self (Obj.mapFields (·.setIfInBounds 3 Value.none)) hT (Obj.isFreed_of_fields (Obj.data_mapFields Ig _))
  have noRecord:∀ b o,s.heap.get? b=some o->(∀ vs,o.data ≠ .fields vs)->b ≠ T:=fun b o hb J7 q=>by
   rw[q,hT]at hb;injection hb with hb;subst hb;exact J7 ts Ig
  have J9:(s.heap.update T (Obj.mapFields (·.setIfInBounds 3 Value.none))).objs.size=s.heap.objs.size:=Heap.size_after_update _ _ _
  refine jO (s:={ s with heap:=s.heap.update T (Obj.mapFields (·.setIfInBounds 3 Value.none)) }) B8 (hl.of_keeps fun b o hb J7=>⟨o,(other b (noRecord b o hb J7)).trans hb,rfl⟩) hf ((other e (Ne.symm Ih)).trans he) hd (Array.getElem?_eq_some_iff.mp h1).1
   fun h' f m=>h h' _ f ⟨fun b o hb hc Pp=>?_,fun b o hb hc=>?_,fun b o hb=>?_⟩ fun b hb=>?_
  ·simp only[mem_cons,not_mem_nil,or_false,not_or]at hc
   exact m.keep b o ((other b hc.2).trans hb) (by simpa using hc.1) Pp
  ·simp only[mem_cons,not_mem_nil,or_false,not_or]at hc
   exact m.slot b o ((other b hc.2).trans hb) (by simpa using hc.1)
  ·by_cases Ni:b=T
   ·subst Ni
    exact m.there b _ J8
   ·exact m.there b o ((other b Ni).trans hb)
  ·simp only[mem_cons,not_mem_nil,or_false]at hb
   rcases hb with rfl | rfl
   ·exact .inl (by simp)
   ·exact .inr (le_of_eq J9.symm)
theorem oa {base:Heap}{env:Env}{outer:List Env}{L e:Addr}{cls:Value}{dd:Option Addr}{ch:List Addr}{Q:Unit->Shared->Prop}
  (B8:A.frames=some (env :: outer)) (hl:s.heap.FunFrames base (env :: outer)) (hf:env.frame=some L) (x:EA s.heap e cls dd ch)
  (h:∀ h' GL,EA h' e cls dd GL->pS (lg (env :: outer)) ch s.heap h'->(∀ b ∈ GL,b ∈ ch∨s.heap.objs.size <= b)->Q () { s with heap:=h' }) :
  wpAny M A (leaving env (.ref e)) Q E s:=by
 unfold leaving
 exact wpAny_bind (qx B8 hl hf x h)
end
section
variable {X:Cx}{pins:List (Addr × Obj)}{σ:St}{H:Hp}{s:Shared}
theorem Inv.EB {h':Heap}{ch:List Addr}(I:Inv X pins σ H s)(m:pS (lg X.stack) ch s.heap h')
  (Bx:∀ b ∈ ch,X.s₀.heap.get? b=none/\H b=none/\(∀ p ∈ X.pn ++ pins,p.1 ≠ b)/\∃ o vs,s.heap.get? b=some o/\o.data = .fields vs) :
  Inv X pins σ H { s with heap:=h' }:=by
 have JA:∀ b o,s.heap.get? b=some o->(∀ vs,o.data ≠ .fields vs)->b ∉ ch:=fun b o hb hn hc=>by
  obtain⟨_,_,_,o',vs,zW,hd⟩:=Bx b hc
  rw[hb]at zW;cases zW
  exact hn vs hd
 have cellK:∀ c v,s.heap.IsCell c v->h'.IsCell c v:=fun c v ⟨o,ho,hd⟩=>by
  obtain⟨sl,e⟩:=m.slot c o ho (JA c o ho fun vs q=>by rw[hd]at q;cases q)
  exact⟨_,e,hd⟩
 refine⟨I.ok,I.os,I.bare,⟨fun b o e n hf hx=>?_,fun b o e n hf hx=>?_,I.base.free,fun b o e hx=>?_,I.base.Bo,I.base.Bd,I.base.Bp⟩,?_,fun x c hc=>?_,I.free,I.zQ,fun p hp=>?_,fun b u e=>?_,I.len⟩
 ·have e1:=I.base.keep b o e n hf hx
  refine m.keep b o e1 (fun hc=>?_) fun hs=>?_
  ·rw[(Bx b hc).1]at e;cases e
  ·rcases mem_cons.mp (I.AU b hs) with z | z
   ·rw[z]at e
    exact absurd (lt_size e) (Nat.not_lt.mpr I.ok.above)
   ·exact hf z
 ·obtain⟨sl,e1⟩:=I.base.slot b o e n hf hx
  obtain⟨Ic,e2⟩:=m.slot b _ e1 fun hc=>by rw[(Bx b hc).1]at e;cases e
  exact⟨Ic,e2⟩
 ·obtain⟨o',e1⟩:=I.base.there b o e hx
  exact m.there b o' e1
 ·obtain⟨mm,⟨o,es,ep,ho,hd,r⟩,hl⟩:=I.loc
  obtain⟨sl,e⟩:=m.slot _ o ho (JA _ o ho fun vs q=>by rw[hd]at q;cases q)
  refine⟨mm,⟨_,es,ep,e,hd,r⟩,fun i x v h1 h2 h3=>?_⟩
  obtain⟨u,ru,lk⟩:=hl i x v h1 h2 h3
  refine⟨u,ru,?_⟩
  rcases lk with ⟨a,b⟩ | ⟨a,c,hc,B5⟩
  ·exact .inl ⟨a,b⟩
  ·exact .inr ⟨a,c,hc,cellK c _ B5⟩
 ·obtain⟨v,hv⟩:=I.cell x c hc
  exact⟨v,cellK c v hv⟩
 ·obtain⟨a,b,c,d,e⟩:=I.pin p hp
  refine⟨m.keep _ _ a (fun hc=>(Bx _ hc).2.2.1 p hp rfl) fun hs=>?_,b,c,d,e⟩
  rcases mem_cons.mp (I.AU _ hs) with z | z
  ·exact c z
  ·exact d z
 ·refine(I.zg b u e).Ac (fun c v hc q=>m.keep c v q (fun z=>?_) fun z=>?_) (fun _ q=>q) fun _ _ q=>q
  ·have n:=(Bx c z).2.1
   rcases hc with rfl | hc
   ·rw[e]at n;cases n
   ·rw[hc]at n;cases n
  ·have n:=I.BE c z
   rcases hc with rfl | hc
   ·rw[e]at n;cases n
   ·rw[hc]at n;cases n
noncomputable def eE (P:Program)(w:World):oF:=fun outer H s E ev s'=>∃ e cls dd ch H',ev = .ref e/\s'.os=s.os/\AllBare s'.gens/\Un (lg outer) [] H H' s.heap s'.heap/\Ab P w H' s'.heap /\
 EA s'.heap e cls dd ch/\(∀ b ∈ ch,s.heap.get? b=none/\H' b=none)/\E cls dd H'
noncomputable def XP (X:Cx)(pins:List (Addr × Obj))(σ:St)(E:XK)(ev:Value)(s':Shared):Prop:=∃ e cls dd ch H',ev = .ref e/\Inv X pins σ H' s'/\EA s'.heap e cls dd ch /\
 (∀ b ∈ ch,X.s₀.heap.get? b=none/\H' b=none/\∀ p ∈ X.pn ++ pins,p.1 ≠ b)/\E cls dd H'
theorem Inv.DJ (I:Inv X pins σ H s)(hex:X.ex=[]){b:Addr}(hb:s.heap.get? b=none):X.s₀.heap.get? b=none:=by
 cases q:X.s₀.heap.get? b with
 | none=>rfl
 | some o =>
  obtain⟨o',e⟩:=I.base.there b o q (by rw[hex];simp)
  rw[e]at hb;cases hb
theorem XP.JB {E:XK}{ev:Value}{s':Shared}(I:Inv X pins σ H s)(hex:X.ex=[])(x:eE X.prog X.w X.stack H s E ev s'):XP X pins σ E ev s':=by
 obtain⟨e,cls,dd,ch,H',rfl,os,bare,un,zg,Nj,new,q⟩:=x
 refine⟨e,cls,dd,ch,H',rfl,I.Fg (ch:=[]) os un zg bare (fun b z=>absurd z (by simp)),Nj,fun b hb=>⟨I.DJ hex (new b hb).1,(new b hb).2,fun p hp z=>?_⟩,q⟩
 have:=(I.pin p hp).1
 rw[z,(new b hb).1]at this
 cases this
noncomputable def Ba (X:Cx)(E:XK):Prop:=∀ (pins:List (Addr × Obj))(σ:St)(ev:Value)(s':Shared),XP X pins σ E ev s'->X.xe ev s'
theorem Ba.passes {E:XK}(h:Ba X E)(hex:X.ex=[]):dH (eE X.prog X.w) X E:=fun pins σ H s ev s' I x=>h pins σ ev s' (XP.JB I hex x)
theorem aN {P:Program}{w:World}{K:Frag}{mg:Str->Option Value}{base:Heap}{N:List Str}{qual:Str}{scope:Scope}{f:Addr}{cd:Value}{A:Around}{outer:List Env}{s:Shared}{H:Hp}{E:XK} :
  Ba (iB (eE P w) P w K mg base N qual scope f cd A outer s H E) E:=by
 intro pins σ ev s' x
 obtain⟨e,cls,dd,ch,H',rfl,I,Nj,Bx,q⟩:=x
 refine oa (base:=base) (outer:=outer) I.ok.frames I.stack rfl Nj fun h' GL Pq m new=>?_
 have I':=I.EB m fun b hb=>⟨(Bx b hb).1,(Bx b hb).2.1,(Bx b hb).2.2,Nj.rec b hb⟩
 refine⟨e,cls,dd,GL,H',rfl,I'.os,I'.bare,I'.base,I'.zg,Pq,fun b hb=>?_,q⟩
 rcases new b hb with z | z
 ·exact⟨(Bx b z).1,(Bx b z).2.1⟩
 ·exact⟨Heap.get?_none_of_le (le_trans I.sz z),I.zg.fresh z⟩
theorem pi {P:Program}{w:World}{K:Frag}{mg:Str->Option Value}{base:Heap}{N:List Str}{qual:Str}{scope:Scope}{f:Addr}{cd:Value}{A:Around}{outer:List Env}{s:Shared}{H:Hp}{E:XK} :
  PassesOwn (model P w) (iB (eE P w) P w K mg base N qual scope f cd A outer s H E).A (iB (eE P w) P w K mg base N qual scope f cd A outer s H E).env (iB (eE P w) P w K mg base N qual scope f cd A outer s H E).xe :=
 PassesOwn.leaving (Q₁:=fun e G8=>eE P w outer H s E e G8)
end
end L2
namespace L2
open PySem PySem.Spec PyProof.Rows
noncomputable def dJ:List Value:=[.type "ValueError", .type "Exception", .type "BaseException", .type "object"]
noncomputable def lh:List Value->Bool
 | []=>false
 | .ref _ :: r=>lh r
 | l=>l == dJ
theorem jg (self:Value):∀ {l:List Value},lh l=true->refuseLoop self "__setattr__" l=pure ()
 | .ref c :: r,e=>by rw[refuseLoop_ref];exact jg self e
 | .type a :: r,e=>by
  have e':(Value.type a :: r)=dJ:=beq_iff_eq.mp e
  rw[e'];exact PySem.F.store_ValueError.passes self
 | .none :: r,e=>by have:=beq_iff_eq.mp (show(_ == dJ)=true from e);cases this
 | .bool _ :: r,e=>by have:=beq_iff_eq.mp (show(_ == dJ)=true from e);cases this
 | .int _ _ :: r,e=>by have:=beq_iff_eq.mp (show(_ == dJ)=true from e);cases this
 | .float _ _ :: r,e=>by have:=beq_iff_eq.mp (show(_ == dJ)=true from e);cases this
 | .str _ _ :: r,e=>by have:=beq_iff_eq.mp (show(_ == dJ)=true from e);cases this
 | .bytes _ _ :: r,e=>by have:=beq_iff_eq.mp (show(_ == dJ)=true from e);cases this
 | .builtin _ :: r,e=>by have:=beq_iff_eq.mp (show(_ == dJ)=true from e);cases this
theorem jz:∀ {l:List Value},lh l=true->l.contains (.type "object")=true/\l.contains (.type "BaseException")=true/\l.isEmpty=false
 | .ref c :: r,e=>by
  obtain⟨a,b,_⟩:=jz (l:=r) e
  exact⟨by rw[contains_cons,a,Bool.or_true],by rw[contains_cons,b,Bool.or_true],rfl⟩
 | .type a :: r,e=>by
  have e':(Value.type a :: r)=dJ:=beq_iff_eq.mp e
  rw[e'];exact⟨by decide,by decide,rfl⟩
 | .none :: r,e=>by have:=beq_iff_eq.mp (show(_ == dJ)=true from e);cases this
 | .bool _ :: r,e=>by have:=beq_iff_eq.mp (show(_ == dJ)=true from e);cases this
 | .int _ _ :: r,e=>by have:=beq_iff_eq.mp (show(_ == dJ)=true from e);cases this
 | .float _ _ :: r,e=>by have:=beq_iff_eq.mp (show(_ == dJ)=true from e);cases this
 | .str _ _ :: r,e=>by have:=beq_iff_eq.mp (show(_ == dJ)=true from e);cases this
 | .bytes _ _ :: r,e=>by have:=beq_iff_eq.mp (show(_ == dJ)=true from e);cases this
 | .builtin _ :: r,e=>by have:=beq_iff_eq.mp (show(_ == dJ)=true from e);cases this
noncomputable def iq (K:Frag)(C:Addr):Bool:=(PySem.W.clsIn K C).any fun cd=>lh cd.mro
structure gs (K:Frag)(C:Addr):Prop where
 mro:iq K C=true
 hd:hasDictIn K C=true
 sa:findIn K (.ref C) "__setattr__" = some (some (.builtin "object.__setattr__"))
 ga:findIn K (.ref C) "__getattribute__" = some (some (.builtin "BaseException.__getattribute__"))
 gn:findIn K (.ref C) "__getattr__" = some none
section
variable {prog:Program}{w:World}{A:Around}{E:Value->Shared->Prop}{s:Shared}{K:Frag}{x C:Addr}{ox:Obj}{name:Str}{v:Value}
open PySem.W in
theorem pj {R:Result->Shared->Prop}{od:Option Obj}{tk:Tok}(X:K.In s.heap)(I:PySem.W.InstAt s.heap x ox C od)(hp:iq K C=true)(ht:findIn K (.ref C) name=some none)
  (h:∀ b,wpAny (model prog w) A.in1 (Builtin.ObjectAttr.storeInOwnDict (.ref x) (.ref C) (.str name tk) name v b)
   (fun fin s'=>match fin with | .done f=>R (.ok f) s' | .again c'=>c'.quiet=true/\codeAny (model prog w) A c' R s') (fun e s'=>R (.error e) s') s) :
  codeAny (model prog w) A (.call (.builtin "object.__setattr__") ⟨[.ref x, .str name tk,v],[]⟩) R s:=by
 have SF:=PySem.F.store_object
 obtain⟨cd,hc,ho⟩:=any_some hp
 obtain⟨h1,h2,ne⟩:=jz ho
 have sub:Looks (model prog w) s.heap (isInstance (.ref x) (.type "object")) true:=I.type.andThen (looks_mroIn X (by unfold mroIn;rw[hc,Option.bind_some,if_neg (by rw[ne];decide),h1]))
 refine codeAny_call_builtin SF.slot.plain SF.entry (@check_slot (model prog w) _ _ s "object.__setattr__" "object" "__setattr__" (.ref x) [.str name tk,v] [] _ SF.kind SF.split sub (SF.args (.ref x) (.str name tk) v) ?_)
 have hm:Looks (model prog w) s.heap (mroOf (.ref C)) cd.mro:=(looks_clsIn X hc).andThen .now
 have L3:Looks (model prog w) s.heap (Builtin.ObjectAttr.storeTaker? none) none := .now
 rw[osa_eq,refuse_eq]
 refine wpAny_bind (wpAny_bind (I.type.here (wpAny_bind (hm.here ?_))))
 rw[jg _ ho]
 refine wpAny_pure (wpAny_bind (I.type.here (wpAny_bind ((looks_findIn X ht).here (wpAny_bind (L3.here ?_))))))
 exact h _
theorem lD {vs:Array Value}{Q:Unit->Shared->Prop}(X:K.In s.heap)(hx:s.heap.get? x=some ⟨.ref C,none, .fields vs,#[]⟩)(c:gs K C)(ht:findIn K (.ref C) name=some none)
  (h:∀ h' t',h'.get? x=some ⟨.ref C,some s.heap.objs.size, .fields vs,#[]⟩->h'.Ns1 s.heap.objs.size (fun y=>if y=name then some v else none) ->
   (∀ b o,b ≠ x->s.heap.get? b=some o->h'.get? b=some o)->Q () { s with heap:=h',toks:=t' }) :
  wpAny (model prog w) A (setAttr (.ref x) name v) Q E s:=by
 have I:PySem.W.InstAt s.heap x ⟨.ref C,none, .fields vs,#[]⟩ C none:=⟨hx,rfl,rfl,True.intro⟩
 refine PySem.W.set_plain X I c.sa (pj (s:={ s with toks:=s.toks + 1 }) X I c.mro ht fun b=>?_)
 obtain⟨cd,hc,G0⟩:=PySem.W.any_some c.hd
 obtain⟨hp,g,d,t,os⟩:=s
 dsimp only at X hx h I ⊢
 refine wpAny_bind (wpAny_pure (wpAny_bind (wpAny_bind (wpAny_loadPart hx (wpAny_bind (PySem.W.Looks.here (s:=⟨hp,g,d,t + 1,os⟩) (PySem.W.looks_clsIn X hc) ?_))))))
 rw[G0]
 have Ft:(hp.push { cls := .type "dict",data := .dict #[] }).get? x=some ⟨.ref C,none, .fields vs,#[]⟩:=Heap.get?_push_of_some _ hx
 have Ur:x ≠ hp.objs.size:=ne_of_lt (lt_size hx)
 rw[if_neg (by decide)]
 dsimp only
 rw[if_neg (by simp[typeHasDict])]
 refine wpAny_bind (wpAny_alloc' ?_)
 refine wpAny_bind (wpAny_update' Ft ?_)
 refine wpAny_pure ?_
 have hgd:((hp.push { cls := .type "dict",data := .dict #[] }).update x fun o=>{ cls:=o.cls,dict:=some hp.objs.size,data:=o.data,slots:=o.slots }).get? hp.objs.size
   = some { cls := .type "dict",data := .dict #[] } :=
  (Heap.get?_update_ne _ _ _ _ Ur.symm).trans (Heap.get?_push_at rfl rfl)
 have hnd:((hp.push { cls := .type "dict",data := .dict #[] }).update x fun o=>{ cls:=o.cls,dict:=some hp.objs.size,data:=o.data,slots:=o.slots }).Ns hp.objs.size (fun _=>none) :=
  ⟨_,#[],_,hgd,rfl,fun e he=>absurd he (by simp),fun _=>rfl⟩
 show wpAny _ _ (Builtin.ObjectAttr.storeInDict hp.objs.size (.str name t) name v) _ _ _
 unfold Builtin.ObjectAttr.storeInDict Builtin.ObjectAttr.newKeyGuard
 refine wpAny_bind (wpAny_pure (wpAny_bind (wpAny_nsSet1 (Heap.Ns1.of_empty hnd) fun h' BV hs=>?_)))
 obtain⟨oD,Ub,Uc,Jg,Jh,Ji⟩:=BV.count (Within.cons name v Within.nil)
 refine wpAny_bind (wpAny_lookBehind Jg (by rw[Jh];exact pastItsLine_dict (le_trans Ji (by rw[length_cons,length_nil,sizeLine_eq];omega))) ?_)
 refine wpAny_pure (h h' _ ?_ BV fun b o hbx hb=>?_)
 ·exact(hs.2 x Ur).trans (Heap.get?_update_self _ Ft rfl)
 ·exact(hs.2 b (ne_of_lt (lt_size hb))).trans ((Heap.get?_update_ne _ _ _ _ hbx).trans (Heap.get?_push_of_some _ hb))
open PySem.W in
end
end L2
namespace PySem
section
variable {prog:Program}{w:World}{A:Around}{E:Value->Shared->Prop}{h:Heap}{g:Array GenState}{d:Drawn}{t:Nat}{os:OsState}
variable {nm q:Str}{C N:Addr}{bs bm Nk:List Value}{AI:Bool}{sn:List Str}{sub:List Value}{ab:Bool}{col:Option Bool}{dd:Option Addr}{k0 k1 k2 k3 k5:Option Value}{B newId DK:String}
theorem gw (F:ExcBaseFacts B newId DK Nk)(T:OwnTail h Nk bm){mN:Str->Option Value}{rest:List Value}{fI:Addr}{oI:Obj}{Q:Fin->Shared->Prop}
  (hC:h.get? C=some (excClassObj nm q C N bs bm AI sn sub ab col dd k0 k1 k2 k3 k5 newId)) (hn:h.Ns N mN) (hi:mN "__init__" = some (.ref fI))
  (Pr:h.get? fI=some oI) (Pt:oI.cls = .type "function")
  (hq:wpAny (model prog w) A (call (.ref fI) (.ref (h.objs.size + 1) :: rest)) (fun r s'=>r = .none/\Q (.done (.ret (.ref (h.objs.size + 1)))) s') E
   ⟨(h.push { cls := .type "tuple",data := .seq rest.toArray }).push { cls := .ref C,data := .fields #[.ref h.objs.size, .none, .none, .none, .bool false, .none] },g,d,t,os⟩) (hrest:rest.length <= sizeLine:=by size_fits) :
  wpAny (model prog w) A (Builtin.«type.__call__» ⟨.ref C :: rest,[]⟩) Q E ⟨h,g,d,t,os⟩:=by
 repeat (first | with_reducible refine wpAny_loadPart_at hC ?_ | with_reducible refine wpAny_madeBy_exc hC ?_ | wp_step)
 refine codeAny_call_builtin_code (Code.quiet_builtin _ F.quiet) (wpAny_check_new_subT F T hC ?_)
 refine codeAny_exc_new_subT F T hC ?_ hrest
 show wpAny _ _ _ _ _ _
 have Fu:=Heap.get?_push_of_some { cls := .ref C,data := .fields #[.ref h.objs.size, .none, .none, .none, .bool false, .none] }
  (Heap.get?_push_of_some { cls := .type "tuple",data := .seq rest.toArray } hC)
 have GN:=Heap.get?_push_of_some { cls := .ref C,data := .fields #[.ref h.objs.size, .none, .none, .none, .bool false, .none] }
  (Heap.get?_push_of_some { cls := .type "tuple",data := .seq rest.toArray } Pr)
 have JC:((h.push { cls := .type "tuple",data := .seq rest.toArray }).push { cls := .ref C,data := .fields #[.ref h.objs.size, .none, .none, .none, .bool false, .none] }).Ns N mN :=
  let ⟨o,es,ep,e,r⟩:=hn; ⟨o,es,ep,Heap.get?_push_of_some _ (Heap.get?_push_of_some _ e),r⟩
 have GO:((h.push { cls := .type "tuple",data := .seq rest.toArray }).push
   { cls := .ref C,data := .fields #[.ref h.objs.size, .none, .none, .none, .bool false, .none] }).get? (h.objs.size + 1)=some
   { cls := .ref C,data := .fields #[.ref h.objs.size, .none, .none, .none, .bool false, .none] }:=by heap_get
 have hcC:(Value.ref C :: bm).contains (.ref C)=true:=by simp
 have T₁:=T.keeps (h':=(h.push { cls := .type "tuple",data := .seq rest.toArray }).push { cls := .ref C,data := .fields #[.ref h.objs.size, .none, .none, .none, .bool false, .none] })
  fun b o e=>Heap.get?_push_of_some _ (Heap.get?_push_of_some _ e)
 unfold isInstance
 repeat (first | with_reducible refine wpAny_loadPart_at GO ?_ | (with_reducible refine wpAny_isSubtype_exc Fu ?_;rw[hcC]) | wp_step)
 show wpAny _ _ (typeLookup (.ref C) _) _ _ _
 refine wpAny_typeLookup_tail Fu JC T₁ F.mroIs F.init.lookup ?_
 rw[hi]
 refine wpAny_holding (wpAny_bind ?_)
 unfold bindSpecial
 refine wpAny_bind (wpAny_typeOf (T := "function") ⟨_,GN,Pt⟩ ?_)
 rw[if_pos (by decide)]
 refine wpAny_pure (wpAny_bind (wpAny_mono hq (fun r s' hr=>?_) fun _ _ x=>x))
 obtain⟨rfl,hQ⟩:=hr
 wp_walk
 exact hQ
theorem k4 (F:ExcBaseFacts B newId DK Nk)(T:OwnTail h Nk bm){mN:Str->Option Value}{rest:List Value}{fI:Addr}{oI:Obj}{Q:Value->Shared->Prop}
  (hC:h.get? C=some (excClassObj nm q C N bs bm AI sn sub ab col dd k0 k1 k2 k3 k5 newId)) (hn:h.Ns N mN) (hi:mN "__init__" = some (.ref fI))
  (Pr:h.get? fI=some oI) (Pt:oI.cls = .type "function")
  (hq:wpAny (model prog w) (A.under (.builtin "type.__call__" ⟨.ref C :: rest,[]⟩)) (call (.ref fI) (.ref (h.objs.size + 1) :: rest)) (fun r s'=>r = .none/\Q (.ref (h.objs.size + 1)) s') E
   ⟨(h.push { cls := .type "tuple",data := .seq rest.toArray }).push { cls := .ref C,data := .fields #[.ref h.objs.size, .none, .none, .none, .bool false, .none] },g,d,t,os⟩) (hrest:rest.length <= sizeLine:=by size_fits) :
  wpAny (model prog w) A (call (.ref C) rest) Q E ⟨h,g,d,t,os⟩:=by
 have f1:=tc_lookup
 have f2:=tc_bind (.ref C)
 have hT:(⟨h,g,d,t,os⟩:Shared).TypeIs (.ref C) "type":=⟨_,hC,rfl⟩
 refine wpAny_call (codeAny_of_tree ?_)
 show wpAny _ _ (callAny (.ref C) _) _ _ _
 repeat (any_goals (first | assumption | with_reducible refine wpAny_loadPart_at hC ?_ | wp_step))
 refine⟨rfl,?_⟩
 refine codeAny_call_builtin_at (Code.quiet_builtin _ (by decide +kernel)) entry_typeCall (wpAny_check_type_call_sub hC (gw (hrest:=hrest) F T hC hn hi Pr Pt ?_))
 exact hq
end
section
variable {M:Model}{A:Around}{E:Value->Shared->Prop}{env:Env}
variable {nm q:Str}{C N:Addr}{bs bm:List Value}{AI:Bool}{sn:List Str}{sub:List Value}{ab:Bool}{col:Option Bool}{dd:Option Addr}{k0 k1 k2 k3 k5:Option Value}{newId:String}
theorem gy {s:Shared}{x:Sem Value}{Q:Flow->Shared->Prop}(hh:A.handled=none)
  (h:wpAny M A x (fun v s₁=>∃ e t de nm q N bs bm AI sn sub ab col dd k0 k1 k2 k3 k5 newId,v = .ref e/\bm.contains (.type "BaseException")=true/\s₁.heap.get? C=some (excClassObj nm q C N bs bm AI sn sub ab col dd k0 k1 k2 k3 k5 newId) /\
   s₁.heap.get? e=some { cls := .ref C,dict:=de,data := .fields #[.ref t, .none, .none, .none, .bool false, .none] }/\E (.ref e) s₁) E s) :
  wpAny M A (raiseStmt env (some x) none) Q E s:=by
 unfold raiseStmt
 refine wpAny_bind (wpAny_mono h (fun v s₁ h₁=>?_) fun _ _ x=>x)
 obtain⟨e,t,de,nm,q,N,bs,bm,AI,sn,sub,ab,col,dd,k0,k1,k2,k3,k5,newId,rfl,Cf,hC,he,hE⟩:=h₁
 have hcB:(Value.ref C :: bm).contains (.type "BaseException")=true:=by rw[contains_cons,Cf,Bool.or_true]
 obtain⟨hp,g,d,tk,os⟩:=s₁
 repeat (first | with_reducible refine wpAny_loadPart_at he ?_ | with_reducible refine wpAny_loadPart_at hC ?_ | (with_reducible refine wpAny_isSubtype_exc hC ?_;rw[hcB]) | wp_step)
 exact wpAny_raiseNew_none hh hE
end
end PySem
namespace L2
open PySem PySem.Spec PyProof.Rows
noncomputable def b0 (K:Frag)(C:Addr)(init:Option Value):Bool:=match K.lookup C with
 | some ⟨.type "type",_, .cls cd,sl⟩=>(match cd.mro,sl.toList with
  | .ref C' :: bm,[_,_,_,_,some (.builtin n),_]=>C' == C && n == "ValueError.__new__" && !cd.hasDel && PySem.W.tailIn K dJ bm && PySem.W.nsOkIn K cd.ns && nsIn K cd.ns "__init__" == some init
  | _,_=>false)
 | _=>false
theorem ig {K:Frag}{h:Heap}{N:Addr}{x:Str}{v:Value}(X:K.In h)(e:PySem.W.nsOkIn K N=true)(q:nsIn K N x=some (some v)):h.nsMap N x=some v:=by
 have G:h.Ns N (h.nsMap N) := .of_isNs (PySem.W.isNs_of_in X e)
 generalize h.nsMap N=m at G ⊢
 obtain⟨o,es,ep,ho,hd,_,hf⟩:=G
 unfold nsIn at q
 split at q
 ·rename_i c d MQ n' sl z
  have:=X _ _ z
  rw[ho]at this
  cases this
  cases hd
  split at q
  ·rename_i en he
   cases q
   rw[← hf]
   unfold nsFind findBy
   rw[← Array.find?_toList,he]
   rfl
  ·split at q<;>cases q
 ·cases q
theorem lj {K:Frag}{h:Heap}{C:Addr}{init:Option Value}(X:K.In h)(q:b0 K C init=true):∃ bm N nm qn bs AI sn sub ab col dd k0 k1 k2 k3 k5 mN,
  h.get? C=some (excClassObj nm qn C N bs bm AI sn sub ab col dd k0 k1 k2 k3 k5 "ValueError.__new__")/\h.Ns N mN/\mN "__init__" = init/\OwnTail h dJ bm:=by
 unfold b0 at q
 split at q
 ·rename_i dd cd sl ho
  split at q
  ·rename_i C' bm k0 k1 k2 k3 n k5 hm hs
   simp only[Bool.and_eq_true,beq_iff_eq,Bool.not_eq_true']at q
   obtain⟨⟨⟨⟨⟨rfl,rfl⟩,JD⟩,ht⟩,zg⟩,Fv⟩:=q
   obtain⟨nm,bs,mro,ns,qn,hd,sn,sub,ab,col,uq⟩:=cd
   dsimp only at hm JD zg Fv
   subst hm JD
   have Pu:sl = #[k0,k1,k2,k3,some (.builtin "ValueError.__new__"),k5]:=by
    obtain⟨l⟩:=sl
    simp only at hs
    rw[hs]
   subst Pu
   refine⟨bm,ns,nm,qn,bs,hd,sn,sub,ab,col,dd,k0,k1,k2,k3,k5,_,X _ _ ho, .of_isNs (PySem.W.isNs_of_in X zg),?_,PySem.W.tail_of_in X ht⟩
   cases init with
   | none=>exact PySem.W.nsMap_none_of_in X zg Fv
   | some v=>exact ig X zg Fv
  ·cases q
 ·cases q
theorem pT {h:Heap}{bm:List Value}(T:OwnTail h dJ bm):bm.contains (.type "BaseException")=true:=T.hasType (by decide)
noncomputable def cY (C t:Addr)(dd:Option Addr):Obj:={ cls := .ref C,dict:=dd,data := .fields #[.ref t, .none, .none, .none, .bool false, .none] }
abbrev TX:=St->Hp->(Option Addr->Hp->Prop)->Prop
noncomputable def PX (X:Cx)(e:Expr)(C:Addr)(t:TX):Prop :=
 ∀ (pins:List (Addr × Obj))(s:Shared)(σ:St)(H:Hp)(R:Option Addr->Hp->Prop),Inv X pins σ H s->t σ H R->wpAny (model X.prog X.w) X.A (eval e X.env)
  (fun u s'=>∃ ea dd tt H',u = .ref ea/\Inv X pins σ H' s'/\s'.heap.get? ea=some (cY C tt dd)/\X.s₀.heap.get? ea=none/\H' ea=none/\(∀ p ∈ X.pn ++ pins,p.1 ≠ ea)/\R dd H') X.xe s
theorem Ab.at {P:Program}{w:World}{H:Hp}{h:Heap}{a:Addr}{o:HO}(x:Ab P w H h)(e:H a=some o):∃ ob,h.get? a=some ob:=by
 have q:=x a o e
 have all:∀ o,zu P w H h a o->∃ ob,h.get? a=some ob:=by
  intro o
  induction o with
  | lst xs=>intro ⟨_,ze,n,_,e⟩;exact⟨_,e⟩
  | tup xs=>intro ⟨_,ze,_,ob,e,_⟩;exact⟨_,e⟩
  | dK kvs=>intro ⟨_,_,vs,_,q⟩;obtain⟨o,es,ep,e,_⟩:=q;exact⟨_,e⟩
  | dT kvs=>intro ⟨_,_,xs,_,o,es,ep,e,_⟩;exact⟨_,e⟩
  | set S n=>intro q;obtain⟨o,_,_,_,e,_⟩:=q;exact⟨_,e⟩
  | ins C dx fs=>intro ⟨_,_,_,e,_⟩;exact⟨_,e⟩
  | own x=>intro ⟨o,e⟩;exact⟨_,e⟩
  | xd fs=>intro ⟨mA,⟨o,es,ep,e,_⟩,_⟩;exact⟨_,e⟩
  | MK lo hi=>intro ⟨_,_,_,e⟩;exact⟨_,e⟩
  | AZ o u ih=>intro ⟨e,_⟩;exact⟨_,e⟩
  | Fe ps=>intro e;exact⟨_,e⟩
  | met f x=>intro e;exact⟨_,e⟩
  | ext φ=>intro ⟨_,e,_⟩;exact e
 exact all o q
theorem Ab.none_of {P:Program}{w:World}{H:Hp}{h:Heap}{a:Addr}(x:Ab P w H h)(e:h.get? a=none):H a=none:=by
 cases q:H a with
 | none=>rfl
 | some o =>
  obtain⟨ob,z⟩:=x.at q
  rw[e]at z;cases z
noncomputable def uq (H:Hp)(a:Addr):Hp:=fun b=>if b=a then none else H b
theorem mI {H:Hp}{a:Addr}:uq H a a=none:=if_pos rfl
theorem dE {H:Hp}{a b:Addr}(h:b ≠ a):uq H a b=H b:=if_neg h
theorem Inv.drop {X:Cx}{pins:List (Addr × Obj)}{σ:St}{H:Hp}{s:Shared}{a:Addr} {φ:Heap->Prop} (I:Inv X pins σ H s) (e:H a=some (.ext φ)):Inv X pins σ (uq H a) s:=by
 have nx:∀ b u,H b=some u->(∀ φ,u ≠ .ext φ)->b ≠ a:=fun b u q n z=>by rw[z,e]at q;cases q;exact n φ rfl
 have nn:∀ b,H b=none->uq H a b=none:=fun b q=>by unfold uq;split<;>first | rfl | exact q
 refine⟨I.ok,I.os,I.bare,⟨I.base.keep,I.base.slot,fun b o h1 h2 h3=>nn b (I.base.free b o h1 h2 h3),I.base.there,fun b xs q=>?_,fun b o u q=>?_,fun b ps q=>?_⟩,I.loc,I.cell,nn _ I.free,fun x c h=>nn _ (I.zQ x c h),fun p hp=>?_,fun b u q=>?_,I.len⟩
 ·have z:=I.base.Bo b xs q
  rw[dE (nx b _ z fun φ h=>by cases h)];exact z
 ·have z:=I.base.Bd b o u q
  rw[dE (nx b _ z fun φ h=>by cases h)];exact z
 ·obtain⟨more,z⟩:=I.base.Bp b ps q
  exact⟨more,by rw[dE (nx b _ z fun φ h=>by cases h)];exact z⟩
 ·obtain⟨h1,h2,h3⟩:=I.pin p hp
  exact⟨h1,nn _ h2,h3⟩
 ·have hb:b ≠ a:=fun z=>by rw[z,mI]at q;cases q
  rw[dE hb]at q
  refine(I.zg b u q).Ac (fun c v _ z=>z) (fun c z=>?_) fun c xs z=>?_
  ·rw[dE (nx c _ z fun φ h=>by cases h)];exact z
  ·rw[dE (nx c _ z fun φ h=>by cases h)];exact z
section
variable {X:Cx}{C f:Addr}{x:Str}{p pos apos:Pos}{e:Expr}{es:List Expr}{t:TA}
noncomputable def wZ (t:TA):TX:=fun σ H R=>t σ H fun vs H1=>vs.length <= sizeLine/\R none H1
theorem cf (hq:b0 X.K C none=true)(kp:keepIn X.K (.ref C)=true)(hex:X.ex=[])(hg:Gl X x)(hm:X.mg x=some (.ref C))(ha:PA X (e :: es) t)
  (Dz:(x == ("__debug__":Str))=false:=by decide) (he:starEach (e :: es) X.env=(false,eval e X.env) :: starEach es X.env:=by rfl) (Aj:(backTo pos (starEach es X.env)).any (·.1)=false:=by rfl) :
  PX X (.Call (.Name x p) (e :: es) [] pos) C (wZ t):=by
 intro pins s σ H R I h
 refine wpAny_Call_Name_kw (gS I hg hm ?_ Dz)
 refine PySem.W.callWith_K (h₀:=X.base) I.ok.mod.Dv kp (aS (ha pos pins s σ H _ I h) fun us s1 ⟨vs,H1,I1,r,hl,q⟩=>⟨I1.zZ,?_⟩) he Aj
 obtain⟨bm,N,nm,qn,bs,AI,sn,sub,ab,col,dd,k0,k1,k2,k3,k5,mN,hC,hn,Fv,T⟩:=lj I1.zZ hq
 obtain⟨hp,g,d,tk,os⟩:=s1
 refine wpAny_call_exc_subT (hrest:=by show us.length <= _;rw[← r.length];exact hl) PySem.F.excBase_ValueError T hC hn Fv fun h' ea Cn=>?_
 obtain⟨tt,ht,_,_⟩:=Cn.there
 refine⟨ea,none,tt,H1,rfl,I1.kept (t':=tk) Cn.keeps,ht,I1.DJ hex Cn.new,I1.zg.none_of Cn.new,fun p hp z=>?_,q⟩
 have:=(I1.pin p hp).1
 rw[z]at this
 have h2:=Cn.new
 rw[this]at h2
 cases h2
noncomputable def bL (e C t:Addr)(dd:Option Addr):HO := .ext fun h=>h.get? e=some (cY C t dd)
theorem j0 {P:Program}{w:World}{H:Hp}{h:Heap}{e C t:Addr}{dd:Option Addr}(q:h.get? e=some (cY C t dd)):zu P w H h e (bL e C t dd) :=
 ⟨q,⟨_,q⟩,fun h1 h2 a b=>b _ a⟩
noncomputable def xa (C:Addr)(sp:Sp)(t:TA):TX:=fun σ H R=>t σ H fun vs H1=>vs.length <= sizeLine/\∀ e tt,H1 e=none->sp (.ref e :: vs) (upd H1 e (bL e C tt none)) (fun v H2=>v = .zt/\∃ dd,H2 e=some (bL e C tt dd)/\R dd (uq H2 e)) E0
theorem iF {k:Nat}{fd:FuncData}{ps:List Str}{sp:Sp}(hq:b0 X.K C (some (.ref f))=true)(hf:isFn X.K (.ref f)=true)(kp:keepIn X.K (.ref C)=true)(F:zb X.prog X.w X.K X.mg X.base aG k f fd ps sp)(hr:zm (k + 1) X.A)(hb:Binds X.K fd ps [])
  (hg:Gl X x) (hm:X.mg x=some (.ref C)) (ha:PA X (e :: es) t)
  (Dz:(x == ("__debug__":Str))=false:=by decide) (he:starEach (e :: es) X.env=(false,eval e X.env) :: starEach es X.env:=by rfl) (Aj:(backTo pos (starEach es X.env)).any (·.1)=false:=by rfl) :
  PX X (.Call (.Name x p) (e :: es) [] pos) C (xa C sp t):=by
 intro pins s σ H R I h
 refine wpAny_Call_Name_kw (gS I hg hm ?_ Dz)
 refine PySem.W.callWith_K (h₀:=X.base) I.ok.mod.Dv kp (aS (ha pos pins s σ H _ I h) fun us s1 ⟨vs,H1,I1,r,hl,q⟩=>⟨I1.zZ,?_⟩) he Aj
 obtain⟨bm,N,nm,qn,bs,AI,sn,sub,ab,col,dd,k0,k1,k2,k3,k5,mN,hC,hn,Fv,T⟩:=lj I1.zZ hq
 obtain⟨oI,Us,hcI⟩:∃ oI,s1.heap.get? f=some oI/\oI.cls = .type "function":=by
  have z:=beq_iff_eq.mp hf
  obtain⟨o,ho,z⟩:=Option.map_eq_some_iff.mp (show(X.K.lookup f).map (·.cls)=some (.type "function") from z)
  exact⟨o,I1.zZ _ _ ho,z⟩
 obtain⟨hp,g,d,tk,os⟩:=s1
 dsimp only at hC hn T Us
 refine k4 (hrest:=by show us.length <= _;rw[← r.length];exact hl) PySem.F.excBase_ValueError T hC hn Fv Us hcI ?_
 have nE:hp.objs.size <= hp.objs.size + 1:=le_succ _
 have Nl:=q (hp.objs.size + 1) hp.objs.size (I1.zg.fresh nE)
 have GO:((hp.push { cls := .type "tuple",data := .seq us.toArray }).push (cY C hp.objs.size none)).get? (hp.objs.size + 1)=some (cY C hp.objs.size none):=by
  have:=Heap.get?_push_size (hp.push { cls := .type "tuple",data := .seq us.toArray }) (o:=cY C hp.objs.size none) rfl
  rwa [size_push]at this
 have I2:Inv X pins σ (upd H1 (hp.objs.size + 1) (bL (hp.objs.size + 1) C hp.objs.size none)) ⟨(hp.push { cls := .type "tuple",data := .seq us.toArray }).push (cY C hp.objs.size none),g,d,tk,os⟩ :=
  I1.laid (t':=tk) (fun b u z=>Heap.get?_push_of_some _ (Heap.get?_push_of_some _ z)) nE (j0 GO)
 have r2:Vals (V.ref (hp.objs.size + 1) :: vs) (Value.ref (hp.objs.size + 1) :: us) := .cons rfl r
 have E4:(Value.ref (hp.objs.size + 1) :: us ++ []).length=ps.length:=by
  have e:=r2.length
  rw[F.len _ _ _ _ Nl]at e
  rw[append_nil];exact e.symm
 have JE:=hb ⟨(hp.push { cls := .type "tuple",data := .seq us.toArray }).push (cY C hp.objs.size none),g,d,tk,os⟩ (Value.ref (hp.objs.size + 1) :: us) I2.zZ E4
 rw[append_nil]at JE
 refine wpAny_call (codeAny_mono (F.run _ X.stack _ _ ⟨Value.ref (hp.objs.size + 1) :: us,[]⟩ (Value.ref (hp.objs.size + 1) :: us) _ _ E0 (hr.make C us []) (I2.G6.make C us []) JE r2 Nl) fun rr s' BG=>?_)
 cases rr with
 | error e=>exact BG.elim
 | ok fl =>
  cases fl with
  | ret u =>
   obtain⟨v,H',I3,rv,ev,de,C0,q3⟩:=I2.after BG
   subst ev
   refine⟨rv,hp.objs.size + 1,de,hp.objs.size,uq H' (hp.objs.size + 1),rfl,I3.drop C0,(I3.zg _ _ C0).1,Heap.get?_none_of_le (le_trans I1.sz nE),mI,fun p BI z=>?_,q3⟩
   have:=lt_size (I1.pin p BI).1
   rw[z]at this
   exact absurd this (Nat.not_lt.mpr nE)
  | next=>exact False.elim BG
  | brk=>exact False.elim BG
  | cont=>exact False.elim BG
noncomputable def xb (C:Addr)(E:XK)(t:TX):TS:=fun _ σ H=>t σ H fun dd H1=>E (.ref C) dd H1
theorem b8 {E:XK}{tx:TX}{init:Option Value}(hc:X.calm=true)(hq:b0 X.K C init=true)(hx:Ba X E)(h:PX X e C tx):PS X (.Raise (some e) none pos) (xb C E tx):=by
 intro pins s σ H D I hw
 rw[arm_exec_Raise]
 have key:wpAny (model X.prog X.w) X.A (eval e X.env) (fun v s₁=>∃ ea t de nm q N bs bm AI sn sub ab col dd k0 k1 k2 k3 k5 newId,v = .ref ea/\bm.contains (.type "BaseException")=true/\s₁.heap.get? C=some (excClassObj nm q C N bs bm AI sn sub ab col dd k0 k1 k2 k3 k5 newId) /\
   s₁.heap.get? ea=some { cls := .ref C,dict:=de,data := .fields #[.ref t, .none, .none, .none, .bool false, .none] }/\X.xe (.ref ea) s₁) X.xe s:=by
  refine aS (h pins s σ H _ I hw) fun u s1 ⟨ea,dd,tt,H',eu,I1,ho,hn,hh,hp,q⟩=>?_
  obtain⟨bm,N,nm,qn,bs,AI,sn,sub,ab,col,ddc,k0,k1,k2,k3,k5,mN,hC,GH,Fv,T⟩:=lj I1.zZ hq
  refine⟨ea,tt,dd,nm,qn,N,bs,bm,AI,sn,sub,ab,col,ddc,k0,k1,k2,k3,k5,_,eu,pT T,hC,ho,hx pins σ _ _ ⟨ea, .ref C,dd,[ea],H',rfl,I1,⟨_,_,ho,rfl,rfl,rfl, .inl ⟨rfl,rfl⟩⟩,fun b hb=>?_,q⟩⟩
  simp only[mem_singleton]at hb
  subst hb
  exact⟨hn,hh,hp⟩
 first
  | refine wpAny_bind (wpAny_standAt (gy (C:=C) (I.ok.hd hc) (wpAny_bind (wpAny_mono key (fun v s₃ h₃=>wpAny_bind (wpAny_standAt (wpAny_pure h₃))) fun _ _ x=>x))))
  | (simp only[evalOpt,Option.map];refine wpAny_bind (wpAny_standAt (gy (C:=C) (I.ok.hd hc) (wpAny_bind (wpAny_mono key (fun v s₃ h₃=>wpAny_bind (wpAny_standAt (wpAny_pure h₃))) fun _ _ x=>x)))))
end
end L2
namespace L2
open PySem PySem.Spec PyProof.Rows
section
variable {prog:Program}{w:World}{A:Around}{E:Value->Shared->Prop}{s:Shared}{K:Frag}{x C:Addr}{ox:Obj}{od:Option Obj}{name:Str}{v:Value}
open PySem.W in
open PySem.W in
end
section
variable {X:Cx}{pins:List (Addr × Obj)}{σ:St}{H:Hp}{s:Shared}{ea:Addr}{oe:Obj}
end
end L2
namespace L2
open PySem PySem.Spec PyProof.Rows
noncomputable def JF (K:Frag)(ta tv:TE)(f:Str):TS:=fun D σ H=>tv σ H fun y H1=>ta σ H1 fun x H2=>∃ a C tt,x = .ref a/\H2 a=some (bL a C tt none)/\gs K C/\findIn K (.ref C) f=some none /\
 ∀ d,H2 d=none->D.nx σ (upd (upd H2 d (.xd [(f,y)])) a (bL a C tt (some d)))
section
variable {X:Cx}{o e value:Expr}{f:Str}{pos pos':Pos}{ta tv:TE}
theorem kO (ha:PE X o ta)(hv:PE X value tv)(hs:swapsWith value (some (.Attribute o f pos')) pos.line X.env=pure false):PS X (.Assign [.Attribute o f pos'] value pos) (JF X.K ta tv f):=by
 intro pins s σ H D I h
 refine plainObj_wpAny_Assign_Attribute (aS (hv pins s σ H _ I h) fun u s1 ⟨y,H1,I1,ry,q⟩=>aS (ha pins s1 σ H1 _ I1 q) fun ov s2 ⟨x,H2,I2,rx,a,C,tt,ex,ea,c,n,q2⟩=>?_) hs
 subst ex
 obtain rfl:ov=Value.ref a:=rx
 have ho:s2.heap.get? a=some (cY C tt none):=(I2.zg a _ ea).1
 have zL:a < s2.heap.objs.size:=lt_size ho
 refine lD I2.zZ ho c n fun h' t' BW BV hk=>⟨σ,_,?_,q2 s2.heap.objs.size (I2.zg.fresh (Nat.le_refl _))⟩
 obtain⟨od,es,ep,D4,r⟩:=id BV
 have B8:od.isFreed=false:=(Heap.get?_some_iff.mp D4).2
 have Co:(s2.heap.push od).get? s2.heap.objs.size=some od:=Heap.get?_push_size s2.heap B8
 have I3:=I2.laid (a:=s2.heap.objs.size) (o := .xd [(f,y)]) (h':=s2.heap.push od) (t':=s2.toks) (fun b u z=>Heap.get?_push_of_some _ z) (Nat.le_refl _)
  ⟨_,BV.at (fun o z=>by rw[D4]at z;cases z;exact Co),fun g=>by
   by_cases hg:g=f
   ·have hb:(g == f)=true:=beq_iff_eq.mpr hg
    simp only[List.lookup,hb,if_pos hg]
    exact ry
   ·have hb:(g == f)=false:=beq_eq_false_iff_ne.mpr hg
    simp only[List.lookup,hb,if_neg hg]
    trivial⟩
 have zC:a ≠ s2.heap.objs.size:=ne_of_lt zL
 refine I3.write (x:=a) (e:=a) (h':=h') (t':=t') (by rw[ae zC,ea];exact True.intro) (.inl rfl) (fun b u hb z=>?_) ⟨_,BW⟩ (j0 BW)
 by_cases JG:b=s2.heap.objs.size
 ·subst JG
  have z':(s2.heap.push od).get? s2.heap.objs.size=some u:=z
  rw[Co]at z'
  cases z'
  exact D4
 ·have z':s2.heap.get? b=some u:=by
   have z0:(s2.heap.push od).get? b=some u:=z
   exact(Heap.get?_push_cases z0).elim (fun w=>absurd w.1 JG) fun w=>w
  exact hk b u hb z'
end
section
variable {P:Program}{w:World}{K:Frag}{mg:Str->Option Value}{base:Heap}
theorem zA.Ej {x qual:Str}{st:Stmt}{f:Addr}{fd:FuncData}{N ps:List Str}{k:Nat}{sp:Sp}(F:zA K x qual st f fd)(S:ap N ps (aj st))(len:∀ vs H Q E,sp vs H Q E->vs.length=ps.length)
  (Bq:∀ (cdv:Value)(A:Around)(outer:List Env)(s:Shared)(H:Hp)(vs:List V)(Q:VK)(E:XK),zm k (A.deeper (envOfC qual (aj st) s.heap.objs.size f cdv))->sp vs H Q E ->
   ∃ t,C4 (iB (eE P w) P w K mg base N qual (aj st) f cdv A outer s H E) (aJ st) t/\t { nx:=fun _ H'=>Q .zt H',rt:=Q } (start N vs) H):zb P w K mg base (eE P w) (k + 1) f fd ps sp:=by
 obtain⟨oc,od,kV,doc,pm,an,cdv,ct,C8,rfl,lk,C5⟩:=F.ex
 exact ud lk C5 S len fun A outer s H vs Q E hr D3=>Bq cdv A outer s H vs Q E hr D3
end
theorem ia {P:Program}{w:World}{X:Cx}:dH (eE P w) X E0:=fun _ _ _ _ _ _ _ ⟨_,_,_,_,_,_,_,_,_,_,_,_,h⟩=>h.elim
section
variable {X:Cx}{k:Nat}{f C:Addr}{fd:FuncData}{ps:List Str}{sp:Sp}{Ai:List V}{ds:List Value}{x m:Str}{p pos apos:Pos}{e o:Expr}{es:List Expr}{ta:TE}{t:TA}
end
section
variable {X:Cx}{e:Expr}{t:St->Hp->VK->XK->Prop}{pos Dd:Pos}{n:Str}{i:Nat}
end
section
variable {M:Model}{A:Around}{E:Value->Shared->Prop}{s:Shared}
end
end L2
namespace PySem
open Sem (wp)
open AutoSeq1 (wpAny_loadPart')
theorem dS (l:Addr)(items:Array Value)(n:Nat)(Pw:Option Addr)(sl:Array (Option Value)) :
  Meets (Builtin.«enumerate.__new__» ⟨[.type "enumerate", .ref l],[]⟩) (fun _ R s=>s.heap.get? l=some { cls := .type "tuple",dict:=Pw,data := .seq items n,slots:=sl } /\
   R (.ok (.ret (.ref (s.heap.push { cls := .type "tuple_iterator",data := .fields #[.ref l, .int 0 0] }).objs.size)))
    { s with heap:=(s.heap.push { cls := .type "tuple_iterator",data := .fields #[.ref l, .int 0 0] }).push { cls := .type "enumerate",data := .fields #[.none, .bool false, .ref s.heap.objs.size,rawInt 0, .none, .none] } }) :=
 .of_wp fun prog w A R s h=>by
  obtain⟨hp,g,d,tk,os⟩:=s;obtain⟨hl,h⟩:=h
  have JH:=sub_enumerate
  have hL:Heap.IsTuple (Shared.heap ⟨hp,g,d,tk,os⟩) l items:=⟨_,hl,rfl,n,rfl⟩
  wp_walk using wpAny_loadPart' hl
  refine wpAny_stack_any fun st=>wpAny_pure ?_
  split
  ·rename_i c _ _ _ _ _
   cases (c == Value.type "enumerate")
   ·wp_walk using wpAny_loadPart' hl,wpAny_pyIter_tuple hL
    exact⟨_,rfl,h⟩
   ·wp_walk using wpAny_loadPart' hl,wpAny_pyIter_tuple hL
    exact⟨_,rfl,h⟩
  ·wp_walk using wpAny_loadPart' hl,wpAny_pyIter_tuple hL
   exact⟨_,rfl,h⟩
section
variable {prog:Program}{w:World}{A:Around}{E:Value->Shared->Prop}{s:Shared}
theorem dU {l:Addr}{items:Array Value}{Q:Value->Shared->Prop}(hL:s.heap.IsTuple l items)
  (h:∀ h',IsEnum h' (s.heap.objs.size + 1) s.heap.objs.size 0 .none->h'.IsTupleIter s.heap.objs.size l 0->h'.objs.size=s.heap.objs.size + 2 ->
   (∀ b o,s.heap.get? b=some o->h'.get? b=some o)->Q (.ref (s.heap.objs.size + 1)) { s with heap:=h' }) :
  wpAny (model prog w) A (call (.type "enumerate") [.ref l]) Q E s:=by
 obtain⟨⟨c,Pw,dt,sl⟩,hl,hc,n,hd⟩:=hL
 replace hc:c = .type "tuple":=hc
 replace hd:dt = .seq items n:=hd
 subst hc hd
 refine callType_new F.called_enumerate (by decide) (F.typeCall_enumerate_1 _) (F.newCall_enumerate_1 _) (fun obj=>F.args_object_init_2 obj _) F.entry_enumerate_new
  (dS l items n Pw sl) ⟨hl,?_⟩
 have hz:(s.heap.push { cls := .type "tuple_iterator",data := .fields #[.ref l, .int 0 0] }).objs.size=s.heap.objs.size + 1:=size_push ..
 show _/\_
 rw[hz]
 have he:IsEnum ((s.heap.push { cls := .type "tuple_iterator",data := .fields #[.ref l, .int 0 0] }).push
   { cls := .type "enumerate",data := .fields #[.none, .bool false, .ref s.heap.objs.size,rawInt 0, .none, .none] }) (s.heap.objs.size + 1) s.heap.objs.size 0 .none:=by
  have:=Heap.get?_push_size (s.heap.push { cls := .type "tuple_iterator",data := .fields #[.ref l, .int 0 0] })
   (o:={ cls := .type "enumerate",data := .fields #[.none, .bool false, .ref s.heap.objs.size,rawInt 0, .none, .none] }) rfl
  rw[hz]at this;exact this
 refine⟨⟨_,he,rfl⟩,h _ he ⟨_,Heap.get?_push_of_some _ (Heap.get?_push_size _ rfl),rfl,rfl⟩ (by rw[size_push,hz]) fun b o x=>Heap.get?_push_of_some _ (Heap.get?_push_of_some _ x)⟩
theorem fR {it l:Addr}{i:Nat} {items} {x:Value} {Q:Value->Shared->Prop} (hit:s.heap.IsTupleIter it l i)
  (hl:s.heap.IsTuple l items) (hx:items[i]? = some x)
  (hQ:∀ h',h'.IsTupleIter it l (i + 1)->Heap.SameBut it s.heap h'->Q x { s with heap:=h' }) :
  wpAny (model prog w) A (Builtin.SmallTypes.nextOf (.ref it)) Q E s:=by
 obtain⟨o,ho,hc,hd⟩:=id hit
 obtain⟨ol,EC,_,nl,Ii⟩:=hl
 unfold Builtin.SmallTypes.nextOf
 refine wpAny_bind (wpAny_callSpecial?_slot (name:=Str.ofString "__next__") hit.typeIs F.slot_tuple_iterator_next
  (wpAny_call_entry F.slot_tuple_iterator_next hit.typeIs F.entry_tuple_iterator_next ?_ (F.args_tuple_iterator_next_1 _)))
 show wpAny _ _ (field (.ref it) 0 >>= _) _ _ s
 refine wpAny_bind (wpAny_field ho hd (x := .ref l) rfl ?_)
 show wpAny _ _ (if (Value.ref l == Value.none)=true then _ else _) _ _ s
 rw[if_neg (show ¬ ((Value.ref l == Value.none)=true) from Bool.false_ne_true)]
 show wpAny _ _ (field (.ref it) 1 >>= _) _ _ s
 refine wpAny_bind (wpAny_field ho hd (x := .int i 0) rfl ?_)
 show wpAny _ _ (seqItems? (.ref l) >>= _) _ _ s
 refine wpAny_bind (wpAny_seqItems EC Ii ?_)
 simp only[toNat_natCast,hx]
 refine wpAny_bind (wpAny_setField ho hd (by simp) (wpAny_pure ⟨x,rfl,wpAny_pure (hQ _ ?_ (Heap.SameBut.update ..))⟩))
 exact⟨_,Heap.get?_update_self _ ho (Obj.isFreed_of_fields (Obj.data_mapFields hd _)),(Obj.cls_mapFields ..).trans hc,by
  rw[Obj.data_mapFields hd];simp[rawInt]⟩
theorem ge {it l:Addr}{i:Nat} {items} {Q:Value->Shared->Prop} (hh:A.handled=none)
  (hit:s.heap.IsTupleIter it l i) (hl:s.heap.IsTuple l items) (hx:items[i]? = none)
  (hE:∀ h' e,Heap.ExtBut it s.heap h'->(∃ o,h'.get? e=some o/\o.cls = .type "StopIteration")->E (.ref e) { s with heap:=h' }) :
  wpAny (model prog w) A (Builtin.SmallTypes.nextOf (.ref it)) Q E s:=by
 obtain⟨o,ho,hc,hd⟩:=id hit
 obtain⟨ol,EC,_,nl,Ii⟩:=hl
 unfold Builtin.SmallTypes.nextOf
 refine wpAny_bind (wpAny_callSpecial?_slot (name:=Str.ofString "__next__") hit.typeIs F.slot_tuple_iterator_next
  (wpAny_call_entry F.slot_tuple_iterator_next hit.typeIs F.entry_tuple_iterator_next ?_ (F.args_tuple_iterator_next_1 _)))
 show wpAny _ _ (field (.ref it) 0 >>= _) _ _ s
 refine wpAny_bind (wpAny_field ho hd (x := .ref l) rfl ?_)
 show wpAny _ _ (if (Value.ref l == Value.none)=true then _ else _) _ _ s
 rw[if_neg (show ¬ ((Value.ref l == Value.none)=true) from Bool.false_ne_true)]
 show wpAny _ _ (field (.ref it) 1 >>= _) _ _ s
 refine wpAny_bind (wpAny_field ho hd (x := .int i 0) rfl ?_)
 show wpAny _ _ (seqItems? (.ref l) >>= _) _ _ s
 refine wpAny_bind (wpAny_seqItems EC Ii ?_)
 simp only[toNat_natCast,hx]
 refine wpAny_bind (wpAny_rule (wpAny_bind (wpAny_setField ho hd (by simp) ?_)))
 show wpAny _ _ (newExc (.type "StopIteration") [] >>= _) _ _ _
 refine wpAny_bind ?_
 simp only[newExc,newTuple]
 refine wpAny_bind (wpAny_newObj_type ?_ (by size_fits))
 refine wpAny_bind (m:=firstArgMember _ _) (wpAny_of_eq (a:=Value.none) (by first | rfl | (simp only[firstArgMember];rfl)) ?_)
 refine wpAny_newObj_type ?_ (by size_fits)
 simp only[raiseNew]
 refine wpAny_bind (wpAny_handled ?_)
 first | rw[show A.in1.handled=none from hh] | rw[hh]
 refine wpAny_bind (wpAny_pure (wpAny_throw ?_))
 exact hE _ _ (((Heap.SameBut.update ..).extBut.push _).push _) ⟨_,Heap.get?_push_size _ rfl,rfl⟩
end
theorem fU {prog:Program}{w:World}{A:Around}(hh:A.handled=none)(it l:Addr)(zC:l ≠ it)(items:Array Value) :
  Draws prog w A it [it,l] items.size (fun i v=>items[i]? = some v) (fun i h=>h.IsTupleIter it l i/\h.IsTuple l items) where
 live:=fun _ _ st=>let ⟨o,ho,_⟩:=st.1; ⟨o,ho⟩
 frame:=fun _ _ _ st hk=>⟨st.1.at fun o e=>hk it (by simp) o e,let ⟨o,ho,r⟩:=st.2; ⟨o,hk l (by simp) o ho,r⟩⟩
 item:=fun i s Q E hi st hQ=>by
  refine fR st.1 st.2 (x:=items[i]) (by simp[hi]) fun h' Px Ij=>?_
  exact hQ _ h' s.toks (by simp[hi]) ⟨Px,let ⟨o,ho,r⟩:=st.2; ⟨o,Ij.extBut l o zC ho,r⟩⟩ Ij
 done:=fun s Q E st hE=>ge hh st.1 st.2 (by simp) hE
end PySem
namespace L2
open PySem PySem.Spec PyProof.Rows
section
variable {X:Cx}{pins:List (Addr × Obj)}{σ:St}{H:Hp}{s:Shared}
theorem Inv.GQ {h':Heap}{t':Nat}{a b p:Addr}{xs:List V}{us:List Value}(I:Inv X pins σ H s)(fa:fT X pins H a)(fb:fT X pins H b)(hp:s.heap.objs.size <= p)
  (k:∀ c o,c ≠ a->c ≠ b->s.heap.get? c=some o->h'.get? c=some o) (ka:∃ o,h'.get? a=some o) (kb:∃ o,h'.get? b=some o) (hl:xs.length <= sizeLine) (r:Vals xs us) (ht:Ae h' p us.toArray) :
  Inv X pins σ (upd H p (.tup xs)) { s with heap:=h',toks:=t' }:=by
 have hf:H p=none:=I.zg.fresh hp
 have nt:∀ c u,H c=some u->c ≠ p:=fun c u q z=>by rw[z,hf]at q;cases q
 have lt:∀ c o,s.heap.get? c=some o->c ≠ p:=fun c o q=>ne_of_lt (lt_of_lt_of_le (lt_size q) hp)
 have ne:∀ c,c ∉ [a,b]->c ≠ a/\c ≠ b:=fun c hc=>by simpa using hc
 refine I.call (g':=s.gens) (d':=s.drawn) (ch:=[a,b]) ⟨fun c o e n h1 h2=>k c o (ne c h2).1 (ne c h2).2 e,fun c o e n h1 h2=>⟨o.slots,k c o (ne c h2).1 (ne c h2).2 e⟩,fun c o e n h2=>by rw[ae (lt c o e)];exact n,
  fun c o e h2=>⟨o,k c o (ne c h2).1 (ne c h2).2 e⟩,fun c ys q=>by rw[ae (nt c _ q)];exact q,fun c o u q=>by rw[ae (nt c _ q)];exact q,fun c ps q=>⟨#[],by rw[ae (nt c _ q),q];simp⟩⟩ (fun c u q=>?_) I.bare fun c hc=>?_
 ·by_cases hc:c=p
  ·subst hc
   rw[ac]at q
   cases q
   exact⟨hl,us,r,ht⟩
  ·rw[ae hc]at q
   refine(I.zg c u q).Ac (fun d v hd z=>?_) (fun d z=>by rw[ae (nt d _ z)];exact z) fun d ys z=>by rw[ae (nt d _ z)];exact z
   have nd:∀ e,H e=none->d ≠ e:=fun e he w=>by
    rcases hd with rfl | hd
    ·rw[w,he]at q;cases q
    ·rw[w,he]at hd;cases hd
   exact k d v (nd a fa.1) (nd b fb.1) z
 ·have HY:c=a∨c=b:=by simpa using hc
  rcases HY with rfl | rfl
  ·obtain⟨_,f1,_,f3,f4,f5⟩:=fa;exact⟨f3,f1,f4,f5⟩
  ·obtain⟨_,f1,_,f3,f4,f5⟩:=fb;exact⟨f3,f1,f4,f5⟩
theorem Inv.CO {h':Heap}{t':Nat}{a b:Addr}(I:Inv X pins σ H s)(fa:fT X pins H a)(fb:fT X pins H b)
  (k:∀ c o,c ≠ a->c ≠ b->s.heap.get? c=some o->h'.get? c=some o):Inv X pins σ H { s with heap:=h',toks:=t' }:=by
 have ne:∀ c,c ∉ [a,b]->c ≠ a/\c ≠ b:=fun c hc=>by simpa using hc
 refine I.call (g':=s.gens) (d':=s.drawn) (ch:=[a,b]) ⟨fun c o e n h1 h2=>k c o (ne c h2).1 (ne c h2).2 e,fun c o e n h1 h2=>⟨o.slots,k c o (ne c h2).1 (ne c h2).2 e⟩,fun c o e n h2=>n,
  fun c o e h2=>⟨o,k c o (ne c h2).1 (ne c h2).2 e⟩,fun c ys q=>q,fun c o u q=>q,fun c ps q=>⟨#[],by rw[q];simp⟩⟩ (fun c u q=>?_) I.bare fun c hc=>?_
 ·refine(I.zg c u q).Ac (fun d v hd z=>?_) (fun d z=>z) fun d ys z=>z
  have nd:∀ e,H e=none->d ≠ e:=fun e he w=>by
   rcases hd with rfl | hd
   ·rw[w,he]at q;cases q
   ·rw[w,he]at hd;cases hd
  exact k d v (nd a fa.1) (nd b fb.1) z
 ·have HY:c=a∨c=b:=by simpa using hc
  rcases HY with rfl | rfl
  ·obtain⟨_,f1,_,f3,f4,f5⟩:=fa;exact⟨f3,f1,f4,f5⟩
  ·obtain⟨_,f1,_,f3,f4,f5⟩:=fb;exact⟨f3,f1,f4,f5⟩
theorem jY {e it:Addr}{fp:List Addr}{n i:Nat}{P:Nat->Value->Prop}{Sx:Nat->Heap->Prop}{old:Value}{xs:List V}{E:Value->Shared->Prop}{elts:List Expr}{kk:Nat}{pos:Pos}
  (D:Draws X.prog X.w X.A.in1 it fp n P Sx) (I:Inv X pins σ H s) (he:IsEnum s.heap e it i old) (B0:Sx i s.heap) (zL:i < n) (zC:e ≠ it) (Ut:e ∉ fp) (fe:fT X pins H e) (fi:fT X pins H it)
  (hP:∀ v,P i v->∃ x,xs[i]? = some x/\RelV x v) :
  wpAny (model X.prog X.w) X.A (pyNext (.ref e)) (fun r s1=>∃ u,r=some u/\wpAny (model X.prog X.w) X.A (letOwnedTupleGo (.Tuple elts kk pos) (.ref e) u) (fun _ s2=>∃ p x,xs[i]? = some x/\H p=none/\u = .ref p /\
   Inv X pins σ (upd H p (.tup [.int i,x])) s2/\(∃ old,IsEnum s2.heap e it ((i + 1:Nat):Int) old)/\Sx (i + 1) s2.heap/\p ≠ e/\p ≠ it) E s1) E s:=by
 refine wpAny_pyNext_enum_itemD D he B0 zL zC Ut fun x h' tk hx ho Ij hT hsz hk=>⟨_,rfl,?_⟩
 refine wpAny_letOwnedTupleGo_enum ho fun h2 Ek Eg=>?_
 obtain⟨y,hy,ry⟩:=hP x hx
 have Uu:e < s.heap.objs.size:=lt_size he
 have hie:it < s.heap.objs.size:=by obtain⟨_,z⟩:=D.live _ _ B0;exact lt_size z
 have JI:Sx (i + 1) h2:=D.frame _ _ _ Ij fun b hb o z=>(Eg.2 b fun q=>Ut (q ▸ hb)).trans z
 refine⟨s.heap.objs.size,y,hy,I.zg.fresh (Nat.le_refl _),rfl,?_,⟨x,by simpa using Ek⟩,JI,ne_of_gt Uu,ne_of_gt hie⟩
 refine Inv.GQ (s:=s) (h':=h2) (t':=tk + 1) I fe fi (Nat.le_refl _) (fun c o h1 h2' z=>(Eg.2 c h1).trans (hk c o h1 h2' z)) ⟨_,Ek⟩ (let ⟨o,z⟩:=D.live _ _ JI; ⟨o,z⟩) (by show 2 <= sizeLine;decide) (us:=[.int i tk,x]) (.cons ⟨tk,rfl⟩ (.cons ry .nil)) ?_
 exact⟨_,(Eg.2 _ (ne_of_gt Uu)).trans hT,⟨rfl,_,rfl⟩,rfl⟩
end
noncomputable def yW (sq:Hp->List V->Prop):It :=
 ⟨fun i H=>∃ xs x,sq H xs/\xs[i]? = some x,fun i H v H'=>∃ p,H p=none/\v = .ref p/\∀ xs,sq H xs->∃ x,xs[i]? = some x/\H' = upd H p (.tup [.int i,x]),fun i H=>∃ xs,sq H xs/\xs.length=i⟩
theorem nh {P:Program}{w:World}{K:Frag}{elts:List Expr}{kk:Nat}{pos:Pos}(a e it:Addr)(zC:e ≠ it):mX P w K (.Tuple elts kk pos) (yW fun H=>zf K H a) [e,it] e (fun i h=>(∃ old,IsEnum h e it (i:Int) old)/\h.IsListIter it a i) where
 mem:=by simp
 obj:=fun i h st b hb=>by
  obtain⟨⟨old,he⟩,o,ho,c,d⟩:=st
  have zW:b=e∨b=it:=by simpa using hb
  rcases zW with rfl | rfl
  ·exact⟨_,he,fun v z=>by have z':Data.fields _=Data.cell v:=z;cases z'⟩
  ·exact⟨o,ho,fun v z=>by rw[d]at z;cases z⟩
 keep:=fun i h h' st k=>by
  obtain⟨⟨old,he⟩,hi⟩:=st
  exact⟨⟨old,k e (by simp) _ he⟩,hi.at fun o z=>k it (by simp) o z⟩
 item:=by
  intro X hP hw hK hc i pins s σ H E I hf st hg
  subst hP hw hK
  obtain⟨xs,x,hq,hx⟩:=hg
  obtain⟨ze,rv,p,hz⟩:=I.list hq
  obtain⟨⟨old,he⟩,hi⟩:=st
  have hl:i < ze.toArray.size:=by
   have:=(List.getElem?_eq_some_iff.mp hx).1
   have l2:=rv.length
   simp;omega
  have Py:e ≠ a:=by
   rintro rfl
   obtain⟨o,ho,Dh,_⟩:=p.isList
   rw[he]at ho;cases ho
   injection Dh with z;exact absurd z (by decide)
  have GR:a ≠ it:=by
   rintro rfl
   obtain⟨o,ho,Dh,_⟩:=p.isList
   obtain⟨o2,AG,Cd,_⟩:=hi
   rw[ho]at AG;cases AG;rw[Dh]at Cd
   injection Cd with z;exact absurd z (by decide)
  refine aS (jY (xs:=xs) (Draws.list (A:=X.A.in1) (I.ok.hd hc) it a GR ze.toArray) I he ⟨hi,p.isList⟩ hl zC (by simp only[mem_cons,not_mem_nil,or_false,not_or];exact⟨zC,Py⟩) (hf e (by simp)) (hf it (by simp)) fun v hv=>?_) fun r s1 ⟨u,hr,h1⟩=>⟨u,hr,aS h1 fun _ s2 ⟨q,y,hy,Pz,hu,I2,Ek,Eg,n1,n2⟩=>?_⟩
  ·obtain⟨u,hu,ru⟩:=rv.get hx
   have e1:ze[i]? = some v:=by simpa using hv
   rw[hu]at e1;cases e1
   exact⟨x,hx,ru⟩
  ·refine⟨.ref q,_,I2,hu,⟨q,Pz,rfl,fun zs P0=>⟨y,by rw[I.Cc P0 hq];exact hy,rfl⟩⟩,⟨Ek,Eg.1⟩,fun b hb=>?_⟩
   have zW:b=e∨b=it:=by simpa using hb
   rcases zW with rfl | rfl
   ·rw[ae (Ne.symm n1)];exact(hf b (by simp)).1
   ·rw[ae (Ne.symm n2)];exact(hf b (by simp)).1
 done:=by
  intro X hP hw hK hc i pins s σ H E I hf st hg
  subst hP hw hK
  obtain⟨xs,hq,hx⟩:=hg
  obtain⟨ze,rv,p,hz⟩:=I.list hq
  obtain⟨⟨old,he⟩,hi⟩:=st
  have hl:i=ze.toArray.size:=by have l2:=rv.length;simp;omega
  have GR:a ≠ it:=by
   rintro rfl
   obtain⟨o,ho,Dh,_⟩:=p.isList
   obtain⟨o2,AG,Cd,_⟩:=hi
   rw[ho]at AG;cases AG;rw[Dh]at Cd
   injection Cd with z;exact absurd z (by decide)
  refine wpAny_pyNext_enum_endD (Draws.list (A:=X.A.in1) (I.ok.hd hc) it a GR ze.toArray) he (by rw[← hl];exact⟨hi,p.isList⟩) fun h' BW=>⟨rfl,?_⟩
  exact I.CO (t':=s.toks) (hf e (by simp)) (hf it (by simp)) fun c o h1 h2 z=>BW c o h2 z
 self:=fun _ _ _ _ _ st h=>by
  obtain⟨⟨old,he⟩,_⟩:=st
  exact wpAny_pyIter_enum he h
theorem ng {P:Program}{w:World}{K:Frag}{elts:List Expr}{kk:Nat}{pos:Pos}(a e it:Addr)(zC:e ≠ it):mX P w K (.Tuple elts kk pos) (yW fun H=>zh K H a) [e,it] e (fun i h=>(∃ old,IsEnum h e it (i:Int) old)/\h.IsTupleIter it a i) where
 mem:=by simp
 obj:=fun i h st b hb=>by
  obtain⟨⟨old,he⟩,o,ho,c,d⟩:=st
  have zW:b=e∨b=it:=by simpa using hb
  rcases zW with rfl | rfl
  ·exact⟨_,he,fun v z=>by have z':Data.fields _=Data.cell v:=z;cases z'⟩
  ·exact⟨o,ho,fun v z=>by rw[d]at z;cases z⟩
 keep:=fun i h h' st k=>by
  obtain⟨⟨old,he⟩,hi⟩:=st
  exact⟨⟨old,k e (by simp) _ he⟩,hi.at fun o z=>k it (by simp) o z⟩
 item:=by
  intro X hP hw hK hc i pins s σ H E I hf st hg
  subst hP hw hK
  obtain⟨xs,x,hq,hx⟩:=hg
  obtain⟨ze,rv,p,hz⟩:=I.tuple hq
  have pt:s.heap.IsTuple a ze.toArray:=p
  obtain⟨⟨old,he⟩,hi⟩:=st
  have hl:i < ze.toArray.size:=by
   have:=(List.getElem?_eq_some_iff.mp hx).1
   have l2:=rv.length
   simp;omega
  have Py:e ≠ a:=by
   rintro rfl
   obtain⟨o,ho,Dh,_⟩:=pt
   rw[he]at ho;cases ho
   injection Dh with z;exact absurd z (by decide)
  have GR:a ≠ it:=by
   rintro rfl
   obtain⟨o,ho,Dh,_⟩:=pt
   obtain⟨o2,AG,Cd,_⟩:=hi
   rw[ho]at AG;cases AG;rw[Dh]at Cd
   injection Cd with z;exact absurd z (by decide)
  refine aS (jY (xs:=xs) (fU (A:=X.A.in1) (I.ok.hd hc) it a GR ze.toArray) I he ⟨hi,pt⟩ hl zC (by simp only[mem_cons,not_mem_nil,or_false,not_or];exact⟨zC,Py⟩) (hf e (by simp)) (hf it (by simp)) fun v hv=>?_) fun r s1 ⟨u,hr,h1⟩=>⟨u,hr,aS h1 fun _ s2 ⟨q,y,hy,Pz,hu,I2,Ek,Eg,n1,n2⟩=>?_⟩
  ·obtain⟨u,hu,ru⟩:=rv.get hx
   have e1:ze[i]? = some v:=by simpa using hv
   rw[hu]at e1;cases e1
   exact⟨x,hx,ru⟩
  ·refine⟨.ref q,_,I2,hu,⟨q,Pz,rfl,fun zs P0=>⟨y,by rw[I.B6 P0 hq];exact hy,rfl⟩⟩,⟨Ek,Eg.1⟩,fun b hb=>?_⟩
   have zW:b=e∨b=it:=by simpa using hb
   rcases zW with rfl | rfl
   ·rw[ae (Ne.symm n1)];exact(hf b (by simp)).1
   ·rw[ae (Ne.symm n2)];exact(hf b (by simp)).1
 done:=by
  intro X hP hw hK hc i pins s σ H E I hf st hg
  subst hP hw hK
  obtain⟨xs,hq,hx⟩:=hg
  obtain⟨ze,rv,p,hz⟩:=I.tuple hq
  have pt:s.heap.IsTuple a ze.toArray:=p
  obtain⟨⟨old,he⟩,hi⟩:=st
  have hl:i=ze.toArray.size:=by have l2:=rv.length;simp;omega
  have GR:a ≠ it:=by
   rintro rfl
   obtain⟨o,ho,Dh,_⟩:=pt
   obtain⟨o2,AG,Cd,_⟩:=hi
   rw[ho]at AG;cases AG;rw[Dh]at Cd
   injection Cd with z;exact absurd z (by decide)
  refine wpAny_pyNext_enum_endD (fU (A:=X.A.in1) (I.ok.hd hc) it a GR ze.toArray) he (by rw[← hl];exact⟨hi,pt⟩) fun h' BW=>⟨rfl,?_⟩
  exact I.CO (t':=s.toks) (hf e (by simp)) (hf it (by simp)) fun c o h1 h2 z=>BW c o h2 z
 self:=fun _ _ _ _ _ st h=>by
  obtain⟨⟨old,he⟩,_⟩:=st
  exact wpAny_pyIter_enum he h
section
variable {X:Cx}{elts:List Expr}{kk:Nat}{Dd p pos:Pos}{a:Expr}{ta:TE}
noncomputable def P1 (K:Frag)(t:TA):TI:=fun σ H R=>t σ H fun vs H1=>∃ a,vs=[.ref a]/\(∃ xs,zf K H1 a xs)/\R (yW fun H=>zf K H a) H1
noncomputable def P2 (K:Frag)(t:TA):TI:=fun σ H R=>t σ H fun vs H1=>∃ a,vs=[.ref a]/\(∃ xs,zh K H1 a xs)/\R (yW fun H=>zh K H a) H1
theorem lP {t:TA}(hg:Gl X "enumerate")(hm:X.mg "enumerate" = none)(ha:PA X [a] t)(hs:starEach [a] X.env=[(false,eval a X.env)]:=by rfl):PI X (.Tuple elts kk Dd) (.Call (.Name "enumerate" p) [a] [] pos) (P1 X.K t):=by
 intro pins s σ H R I h
 refine Call_ (io I hg hm boot_enumerate (PyProof.Rows.callWith_type1 (aS (ha pos pins s σ H _ I h) fun us s1 ⟨vs,H1,I1,r1,q1⟩=>?_) hs rfl))
 obtain⟨l,e,⟨xs,hq⟩,q⟩:=q1
 subst e
 cases r1 with
 | cons r rr =>
  cases rr
  cases r
  obtain⟨ze,rv,pp,hz⟩:=I1.list hq
  refine call_enumerate_list pp.isList fun h' he hit hsz hk=>?_
  have I2:Inv X pins σ H1 { s1 with heap:=h' }:=I1.kept (t':=s1.toks) hk
  refine wpAny_pyIter_enum (s:={ s1 with heap:=h' }) he ?_
  refine⟨_,_,_,_,H1,rfl,I2,nh l _ s1.heap.objs.size (Nat.succ_ne_self _),⟨⟨_,he⟩,hit⟩,fun b hb=>?_,q⟩
  have zW:b=s1.heap.objs.size + 1∨b=s1.heap.objs.size:=by simpa using hb
  have hle:s1.heap.objs.size <= b:=by
   rcases zW with e | e
   ·rw[e];exact le_succ _
   ·rw[e];exact Nat.le_refl _
  exact I1.CZ hle (I1.zg.fresh hle)
theorem lO {t:TA}(hg:Gl X "enumerate")(hm:X.mg "enumerate" = none)(ha:PA X [a] t)(hs:starEach [a] X.env=[(false,eval a X.env)]:=by rfl):PI X (.Tuple elts kk Dd) (.Call (.Name "enumerate" p) [a] [] pos) (P2 X.K t):=by
 intro pins s σ H R I h
 refine Call_ (io I hg hm boot_enumerate (PyProof.Rows.callWith_type1 (aS (ha pos pins s σ H _ I h) fun us s1 ⟨vs,H1,I1,r1,q1⟩=>?_) hs rfl))
 obtain⟨l,e,⟨xs,hq⟩,q⟩:=q1
 subst e
 cases r1 with
 | cons r rr =>
  cases rr
  cases r
  obtain⟨ze,rv,pp,hz⟩:=I1.tuple hq
  refine dU (show s1.heap.IsTuple l ze.toArray from pp) fun h' he hit hsz hk=>?_
  have I2:Inv X pins σ H1 { s1 with heap:=h' }:=I1.kept (t':=s1.toks) hk
  refine wpAny_pyIter_enum (s:={ s1 with heap:=h' }) he ?_
  refine⟨_,_,_,_,H1,rfl,I2,ng l _ s1.heap.objs.size (Nat.succ_ne_self _),⟨⟨_,he⟩,hit⟩,fun b hb=>?_,q⟩
  have zW:b=s1.heap.objs.size + 1∨b=s1.heap.objs.size:=by simpa using hb
  have hle:s1.heap.objs.size <= b:=by
   rcases zW with e | e
   ·rw[e];exact le_succ _
   ·rw[e];exact Nat.le_refl _
  exact I1.CZ hle (I1.zg.fresh hle)
end
theorem m9 {sq:Hp->List V->Prop}{xs:List V}{g:TG}{tb:TS}{D:jD}{σ:St}{H:Hp}(Pv:Nat->St->Hp->Prop)(h0:Pv 0 σ H)(hl:∀ i σ H,i <= xs.length->Pv i σ H->sq H xs)
  (hs:∀ i x p σ H,xs[i]? = some x->Pv i σ H->H p=none->g (.ref p) σ (upd H p (.tup [.int i,x])) fun σ2 H2=>tb { D with nx:=Pv (i + 1),ct:=Pv (i + 1),bk:=D.nx } σ2 H2) (hd:∀ σ H,Pv xs.length σ H->D.nx σ H) :
  ∃ W:Nat->Nat->St->Hp->Prop,(∃ m,W 0 m σ H)/\∀ i m σ H,W i m σ H ->
   ((yW sq).stop i H/\D.nx σ H)∨((yW sq).go i H/\∃ N:St->Hp->Prop,(∀ σ' H',N σ' H'->∃ m',m' < m/\W (i + 1) m' σ' H')/\∀ x H',(yW sq).Ef i H x H'->g x σ H' fun σ2 H2=>tb { D with nx:=N,ct:=N,bk:=D.nx } σ2 H2):=by
 refine⟨fun i m σ H=>m=xs.length - i/\i <= xs.length/\Pv i σ H,⟨xs.length,by simp,zero_le _,h0⟩,?_⟩
 rintro i m σ H ⟨rfl,hi,p⟩
 have q:=hl i σ H hi p
 by_cases zL:i < xs.length
 ·refine .inr ⟨⟨xs,xs[i],q,by simp[zL]⟩,Pv (i + 1),fun σ' H' p'=>⟨xs.length - (i + 1),by omega,rfl,zL,p'⟩,fun x H' y=>?_⟩
  obtain⟨pp,hn,rfl,hx⟩:=y
  obtain⟨x',BW,e⟩:=hx xs q
  subst e
  exact hs i x' pp σ H BW p hn
 ·have e:i=xs.length:=by omega
  subst e
  exact .inl ⟨⟨xs,q,rfl⟩,hd σ H p⟩
end L2
namespace L2
open PySem PySem.Spec PyProof.Rows
noncomputable def By (d:PyData)(m:Nat):Prop:=d.canLay0=true/\d.depth <= m
theorem By.shaped {d:PyData}{m:Nat}(h:By d m)(hm:m <= 64):SeqAt.shaped d=true:=by
 unfold SeqAt.shaped
 rw[h.1,decide_eq_true (le_trans h.2 hm)];rfl
theorem c5 (i:Int):By (.int i) 0:=⟨by simp[PyData.canLay0],by simp[PyData.depth]⟩
theorem kH {m:Nat}:∀ {ds:List PyData},(∀ d ∈ ds,By d m)->PyData.canLayAll0 ds=true/\PyData.depthAll ds <= m
 | [],_=>⟨by simp[PyData.canLayAll0],by simp[PyData.depthAll]⟩
 | d :: r,h=>by
  obtain⟨a,b⟩:=kH (ds:=r) fun z hz=>h z (mem_cons_of_mem _ hz)
  obtain⟨c,e⟩:=h d mem_cons_self
  exact⟨by simp[PyData.canLayAll0,c,a],by simp only[PyData.depthAll];omega⟩
theorem eM {m:Nat}{ds:List PyData}(h:∀ d ∈ ds,By d m):By (.list ds) (m + 1):=by
 obtain⟨a,b⟩:=kH h
 exact⟨by simp[PyData.canLay0,a],by simp only[PyData.depth];omega⟩
theorem jI {m:Nat}{ds:List PyData}(h:∀ d ∈ ds,By d m):By (.tuple ds) (m + 1):=by
 obtain⟨a,b⟩:=kH h
 exact⟨by simp[PyData.canLay0,a],by simp only[PyData.depth];omega⟩
theorem By.le {d:PyData}{m n:Nat}(h:By d m)(l:m <= n):By d n:=⟨h.1,le_trans h.2 l⟩
end L2
namespace L2
open PySem
theorem mO {n:Nat}{lo:Int}{g:TG}{tt:TT}{te:TE}{σ0:St}{H:Hp}{Q:VK}(p:Nat->Bool)(f:Nat->V)(hn:n < sizeLine)
  (hs:∀ (i:Nat)(acc:List V)(N:List V->Hp->Prop),i < n->N (if p i then acc ++ [f i] else acc) H->g (.int (lo + i)) σ0 H fun σ2 H2=>tt σ2 H2 fun b H3=>if b=true then te σ2 H3 fun y H4=>N (acc ++ [y]) H4 else N acc H3)
  (hq:∀ D,H D=none->Q (.ref D) (upd H D (.lst (((List.range n).filter p).map f)))) :
  dz (w6 lo n) g tt te σ0 Q H:=by
 refine⟨fun i m acc H'=>m=n - i/\i <= n/\H' = H/\acc=((List.range i).filter p).map f,⟨n,by simp,zero_le _,rfl,rfl⟩,?_⟩
 rintro i m acc H' ⟨rfl,hi,rfl,rfl⟩
 have hl:(((List.range i).filter p).map f).length < sizeLine:=by
  rw[length_map]
  have:=length_filter_le p (List.range i)
  rw[length_range]at this
  omega
 refine⟨hl,?_⟩
 by_cases zL:i < n
 ·refine .inr ⟨zL,fun zT H2=>H2=H'/\zT = ((List.range (i + 1)).filter p).map f,fun zT H2 ⟨h1,h2⟩=>⟨n - (i + 1),by omega,rfl,zL,h1,h2⟩,fun x H2 y=>?_⟩
  obtain⟨e,y⟩:=y
  subst e y
  refine hs i _ (fun zT H3=>H3=H2/\zT = ((List.range (i + 1)).filter p).map f) zL ⟨rfl,?_⟩
  rw[range_succ,filter_append]
  cases hp:p i with
  | true=>simp[hp]
  | false=>simp[hp]
 ·have e:i=n:=by omega
  subst e
  exact .inl ⟨Nat.le_refl _,hq⟩
theorem fA {K:Frag}{a:Addr}{xs:List V}{g:TG}{tt:TT}{te:TE}{σ0:St}{H:Hp}{Q:VK}(p:V->Bool)(f:V->V)(hn:xs.length < sizeLine)(ha:zf K H a xs)
  (hs:∀ (x:V)(acc:List V)(N:List V->Hp->Prop),x ∈ xs->N (if p x then acc ++ [f x] else acc) H->g x σ0 H fun σ2 H2=>tt σ2 H2 fun b H3=>if b=true then te σ2 H3 fun y H4=>N (acc ++ [y]) H4 else N acc H3)
  (hq:∀ D,H D=none->Q (.ref D) (upd H D (.lst ((xs.filter p).map f)))) :
  dz (uA K a) g tt te σ0 Q H:=by
 refine⟨fun i m acc H'=>m=xs.length - i/\i <= xs.length/\H' = H/\acc=((xs.take i).filter p).map f,⟨xs.length,by simp,zero_le _,rfl,rfl⟩,?_⟩
 rintro i m acc H' ⟨rfl,hi,rfl,rfl⟩
 have hl:(((xs.take i).filter p).map f).length < sizeLine:=by
  rw[length_map]
  have h1:=length_filter_le p (xs.take i)
  have h2:=length_take_le i xs
  omega
 refine⟨hl,?_⟩
 by_cases zL:i < xs.length
 ·refine .inr ⟨⟨xs,xs[i],ha,by simp[zL]⟩,fun zT H2=>H2=H'/\zT = ((xs.take (i + 1)).filter p).map f,fun zT H2 ⟨h1,h2⟩=>⟨xs.length - (i + 1),by omega,rfl,zL,h1,h2⟩,fun x H2 y=>?_⟩
  obtain⟨e,y⟩:=y
  subst e
  have hx:=y xs ha
  refine hs x _ (fun zT H3=>H3=H2/\zT = ((xs.take (i + 1)).filter p).map f) (mem_of_getElem? hx) ⟨rfl,?_⟩
  rw[take_succ,hx,filter_append]
  cases hp:p x with
  | true=>simp[hp]
  | false=>simp[hp]
 ·have e:i=xs.length:=by omega
  subst e
  rw[take_length]
  exact .inl ⟨⟨xs,ha,Nat.le_refl _⟩,hq⟩
theorem iP (k:Int):∀ ns:List Int,uE (.int k) (ns.map V.int)=decide (k ∈ ns)
 | []=>by simp[uE]
 | n :: r=>by
  have ih:=iP k r
  unfold uE at ih ⊢
  rw[map_cons,any_cons,ih]
  show((n == k) || decide (k ∈ r))=decide (k ∈ n :: r)
  by_cases h:k=n
  ·subst h;simp
  ·have h':¬ n=k:=fun z=>h z.symm
   simp[h,h']
theorem fM:∀ ns:List Int,(ns.map V.int).all gX=true
 | []=>rfl
 | n :: r=>by rw[map_cons,all_cons,fM r];rfl
end L2
namespace L2
open PySem PySem.Spec PyProof.Rows
section
open PySem.W
variable {prog:Program}{w:World}{A:Around}{E:Value->Shared->Prop}{s:Shared}{K:Frag}{x C:Addr}{name:Str}{v:Value}
theorem rS {d:Addr}{vs:Array Value}{mA:Str->Option Value}{ns:List Str}{Q:Unit->Shared->Prop}(X:K.In s.heap)(hx:s.heap.get? x=some ⟨.ref C,some d, .fields vs,#[]⟩)(hn:s.heap.Ns1 d mA)(hw:PySem.Within mA ns)(hl:ns.length < sizeLine)(c:gs K C)(ht:findIn K (.ref C) name=some none)
  (h:∀ h' t',h'.Ns1 d (fun y=>if y=name then some v else mA y)->(∀ b,b ≠ d->h'.get? b=s.heap.get? b)->Q () { s with heap:=h',toks:=t' }) :
  wpAny (model prog w) A (setAttr (.ref x) name v) Q E s:=by
 obtain⟨od,es,ep,D4,hr⟩:=id hn
 have I:PySem.W.InstAt s.heap x ⟨.ref C,some d, .fields vs,#[]⟩ C (some od):=⟨hx,rfl,rfl,D4⟩
 refine PySem.W.set_plain X I c.sa (pj (s:={ s with toks:=s.toks + 1 }) X I c.mro ht fun b=>?_)
 obtain⟨cd,hc,G0⟩:=PySem.W.any_some c.hd
 obtain⟨hp,g,dr,t,os⟩:=s
 dsimp only at X hx h I hn D4 ⊢
 refine wpAny_bind (wpAny_pure (wpAny_bind (wpAny_bind (wpAny_loadPart hx (wpAny_bind (PySem.W.Looks.here (s:=⟨hp,g,dr,t + 1,os⟩) (PySem.W.looks_clsIn X hc) ?_))))))
 rw[G0]
 rw[if_neg (by decide)]
 dsimp only
 refine wpAny_pure ?_
 show wpAny _ _ (Builtin.ObjectAttr.storeInDict d (.str name t) name v) _ _ _
 unfold Builtin.ObjectAttr.storeInDict Builtin.ObjectAttr.newKeyGuard
 refine wpAny_bind (wpAny_pure (wpAny_bind (wpAny_nsSet1 hn fun h' BV hs=>?_)))
 obtain⟨oD,Ub,Uc,Jg,Jh,Ji⟩:=BV.count (Within.cons name v hw)
 refine wpAny_bind (wpAny_lookBehind Jg (by rw[Jh];exact pastItsLine_dict (le_trans Ji (by rw[length_cons];omega))) ?_)
 exact wpAny_pure (h h' _ BV fun b hb=>hs.2 b hb)
end
noncomputable def JK (d:Addr)(fs:List (Str × V)):Heap->Prop:=fun h=>∃ mA,h.Ns1 d mA/\∀ f,zV (fs.lookup f) (mA f)
theorem wV {P:Program}{w:World}{H:Hp}{h:Heap}{d:Addr}{fs:List (Str × V)}(x:JK d fs h):zu P w H h d (.ext (JK d fs)):=by
 refine⟨x,?_,fun h1 h2 ⟨mA,⟨od,es,ep,e,c⟩,r⟩ k=>⟨mA,⟨od,es,ep,k _ e,c⟩,r⟩⟩
 obtain⟨mA,⟨od,es,ep,e,c⟩,r⟩:=x
 exact⟨od,e⟩
noncomputable def xG (K:Frag)(ta tv:TE)(f:Str):TS:=fun D σ H=>tv σ H fun y H1=>ta σ H1 fun x H2=>∃ a C tt,x = .ref a/\H2 a=some (bL a C tt none)/\gs K C/\findIn K (.ref C) f=some none /\
 ∀ d,H2 d=none->D.nx σ (upd (upd H2 d (.ext (JK d [(f,y)]))) a (bL a C tt (some d)))
noncomputable def xF (K:Frag)(ta tv:TE)(f:Str):TS:=fun D σ H=>tv σ H fun y H1=>ta σ H1 fun x H2=>∃ a C tt d fs,x = .ref a/\H2 a=some (bL a C tt (some d))/\H2 d=some (.ext (JK d fs))/\fs.length < 1000/\gs K C/\findIn K (.ref C) f=some none /\
 D.nx σ (upd H2 d (.xd (aL f y fs)))
section
variable {X:Cx}{o e value:Expr}{f:Str}{pos pos':Pos}{ta tv:TE}
theorem sO (ha:PE X o ta)(hv:PE X value tv)(hs:swapsWith value (some (.Attribute o f pos')) pos.line X.env=pure false):PS X (.Assign [.Attribute o f pos'] value pos) (xG X.K ta tv f):=by
 intro pins s σ H D I h
 refine plainObj_wpAny_Assign_Attribute (aS (hv pins s σ H _ I h) fun u s1 ⟨y,H1,I1,ry,q⟩=>aS (ha pins s1 σ H1 _ I1 q) fun ov s2 ⟨x,H2,I2,rx,a,C,tt,ex,ea,c,n,q2⟩=>?_) hs
 subst ex
 obtain rfl:ov=Value.ref a:=rx
 have ho:s2.heap.get? a=some (cY C tt none):=(I2.zg a _ ea).1
 have zL:a < s2.heap.objs.size:=lt_size ho
 refine lD I2.zZ ho c n fun h' t' BW BV hk=>⟨σ,_,?_,q2 s2.heap.objs.size (I2.zg.fresh (Nat.le_refl _))⟩
 obtain⟨od,es,ep,D4,r⟩:=id BV
 have B8:od.isFreed=false:=(Heap.get?_some_iff.mp D4).2
 have Co:(s2.heap.push od).get? s2.heap.objs.size=some od:=Heap.get?_push_size s2.heap B8
 have I3:=I2.laid (a:=s2.heap.objs.size) (o := .ext (JK s2.heap.objs.size [(f,y)])) (h':=s2.heap.push od) (t':=s2.toks) (fun b u z=>Heap.get?_push_of_some _ z) (Nat.le_refl _)
  (wV ⟨_,BV.at (fun o z=>by rw[D4]at z;cases z;exact Co),fun g=>by
   by_cases hg:g=f
   ·have hb:(g == f)=true:=beq_iff_eq.mpr hg
    simp only[List.lookup,hb,if_pos hg]
    exact ry
   ·have hb:(g == f)=false:=beq_eq_false_iff_ne.mpr hg
    simp only[List.lookup,hb,if_neg hg]
    trivial⟩)
 have zC:a ≠ s2.heap.objs.size:=ne_of_lt zL
 refine I3.write (x:=a) (e:=a) (h':=h') (t':=t') (by rw[ae zC,ea];exact True.intro) (.inl rfl) (fun b u hb z=>?_) ⟨_,BW⟩ (j0 BW)
 by_cases JG:b=s2.heap.objs.size
 ·subst JG
  have z':(s2.heap.push od).get? s2.heap.objs.size=some u:=z
  rw[Co]at z'
  cases z'
  exact D4
 ·have z':s2.heap.get? b=some u:=by
   have z0:(s2.heap.push od).get? b=some u:=z
   exact(Heap.get?_push_cases z0).elim (fun w=>absurd w.1 JG) fun w=>w
  exact hk b u hb z'
theorem sN (ha:PE X o ta)(hv:PE X value tv)(hs:swapsWith value (some (.Attribute o f pos')) pos.line X.env=pure false):PS X (.Assign [.Attribute o f pos'] value pos) (xF X.K ta tv f):=by
 intro pins s σ H D I h
 refine plainObj_wpAny_Assign_Attribute (aS (hv pins s σ H _ I h) fun u s1 ⟨y,H1,I1,ry,q⟩=>aS (ha pins s1 σ H1 _ I1 q) fun ov s2 ⟨x,H2,I2,rx,a,C,tt,d,fs,ex,ea,ed,hfl,c,n,q2⟩=>?_) hs
 subst ex
 obtain rfl:ov=Value.ref a:=rx
 have ho:s2.heap.get? a=some (cY C tt (some d)):=(I2.zg a _ ea).1
 obtain⟨⟨mA,hn,hr⟩,_⟩:=I2.zg d _ ed
 have hw:PySem.Within mA (fs.map (·.1)):=fun g hg=>by
  have r:=hr g
  cases hl:fs.lookup g with
  | none=>rw[hl]at r;cases hm:mA g with
   | none=>exact absurd hm hg
   | some z=>rw[hm]at r;exact r.elim
  | some z =>
   have:∀ {l:List (Str × V)},l.lookup g=some z->g ∈ l.map (·.1):=by
    intro l
    induction l with
    | nil=>intro h;cases h
    | cons p l ih =>
     intro h
     rw[map_cons,mem_cons]
     by_cases e:g=p.1
     ·exact .inl e
     ·have hb:(g == p.1)=false:=beq_eq_false_iff_ne.mpr e
      obtain⟨p1,p2⟩:=p
      simp only[List.lookup,hb]at h
      exact .inr (ih h)
   exact this hl
 refine rS I2.zZ ho hn hw (by rw[length_map,sizeLine_eq];omega) c n fun h' t' BV hk=>⟨σ,_,?_,q2⟩
 refine I2.write (x:=d) (e:=d) (h':=h') (t':=t') (by rw[ed];exact True.intro) (.inl rfl) (fun b u hb z=>?_) ?_ ⟨_,BV,fun g=>?_⟩
 ·exact(hk b hb).trans z
 ·obtain⟨od,_,_,D4,_⟩:=BV
  exact⟨od,D4⟩
 ·rw[fq]
  by_cases e:g=f
  ·rw[if_pos e];simp only[if_pos e];exact ry
  ·rw[if_neg e];simp only[if_neg e];exact hr g
end
end L2
namespace L2
open PySem
noncomputable def pF:Option Int->Value->Bool
 | none,v=>v == .none
 | some k,v=>Value.isInt k v
noncomputable def vi:Option Int->Int
 | none=>4238894112
 | some k=>hashInt k
theorem bR {k:Option Int}{v:Value}(h:pF k v=true):(k=none/\v = .none)∨∃ i t,k=some i/\v = .int i t:=by
 cases k with
 | none=>exact .inl ⟨rfl,eq_of_beq h⟩
 | some i=>obtain⟨t,e⟩:=Value.isInt_shape h;exact .inr ⟨i,t,rfl,e⟩
section
variable {prog:Program}{w:World}{A:Around}{E:Value->Shared->Prop}{s:Shared}
theorem qI {Q:Int->Shared->Prop}(h:Q 4238894112 { s with toks:=s.toks + 1 }):wpAny (model prog w) A (pyHash .none) Q E s:=by
 have hT:s.TypeIs .none "NoneType":=rfl
 unfold pyHash
 have hv:[Value.none].any Value.onHeap=false:=rfl
 refine wpAny_bind ?_
 rw[cRoomFor,if_neg (by rw[hv];exact Bool.false_ne_true)];refine wpAny_pure ?_
 refine wpAny_bind (wpAny_specialOf hT F.slot_NoneType_hash.lookup ?_)
 show wpAny _ _ (if (some (Value.builtin "NoneType.__hash__") == some Value.none)=true then _ else _) Q E s
 rw[if_neg (by rw[beq_builtin_none];exact Bool.false_ne_true)]
 refine wpAny_bind (wpAny_specialOf hT F.slot_NoneType_hash.lookup ?_)
 show wpAny _ _ (callSpecialIfBoundUnlessNone? .none "__hash__" _ >>= _) Q E s
 refine wpAny_bind (wpAny_callSpecialIfBoundUnlessNone?_slot hT F.slot_NoneType_hash (wpAny_call_entry F.slot_NoneType_hash hT F.entry_NoneType_hash
  (show wpAny _ _ (do ret (← mkInt 4238894112)) _ _ s from wpAny_ret_mkInt ?_) (F.args_NoneType_hash_1 _)))
 exact wpAny_pure h
theorem yG {a b:Option Int}{u v:Value}{Q:Bool->Shared->Prop}(hu:pF a u=true)(hv:pF b v=true)(h:Q (decide (a=b)) s):wpAny (model prog w) A (PySem.eqBool u v) Q E s:=by
 rcases bR hu with ⟨rfl,rfl⟩ | ⟨i,t,rfl,rfl⟩<;>rcases bR hv with ⟨rfl,rfl⟩ | ⟨j,t',rfl,rfl⟩
 ·unfold eqBool
  refine wpAny_holding ?_
  refine wpAny_ite_split (fun _=>wpAny_bind (wpAny_rule (wpAny_pure (by simpa using h)))) (fun n=>absurd rfl n)
 ·exact PySem.SeqAt.EqAt.none_int j t' prog w E Q (by simpa using h)
 ·exact PySem.SeqAt.EqAt.int_none i t prog w E Q (by simpa using h)
 ·refine wpAny_eqBool_int ?_
  have e:(i == j)=decide (some i=some j):=by
   by_cases q:i=j
   ·simp[q]
   ·simp[q]
  rw[e];exact h
end
noncomputable def fK (prog:Program)(w:World):KeyKind prog w (Option Int) where
 is:=pF
 hash:=vi
 inj:=fun v a b ha hb=>by
  rcases bR ha with ⟨rfl,rfl⟩ | ⟨i,t,rfl,rfl⟩<;>rcases bR hb with ⟨rfl,e⟩ | ⟨j,t',rfl,e⟩
  ·rfl
  ·cases e
  ·cases e
  ·cases e;rfl
 byValue:=fun k v h=>by
  rcases bR h with ⟨_,rfl⟩ | ⟨i,t,_,rfl⟩<;>rfl
 pyHash:=fun {A E s k v Q} hv h=>by
  rcases bR hv with ⟨rfl,rfl⟩ | ⟨i,t,rfl,rfl⟩
  ·exact qI h
  ·exact wpAny_pyHash_int h
 eqBool:=fun hu hv h=>yG hu hv h
 «strs»:=fun k x t v h=>by
  rcases bR h with ⟨_,e⟩ | ⟨i,t,_,e⟩<;>cases e
end L2
namespace L2
open PySem PySem.Spec PyProof.Rows
abbrev gc:=List (Option Int)
noncomputable def qX:Option Int->V
 | none => .zt
 | some i => .int i
abbrev dI:=gc × Addr × V
abbrev j5 (p:dI)(q:gc × Addr × Value):Prop:=p.1=q.1/\p.2.1=q.2.1/\RelV p.2.2 q.2.2
noncomputable def yY (P:Program)(w:World)(a:Addr)(kvs:List dI):Heap->Prop:=fun h=>kvs.length <= sizeLine/\(a == sysModules)=false/\∃ xs,Paired j5 kvs xs /\
 ∃ o es ep,h.get? a=some o/\o.ExactDict/\o.data = .dict es ep/\es.toList=xs.map (entryOfKey (tupleKind (fK P w)))/\(xs.map (·.1)).Nodup
noncomputable def j6 (P:Program)(w:World)(a:Addr)(kvs:List dI):HO := .ext (yY P w a kvs)
noncomputable def zR (P:Program)(w:World)(H:Hp)(a:Addr)(kvs:List dI):Prop:=H a=some (j6 P w a kvs)/\∀ x ∈ kvs,H x.2.1=some (.tup (x.1.map qX))
theorem zR.same {P:Program}{w:World}{H H':Hp}{a:Addr}{kvs:List dI}(h:zR P w H a kvs)(s:za H H'):zR P w H' a kvs:=⟨s _ _ h.1,fun x hx=>s _ _ (h.2 x hx)⟩
noncomputable def ce (kvs:List dI)(k:gc):Option V:=(kvs.find? fun x=>decide (x.1=k)).map (·.2.2)
noncomputable def qg (k:gc)(v:V)(x:dI):dI:=if x.1=k then (x.1,x.2.1,v) else x
noncomputable def eT (kvs:List dI)(k:gc)(b:Addr)(v:V):List dI:=if (ce kvs k).isSome then kvs.map (qg k v) else kvs ++ [(k,b,v)]
theorem iU {k:gc}:ce [] k=none:=rfl
theorem cn {x:dI}{kvs:List dI}{k:gc}:ce (x :: kvs) k=if x.1=k then some x.2.2 else ce kvs k:=by
 unfold ce
 rw[List.find?_cons]
 by_cases h:x.1=k
 ·rw[decide_eq_true h,if_pos h];rfl
 ·rw[decide_eq_false h,if_neg h]
theorem re {kvs:List dI}{k k':gc}{v:V}:ce (kvs.map (qg k v)) k' = if k' = k then (ce kvs k).map (fun _=>v) else ce kvs k':=by
 induction kvs with
 | nil=>rw[map_nil,iU,iU];split<;>rfl
 | cons x kvs ih =>
  rw[map_cons,cn,ih,cn,cn]
  unfold qg
  by_cases h:x.1=k<;>by_cases h':k' = k
  ·have:x.1=k':=h.trans h'.symm
   simp[h,h']
  ·have:¬ x.1=k':=fun z=>h' (z.symm.trans h)
   rw[if_pos h,if_neg h',if_neg this,if_neg this,if_neg h']
  ·subst h'
   simp[h]
  ·simp[h,h']
theorem l7 {kvs:List dI}{k k':gc}{b:Addr}{v:V}(h:ce kvs k=none):ce (kvs ++ [(k,b,v)]) k' = if k' = k then some v else ce kvs k':=by
 induction kvs with
 | nil =>
  rw[nil_append,cn,iU]
  by_cases e:k' = k
  ·rw[if_pos e,if_pos e.symm]
  ·rw[if_neg e,if_neg (Ne.symm e)]
 | cons x kvs ih =>
  rw[cn]at h
  by_cases hx:x.1=k
  ·rw[if_pos hx]at h;cases h
  ·rw[if_neg hx]at h
   rw[List.cons_append,cn,ih h,cn]
   by_cases e:k' = k
   ·subst e;rw[if_neg hx,if_pos rfl,if_pos rfl]
   ·rw[if_neg e,if_neg e]
theorem gE {kvs:List dI}{k k':gc}{b:Addr}{v:V}:ce (eT kvs k b v) k' = if k' = k then some v else ce kvs k':=by
 unfold eT
 cases h:ce kvs k with
 | none=>rw[if_neg (by simp)];exact l7 h
 | some u =>
  rw[if_pos (by simp),re,h];rfl
theorem eR {kvs:List dI}{k:gc}{b:Addr}{v:V}:(eT kvs k b v).length <= kvs.length + 1:=by
 unfold eT
 split
 ·rw[length_map];omega
 ·rw[length_append];exact Nat.le_refl _
theorem jJ {kvs:List dI}{k:gc}{b:Addr}{v:V}{F:gc->Addr->Prop}(h:∀ x ∈ kvs,F x.1 x.2.1)(hk:F k b):∀ x ∈ eT kvs k b v,F x.1 x.2.1:=by
 intro x hx
 unfold eT at hx
 split at hx
 ·obtain⟨y,hy,rfl⟩:=mem_map.mp hx
  unfold qg
  split
  ·exact h y hy
  ·exact h y hy
 ·rcases mem_append.mp hx with q | q
  ·exact h x q
  ·rw[mem_singleton.mp q];exact hk
theorem ll {kvs:List dI}{xs:List (gc × Addr × Value)}(r:Paired j5 kvs xs)(k:gc):zV (ce kvs k) ((atKey xs k).map (·.2)):=by
 induction r with
 | nil=>exact True.intro
 | @cons p q _ _ h1 _ ih =>
  rw[cn]
  unfold atKey at ih ⊢
  rw[List.find?_cons]
  by_cases e:p.1=k
  ·rw[if_pos e,decide_eq_true (h1.1.symm.trans e)];exact h1.2.2
  ·rw[if_neg e,decide_eq_false (fun z=>e (h1.1.trans z))];exact ih
theorem iy {o:Option V}{u:Option Value}(r:zV o u):o.isSome=u.isSome:=by
 cases o<;>cases u<;>first | rfl | exact r.elim
theorem qf {o:Option V}{u:Option Value}{d:V}{r:Value}(h:zV o u)(hd:RelV d r):RelV (o.getD d) (u.getD r):=by
 cases o<;>cases u<;>first | exact hd | exact h | exact h.elim
theorem we {kvs:List dI}{xs:List (gc × Addr × Value)}{k:gc}{v:V}{u:Value}(r:Paired j5 kvs xs)(hv:RelV v u):Paired j5 (kvs.map (qg k v)) (xs.map (putAt k u)):=by
 induction r with
 | nil=>exact .nil
 | @cons p q _ _ h1 _ ih =>
  refine .cons ?_ ih
  unfold qg putAt
  by_cases e:p.1=k
  ·rw[if_pos e,if_pos (h1.1.symm.trans e)];exact⟨h1.1,h1.2.1,hv⟩
  ·rw[if_neg e,if_neg (fun z=>e (h1.1.trans z))];exact h1
theorem uh {kvs:List dI}{xs:List (gc × Addr × Value)}{p:dI}{q:gc × Addr × Value}(r:Paired j5 kvs xs)(h:j5 p q):Paired j5 (kvs ++ [p]) (xs ++ [q]):=by
 induction r with
 | nil=>exact .cons h .nil
 | cons h1 _ ih=>exact .cons h1 ih
theorem wd {kvs:List dI}{xs:List (gc × Addr × Value)}{k:gc}{b:Addr}{v:V}{u:Value}(r:Paired j5 kvs xs)(hv:RelV v u):Paired j5 (eT kvs k b v) (storedH xs k b u):=by
 have h:=iy (ll r k)
 rw[Option.isSome_map]at h
 unfold eT storedH
 rw[h]
 split
 ·exact we r hv
 ·exact uh r ⟨rfl,rfl,hv⟩
section
variable {P:Program}{w:World}{H:Hp}{h:Heap}{a b:Addr}{kvs:List dI}{k:gc}
theorem ie:∀ {k:gc}{us:List Value},Vals (k.map qX) us->ItemsAre (fK P w) k us
 | [],_, .nil => .nil
 | none :: _,_, .cons r t => .cons (by have e:_=Value.none:=r;subst e;rfl) (ie t)
 | some i :: _,_, .cons r t => .cons (by obtain⟨tk,e⟩:=(show ∃ t,_=Value.int i t from r);subst e;exact beq_self_eq_true i) (ie t)
theorem iK (ok:Ab P w H h)(e:H b=some (.tup (k.map qX))):(tupleKind (fK P w)).is h k b:=by
 obtain⟨_,ze,r,o,ho,⟨hc,n,hd⟩,_⟩:=ok _ _ e
 exact⟨o,ze.toArray,n,ho,hc,hd,ie r⟩
theorem iQ (ok:Ab P w H h)(e:zR P w H a kvs):kvs.length <= sizeLine/\(a == sysModules)=false/\∃ xs,Paired j5 kvs xs/\h.DictOfH (tupleKind (fK P w)) a xs:=by
 obtain⟨e,ek⟩:=e
 obtain⟨⟨z,hs,xs,r,o,es,ep,h1,h2,h3,h4,h5⟩,_⟩:=ok _ _ e
 refine⟨z,hs,xs,r,o,es,ep,h1,h2,h3,h4,?_,h5⟩
 have all:∀ {kvs:List dI}{xs:List (gc × Addr × Value)},Paired j5 kvs xs->(∀ x ∈ kvs,H x.2.1=some (.tup (x.1.map qX)))->∀ x ∈ xs,(tupleKind (fK P w)).is h x.1 x.2.1:=by
  intro kvs xs r
  induction r with
  | nil=>intro _ x hx;cases hx
  | @cons p q _ _ h1 _ ih =>
   intro hk x hx
   rcases mem_cons.mp hx with rfl | hx
   ·have:=hk p mem_cons_self
    rw[h1.1,h1.2.1]at this
    exact iK ok this
   ·exact ih (fun y hy=>hk y (mem_cons_of_mem _ hy)) x hx
 exact all r ek
theorem ke (h1 h2:Heap)(p:yY P w a kvs h1)(st:∀ o,h1.get? a=some o->h2.get? a=some o):yY P w a kvs h2:=by
 obtain⟨z,hs,xs,r,o,es,ep,q,c⟩:=p
 exact⟨z,hs,xs,r,o,es,ep,st _ q,c⟩
theorem um (hb:sysModules < h.objs.size):zu P w H (h.push { cls := .type "dict",data := .dict #[] }) h.objs.size (j6 P w h.objs.size []) :=
 ⟨⟨zero_le _,beq_eq_false_iff_ne.mpr (Ne.symm (ne_of_lt hb)),[], .nil,_,#[],0,Heap.get?_push_size _ rfl,⟨rfl,rfl,rfl⟩,rfl,rfl,nodup_nil⟩,⟨_,Heap.get?_push_size _ rfl⟩,fun _ _=>ke _ _⟩
end
noncomputable def wu (P:Program)(w:World)(H:Hp)(a:Addr)(y:V)(r:Option V):Prop:=∃ kvs k b,zR P w H a kvs/\y = .ref b/\H b=some (.tup (k.map qX))/\r=ce kvs k
section
variable {X:Cx}{pins:List (Addr × Obj)}{σ:St}{H:Hp}{s:Shared}{a b:Addr}{y v d:V}{u r:Value}{o:Option V}{A:Around}{E:Value->Shared->Prop}
theorem yP (I:Inv X pins σ H s):sysModules < s.heap.objs.size :=
 lt_trans (by decide) (show mainGlobals < s.heap.objs.size from (I.mod.glob.keeps I.bk).lt)
theorem P4 {Q:Value->Shared->Prop}(hu:A.units + 1 < cLine)(I:Inv X pins σ H s)(g:wu X.prog X.w H a y o)(ry:RelV y u)(h:∀ s',Inv X pins σ H s'->Q (.bool o.isSome) s') :
  wpAny (model X.prog X.w) A (compareOp .In u (.ref a)) Q E s:=by
 obtain⟨kvs,k,b,e,rfl,eb,rfl⟩:=g
 cases (show u=Value.ref b from ry)
 obtain⟨_,hd,xs,rel,dd⟩:=iQ I.zg e
 refine wpAny_in_heap (tupleKind_room_in1 hu) (iK I.zg eb) hd dd ?_
 have q:=iy (ll rel k)
 rw[Option.isSome_map]at q
 rw[← q]
 exact h _ (I.tok _)
theorem yr {Q:Value->Shared->Prop}(hu:A.units + 1 < cLine)(I:Inv X pins σ H s)(g:wu X.prog X.w H a y o)(ry:RelV y u)(rd:RelV d r)(h:∀ w' s',Inv X pins σ H s'->RelV (o.getD d) w'->Q w' s') :
  wpAny (model X.prog X.w) A (call (.builtin "dict.get") [.ref a,u,r]) Q E s:=by
 obtain⟨kvs,k,b,e,rfl,eb,rfl⟩:=g
 cases (show u=Value.ref b from ry)
 obtain⟨_,hd,xs,rel,dd⟩:=iQ I.zg e
 exact call_meetsIn slot_dict_get dd.typeIs entry_dict_get (PySem.F.args_dict_get_3 _ _ _) (meetsH_dict_get_default (tupleKind (fK X.prog X.w)) a b hd r)
  ⟨tupleKind_room_in1 hu,k,xs,iK I.zg eb,dd,h _ _ (I.tok _) (qf (ll rel k) rd)⟩
theorem JL {kvs:List dI}{k:gc}{Q:Unit->Shared->Prop}(hu:A.units + 1 < cLine)(I:Inv X pins σ H s)(e:zR X.prog X.w H a kvs)(eb:H b=some (.tup (k.map qX)))(hl:kvs.length < sizeLine)(rv:RelV v r)
  (h:∀ s',Inv X pins σ (upd H a (j6 X.prog X.w a (eT kvs k b v))) s'->Q () s'):wpAny (model X.prog X.w) A (setItem (.ref a) (.ref b) r) Q E s:=by
 obtain⟨z,hd,xs,rel,dd⟩:=iQ I.zg e
 have hz:xs.length <= sizeLine:=by rw[← Paired.length rel];exact z
 have Bh:(eT kvs k b v).length <= sizeLine:=le_trans eR hl
 refine wpAny_setItem_heap (hsz:=hz) (tupleKind_room_in1 hu) (iK I.zg eb) dd fun h' ED hs=>h _ ?_
 obtain⟨q,es,ep,hq,h2,h3,h4,_,h5⟩:=ED
 exact I.write (x:=a) (e:=a) (by rw[e.1];exact True.intro) (.inl rfl) (fun c q hc z=>(hs.2 c hc).trans z) ⟨q,hq⟩
  ⟨⟨Bh,hd,_,wd rel rv,q,es,ep,hq,h2,h3,h4,h5⟩,⟨q,hq⟩,fun _ _=>ke _ _⟩
theorem qM {kvs:List dI}(I:Inv X pins σ H s)(e:zR X.prog X.w H a kvs):s.TypeIs (.ref a) "dict"/\∀ b,Value.ref a = .ref b->∃ ob,s.heap.get? b=some ob/\ob.dict=none:=by
 obtain⟨_,_,xs,_,dd⟩:=iQ I.zg e
 refine⟨dd.typeIs,fun b q=>?_⟩
 cases q
 obtain⟨ob,_,_,h1,h2,_⟩:=dd
 exact⟨ob,h1,h2.2.1⟩
end
noncomputable def rj (P:Program)(w:World):TE:=fun _ H Q=>∀ p,H p=none->Q (.ref p) (upd H p (j6 P w p []))
noncomputable def P5 (P:Program)(w:World)(ty td:TE):TE:=fun σ H Q=>ty σ H fun y H1=>td σ H1 fun x H2=>∃ a o,x = .ref a/\wu P w H2 a y o/\Q (.bl o.isSome) H2
noncomputable def JM (P:Program)(w:World)(td ty tv:TE):TS:=fun D σ H=>tv σ H fun v H1=>td σ H1 fun x H2=>ty σ H2 fun y H3=>∃ a kvs k b,x = .ref a/\zR P w H3 a kvs/\y = .ref b/\H3 b=some (.tup (k.map qX))/\kvs.length < sizeLine/\D.nx σ (upd H3 a (j6 P w a (eT kvs k b v)))
noncomputable def xg (P:Program)(w:World)(td:TE)(t:TA):TE:=fun σ H Q=>td σ H fun x H1=>∃ a kvs,x = .ref a/\zR P w H1 a kvs/\t σ H1 fun xs H2=>∃ y z o,xs=[y,z]/\wu P w H2 a y o/\Q (o.getD z) H2
section
variable {X:Cx}{o i e f value:Expr}{pos pos' apos zP:Pos}{td ty tv tx:TE}
theorem pe:PE X (.Dict [] [] pos) (rj X.prog X.w):=fun pins s σ H Q I h =>
 wpAny_Dict_empty ⟨.ref s.heap.objs.size,_,I.laid (a:=s.heap.objs.size) (o:=j6 X.prog X.w s.heap.objs.size []) (t':=s.toks) (fun _ _ q=>Heap.get?_push_of_some _ q) (Nat.le_refl _) (um (yP I)),rfl,h _ (I.zg.fresh (Nat.le_refl _))⟩
theorem xN (hu:X.A.units + 1 < cLine)(hi:PE X i ty)(ho:PE X o td):PC X .In i o (P5 X.prog X.w ty td):=by
 intro pins s σ H Q I h
 refine aS (hi pins s σ H _ I h) fun iv s1 ⟨y,H1,I1,ry,q1⟩=>aS (ho pins s1 σ H1 _ I1 q1) fun u s2 ⟨x,H2,I2,rx,a,ov,ex,g,q2⟩=>?_
 subst ex
 obtain rfl:u=Value.ref a:=rx
 exact P4 hu I2 g ry fun s3 I3=>⟨.bl ov.isSome,H2,I3,rfl,q2⟩
theorem pc (hu:X.A.units + 1 < cLine)(ho:PE X o td)(hi:PE X i ty)(hv:PE X value tv)(hs:swapsWith value (some (.Subscript o i pos')) pos.line X.env=pure false) :
  PS X (.Assign [.Subscript o i pos'] value pos) (JM X.prog X.w td ty tv):=by
 intro pins s σ H D I h
 refine wpAny_Assign_Subscript (aS (hv pins s σ H _ I h) fun r s1 ⟨v,H1,I1,rv,q1⟩=>aS (ho pins s1 σ H1 _ I1 q1) fun u s2 ⟨x,H2,I2,rx,q2⟩=>aS (hi pins s2 σ H2 _ I2 q2) fun iv s3 ⟨y,H3,I3,ry,a,kvs,k,b,ex,e,ey,eb,hl,q3⟩=>?_) hs
 subst ex ey
 obtain rfl:u=Value.ref a:=rx
 obtain rfl:iv=Value.ref b:=ry
 exact JL hu I3 e eb hl rv fun s4 I4=>⟨σ,_,I4,q3⟩
theorem lQ {es:List Expr}{t:TA}(hu:X.A.units + 1 < cLine)(ho:PE X o td)(ha:PA X (e :: es) t)
  (h1:attributeBase o "get" X.env (eval o X.env)=eval o X.env:=by rfl)
  (h2:((backTo zP (starEach (e :: es) X.env)).all (fun x=>!x.1) && (backToKw zP (keywordEach [] X.env)).all (fun x=>x.1.isSome) && decide ((e :: es).length + ([]:List Keyword).length + (if ([]:List Keyword).isEmpty then 0 else 1) < 30))=true:=by rfl)
  (h3:(apos.endLine == zP.line)=true:=by rfl) (h4:starEach (e :: es) X.env=(false,eval e X.env) :: starEach es X.env:=by rfl) (h5:(backTo zP (starEach es X.env)).any (·.1)=false:=by rfl) :
  PE X (.Call (.Attribute o "get" apos) (e :: es) [] zP) (xg X.prog X.w td t):=by
 intro pins s σ H Q I h
 refine wpAny_Call_method_late h1 h2 h3 rfl (aS (ho pins s σ H _ I h) fun v s1 ⟨x,H1,I1,r1,a,kvs,ex,e1,q1⟩=>?_)
 subst ex
 obtain rfl:v=Value.ref a:=r1
 obtain⟨t1,t2⟩:=qM I1 e1
 refine⟨"dict", "dict.get",PySem.F.plainAttrs_dict,slot_dict_get,PySem.F.type_dict_get,t1,t2,?_⟩
 have hA:=ha zP pins s1 σ H1 _ I1 q1
 rw[h4]at hA ⊢
 refine Calls.callWith_builtin (by show(false || (backTo zP (starEach es X.env)).any (·.1))=false;rw[h5]<;>rfl) (Calls.evalArgs_plain ?_)
 refine aS hA fun us s2 ⟨vs,H2,I2,r2,y,z,ov,evs,g,q2⟩=>?_
 subst evs
 cases r2 with
 | cons ry r2=>cases r2 with
  | cons rz r2=>cases r2 with
   | nil=>exact yr hu I2 g ry rz fun w' s4 I4 Ce=>⟨_,H2,I4,Ce,q2⟩
end
end L2
namespace L2
open PySem PySem.Spec PyProof.Rows
structure uC (K:Frag)(C:Addr)(m:Str)(f:Addr):Prop where
 reads:PySem.W.readsIn K C (.type "type")=true
 found:PySem.W.findCls K (.ref C) (.type "type") m=some (.val (.ref f))
 spec:PySem.W.specialIn K (.ref C) "__getattribute__" = some (some (.builtin "type.__getattribute__"))
 kp:keepIn K (.ref f)=true
noncomputable def xj (C:Addr)(sp:Sp)(Ai:List V)(E:XK)(ta:TE)(t:TA):TE:=fun σ H Q=>ta σ H fun x H1=>x = .ref C/\t σ H1 fun vs H2=>sp (vs ++ Ai) H2 Q E
section
variable {X:Cx}{CX:oF}{k:Nat}{f C:Addr}{fd:FuncData}{ps:List Str}{sp:Sp}{Ai:List V}{ds:List Value}{E:XK}{x m:Str}{p pos apos:Pos}{e o:Expr}{es:List Expr}{ta:TE}{t:TA}
theorem lR {pl:Sem Bool}(he:PE X o ta)(hm:uC X.K C m f)(F:zb X.prog X.w X.K X.mg X.base CX k f fd ps sp)(hr:zm k X.A)(hb:Binds X.K fd ps ds)(hd:Vals Ai ds)(hx:dH CX X E)(ha:PA X (e :: es) t)
  (h1:starEach (e :: es) X.env=(false,eval e X.env) :: starEach es X.env:=by rfl) (h2:(backTo pos (starEach es X.env)).any (·.1)=false:=by rfl)
  (ht:eval (.Call (.Attribute o m apos) (e :: es) [] pos) X.env=(do
   let ov ← eval o X.env
   standAt apos.atName
   let (f,first) ← holding [ov] (getMethod ov m pl)
   callWith pos f first (backTo pos (starEach (e :: es) X.env)) (backToKw pos (keywordEach [] X.env))):=by rfl) :
  PE X (.Call (.Attribute o m apos) (e :: es) [] pos) (xj C sp Ai E ta t):=by
 intro pins s σ H Q I h
 refine PySem.W.methodCall_KW (pl:=pl) (aS (he pins s σ H _ I h) fun u s1 ⟨x,H1,I1,rx,ex,q⟩=>?_) ht
 subst ex
 obtain rfl:u=Value.ref C:=rx
 refine PySem.W.method_cls I1.zZ hm.spec (PySem.W.cls_value I1.zZ hm.reads hm.found rfl ?_)
 refine PySem.W.callWith_K (first:=[]) (h₀:=X.base) I.ok.mod.Dv hm.kp (aS (ha pos pins _ σ H1 _ (I1.tok _) q) fun us s2 ⟨vs,H2,I2,r,q2⟩=>⟨I2.zZ,?_⟩) h1 h2
 exact kK F hr hb hd hx I2 r q2
end
section
variable {X:Cx}
end
end L2
namespace L2
open PySem PySem.Spec PyProof.Rows
section
variable {X:Cx}{tg:Expr}
noncomputable def P6:V->List V->Hp->VK->Prop:=fun x vs H Q=>∃ (l:Addr)(ns:List Int)(k:Int),x = .ref l/\vs=[.int k]/\H l=some (.lst (ns.map V.int))/\k ∈ ns/\ns.length <= 100000/\Q (.int (ns.idxOf k:Nat)) H
theorem qz:Nc X "list.index" P6:=by
 intro pins s σ H x vs v us Q I rx rv h
 obtain⟨l,ns,k,rfl,rfl,hH,hk,hlen,q⟩:=h
 cases rx
 obtain⟨u,rfl,ru⟩:=rv.one
 obtain⟨t,rfl⟩:=ru
 obtain⟨z,ze,n,r,hl,e⟩:=I.Cg hH
 have hi:IntsAre ze.toArray.toList ns:=oq r
 have Cp:ze.length=ns.length:=by rw[← r.length,length_map]
 have hj:ns.idxOf k < ns.length:=List.idxOf_lt_length_of_mem hk
 have at_:∀ m (hm:m < ze.toArray.size),∃ t,ze.toArray[m]=Value.int (ns[m]'(by simpa [Cp] using hm)) t:=fun m hm=>by
  have Fw:m < ze.length:=by simpa using hm
  have hv:(ns.map V.int)[m]? = some (V.int (ns[m]'(by omega))):=by simp[show m < ns.length by omega]
  obtain⟨w',hw,Ce⟩:=r.get hv
  obtain⟨t',rfl⟩:=Ce
  refine⟨t',?_⟩
  have:ze[m]? = some ze[m]:=List.getElem?_eq_getElem Fw
  rw[this]at hw
  simpa using Option.some.inj hw
 let e':Value->Bool:=fun y=>Value.isInt k y
 refine call_meets PySem.F.slot_list_index ⟨_,e,rfl⟩ PySem.F.entry_list_index (PySem.F.args_list_index_2 _ _)
  (SeqAt.list_indexAt l ze.toArray n none #[] (.int k t) e' (ns.idxOf k) (by simpa [Cp] using hj) (by omega) ?_ ?_) ⟨e,fun y hy=>?_,?_⟩
 ·obtain⟨t',et⟩:=at_ (ns.idxOf k) (by simpa [Cp] using hj)
  show Value.isInt k (ze.toArray[ns.idxOf k]'(by simpa [Cp] using hj))=true
  rw[et,List.getElem_idxOf]
  simp[Value.isInt]
 ·intro m hm hmj
  obtain⟨t',et⟩:=at_ m hm
  show Value.isInt k ze.toArray[m]=false
  rw[et]
  have zC:ns[m]'(by simpa [Cp] using hm) ≠ k:=fun z=>by
   have:=List.not_of_lt_findIdx (p:=fun x=>x == k) (xs:=ns) (i:=m) hmj
   rw[z]at this
   simp at this
  simp only[Value.isInt,beq_eq_false_iff_ne,ne_eq]
  first | exact zC | exact fun z=>zC z.symm
 ·have hm:y ∈ ze:=by simpa using hy
  obtain⟨m,Fw,em⟩:=List.getElem_of_mem hm
  obtain⟨t',et⟩:=at_ m (by simpa using Fw)
  have ey:y=Value.int (ns[m]'(by omega)) t':=by rw[← em];simpa using et
  subst ey
  intro prog w E Q' hQ'
  refine wpAny_eqBool_int ?_
  have:(ns[m]'(by omega) == k)=Value.isInt k (Value.int (ns[m]'(by omega)) t'):=by simp[Value.isInt,Bool.beq_comm]
  rw[this]
  exact hQ'
 ·exact⟨.int (ns.idxOf k:Nat),H,I.tok _,⟨_,rfl⟩,q⟩
noncomputable def JN (K:Frag):List V->Hp->VK->Prop:=fun xs H Q=>∃ (v:V)(t:Value)(c:String)(b:Bool),xs=[v, .ty c]/\iu K H v t/\kitOne K t (.type c)=some b/\Q (.bl b) H
theorem gY:fD X (.builtin "isinstance") (JN X.K):=by
 intro pins s σ H xs us Q I r h
 obtain⟨v,t,c,b,rfl,ty,hk,q⟩:=h
 cases r with
 | cons r1 r2=>cases r2 with
  | cons r2 r3 =>
   cases r3
   cases r2
   exact qF I r1 ty hk fun tk=>⟨.bl b,H,I.tok _,rfl,q⟩
end
end L2
namespace L2
open PySem PySem.Spec PyProof.Rows
section
variable {κ:Type} [DecidableEq κ]
noncomputable def gB (kvs:List (κ × V))(k:κ):Option V:=(kvs.find? fun kv=>decide (kv.1=k)).map (·.2)
noncomputable def c7 (kvs:List (κ × V))(k:κ)(v:V):List (κ × V) :=
 if (kvs.any fun kv=>decide (kv.1=k))=true then kvs.map (fun kv=>if kv.1=k then (kv.1,v) else kv) else kvs ++ [(k,v)]
theorem iR {p:κ × V}{r:List (κ × V)}{k:κ}(e:p.1=k):gB (p :: r) k=some p.2:=by simp[gB,List.find?_cons,e]
theorem iS {p:κ × V}{r:List (κ × V)}{k:κ}(e:¬ p.1=k):gB (p :: r) k=gB r k:=by simp[gB,List.find?_cons,e]
theorem iT (k:κ):∀ kvs:List (κ × V),(kvs.any fun kv=>decide (kv.1=k))=(gB kvs k).isSome
 | []=>rfl
 | p :: r=>by
  rw[any_cons]
  by_cases e:p.1=k
  ·simp only[iR e,decide_eq_true e,Bool.true_or,Option.isSome_some]
  ·rw[iS e,decide_eq_false e,Bool.false_or];exact iT k r
theorem fu (kvs:List (κ × V))(k:κ)(v:V):(c7 kvs k v).length <= kvs.length + 1:=by
 unfold c7
 split
 ·rw[length_map];omega
 ·rw[length_append,length_cons,length_nil];omega
theorem sL {kvs:List (κ × V)}{k:κ}(v:V)(h:gB kvs k=none):c7 kvs k v=kvs ++ [(k,v)]:=by
 unfold c7
 rw[iT,h]
 exact if_neg (by decide)
theorem zV.AW {o:Option V}{u:Option Value}(r:zV o u):o.isSome=u.isSome:=by
 cases o with
 | none=>cases u with
  | none=>rfl
  | some _=>exact(show False from r).elim
 | some _=>cases u with
  | none=>exact(show False from r).elim
  | some _=>rfl
theorem zV.getD {o:Option V}{u:Option Value}{d:V}{d':Value}(r:zV o u)(rd:RelV d d'):RelV (o.getD d) (u.getD d'):=by
 cases o with
 | none=>cases u with
  | none=>exact rd
  | some _=>exact(show False from r).elim
 | some _=>cases u with
  | none=>exact(show False from r).elim
  | some _=>exact r
theorem KV.val {kvs:List (κ × V)}{vs:List (κ × Value)}(r:KV kvs vs)(k:κ):zV (gB kvs k) (valueAt vs k):=by
 unfold KV at r
 induction r with
 | nil=>exact True.intro
 | @cons p q ps qs h t ih =>
  obtain⟨h1,h2⟩:=h
  by_cases e:p.1=k
  ·have e':q.1=k:=h1.symm.trans e
   have b:valueAt (q :: qs) k=some q.2:=by simp[valueAt,List.find?_cons,e']
   rw[iR e,b];exact h2
  ·have e':¬ q.1=k:=fun z=>e (h1.trans z)
   have b:valueAt (q :: qs) k=valueAt qs k:=by simp[valueAt,List.find?_cons,e']
   rw[iS e,b];exact ih
theorem KV.any {kvs:List (κ × V)}{vs:List (κ × Value)}(r:KV kvs vs)(k:κ):(kvs.any fun kv=>decide (kv.1=k))=vs.any fun kv=>decide (kv.1=k):=by
 unfold KV at r
 induction r with
 | nil=>rfl
 | cons h t ih=>rw[any_cons,any_cons,ih,h.1]
theorem KV.GS {kvs:List (κ × V)}{vs:List (κ × Value)}(r:KV kvs vs)(k:κ){y:V}{u:Value}(ry:RelV y u) :
  KV (kvs.map fun kv=>if kv.1=k then (kv.1,y) else kv) (vs.map fun kv=>if kv.1=k then (kv.1,u) else kv):=by
 unfold KV at r ⊢
 induction r with
 | nil=>exact .nil
 | @cons p q ps qs h t ih =>
  rw[map_cons,map_cons]
  refine .cons ?_ ih
  obtain⟨h1,h2⟩:=h
  by_cases e:p.1=k
  ·rw[if_pos e,if_pos (h1.symm.trans e)];exact⟨h1,ry⟩
  ·rw[if_neg e,if_neg (fun z=>e (h1.trans z))];exact⟨h1,h2⟩
theorem KV.put {kvs:List (κ × V)}{vs:List (κ × Value)}(r:KV kvs vs)(k:κ){y:V}{u:Value}(ry:RelV y u):KV (c7 kvs k y) (stored vs k u):=by
 unfold c7 stored
 rw[r.any k]
 by_cases e:(vs.any fun kv=>decide (kv.1=k))=true
 ·rw[if_pos e,if_pos e];exact r.GS k ry
 ·rw[if_neg e,if_neg e];exact Paired.snoc r ⟨rfl,ry⟩
theorem KV.keys {kvs:List (κ × V)}{vs:List (κ × Value)}(r:KV kvs vs):kvs.map (·.1)=vs.map (·.1):=by
 unfold KV at r
 induction r with
 | nil=>rfl
 | cons h t ih=>rw[map_cons,map_cons,ih,h.1]
theorem KV.length {kvs:List (κ × V)}{vs:List (κ × Value)}(r:KV kvs vs):kvs.length=vs.length:=Paired.length r
end
theorem jT {P:Program}{w:World}{k:cb}{u:Value}(r:RelV (kV k) u):(aT P w).is k u=true:=by
 cases k with
 | inl i=>obtain⟨t,e⟩:=(show ∃ t,u=Value.int i t from r);subst e;exact lZ P w i t
 | inr x=>obtain⟨t,e⟩:=(show ∃ t,u=Value.str x t from r);subst e;exact lY P w x t
theorem jU {P:Program}{w:World}:∀ {ks:List cb}{us:List Value},Vals (ks.map kV) us->ItemsAre (aT P w) ks us
 | [],_,r=>by rw[map_nil]at r;cases r;exact .nil
 | k :: ks,_,r=>by
  rw[map_cons]at r
  cases r with
  | cons h t=>exact .cons (jT h) (jU t)
abbrev KT (H:Hp):List (List cb × V)->List (List cb × Addr × Value)->Prop:=Paired fun p q=>p.1=q.1/\H q.2.1=some (.tup (p.1.map kV))/\RelV p.2 q.2.2
theorem KT.val {H:Hp}{kvs:List (List cb × V)}{xs:List (List cb × Addr × Value)}(r:KT H kvs xs)(k:List cb):zV (gB kvs k) ((atKey xs k).map (·.2)):=by
 induction r with
 | nil=>exact True.intro
 | @cons p q ps qs h t ih =>
  obtain⟨h1,_,h2⟩:=h
  by_cases e:p.1=k
  ·have e':q.1=k:=h1.symm.trans e
   have b:atKey (q :: qs) k=some q.2:=by simp[atKey,List.find?_cons,e']
   rw[iR e,b];exact h2
  ·have e':¬ q.1=k:=fun z=>e (h1.trans z)
   have b:atKey (q :: qs) k=atKey qs k:=by simp[atKey,List.find?_cons,e']
   rw[iS e,b];exact ih
theorem KT.GS {H:Hp}{kvs:List (List cb × V)}{xs:List (List cb × Addr × Value)}(r:KT H kvs xs)(k:List cb){y:V}{u:Value}(ry:RelV y u) :
  KT H (kvs.map fun kv=>if kv.1=k then (kv.1,y) else kv) (xs.map (putAt k u)):=by
 induction r with
 | nil=>exact .nil
 | @cons p q ps qs h t ih =>
  rw[map_cons,map_cons]
  refine .cons ?_ ih
  obtain⟨h1,h2,h3⟩:=h
  unfold putAt
  by_cases e:p.1=k
  ·rw[if_pos e,if_pos (h1.symm.trans e)];exact⟨h1,h2,ry⟩
  ·rw[if_neg e,if_neg (fun z=>e (h1.trans z))];exact⟨h1,h2,h3⟩
theorem KT.put {H:Hp}{kvs:List (List cb × V)}{xs:List (List cb × Addr × Value)}(r:KT H kvs xs)(k:List cb){b:Addr}{y:V}{u:Value}(hb:H b=some (.tup (k.map kV)))(ry:RelV y u) :
  KT H (c7 kvs k y) (storedH xs k b u):=by
 have e:(kvs.any fun kv=>decide (kv.1=k))=(atKey xs k).isSome:=by
  rw[iT,(r.val k).AW,Option.isSome_map]
 unfold c7 storedH
 rw[e]
 by_cases q:(atKey xs k).isSome=true
 ·rw[if_pos q,if_pos q];exact r.GS k ry
 ·rw[if_neg q,if_neg q];exact Paired.snoc r ⟨rfl,hb,ry⟩
theorem KT.keeps {H H':Hp}{kvs:List (List cb × V)}{xs:List (List cb × Addr × Value)}(r:KT H kvs xs)(ht:∀ b ys,H b=some (.tup ys)->H' b=some (.tup ys)):KT H' kvs xs :=
 Paired.Gv r fun _ _ z=>⟨z.1,ht _ _ z.2.1,z.2.2⟩
section
variable {P:Program}{w:World}{H:Hp}{h:Heap}{a:Addr}
theorem wO {u:HO}(ok:Ab P w H h)(e:Rd H a u):zu P w H h a u:=e.ok ok
theorem kd {kvs:List (cb × V)}(ok:Ab P w H h)(e:Rd H a (.dK kvs)):kvs.length <= sizeLine/\(a == sysModules)=false/\∃ vs,KV kvs vs/\h.DictOf (aT P w) a vs :=
 show zu P w H h a (.dK kvs) from wO ok e
theorem uj {kvs:List (cb × V)}(ok:Ab P w H h)(e:H a=some (.dK kvs)):kvs.length <= sizeLine/\(a == sysModules)=false/\∃ vs,KV kvs vs/\h.DictOf (aT P w) a vs:=kd ok (.inl e)
theorem jq {ks:List cb}(ok:Ab P w H h)(e:H a=some (.tup (ks.map kV))):(tupleKind (aT P w)).is h ks a:=by
 obtain⟨_,ze,r,o,h1,⟨h2,n,h3⟩,_⟩:=(show zu P w H h a (.tup (ks.map kV)) from ok a _ e)
 exact⟨o,ze.toArray,n,h1,h2,h3,by simpa using jU r⟩
theorem jZ {kvs:List (List cb × V)}(ok:Ab P w H h)(e:Rd H a (.dT kvs)):kvs.length <= sizeLine/\(a == sysModules)=false /\
  ∃ xs,KT H kvs xs/\h.DictOfH (tupleKind (aT P w)) a xs:=by
 obtain⟨z,y,xs,r,o,es,ep,h1,h2,h3,h4,h5⟩:=(show zu P w H h a (.dT kvs) from wO ok e)
 refine⟨z,y,xs,r,o,es,ep,h1,h2,h3,h4,fun x hx=>?_,h5⟩
 have all:∀ {l:List (List cb × V)}{m:List (List cb × Addr × Value)},KT H l m->∀ x ∈ m,(tupleKind (aT P w)).is h x.1 x.2.1:=by
  intro l m q
  induction q with
  | nil=>intro x hx;exact nomatch hx
  | @cons p q ps qs hq t ih =>
   intro x hx
   rcases mem_cons.mp hx with e | hx
   ·subst e
    exact jq ok (by rw[← hq.1];exact hq.2.1)
   ·exact ih x hx
 exact all r x hx
theorem JO {kvs:List (List cb × V)}(ok:Ab P w H h)(e:H a=some (.dT kvs)):kvs.length <= sizeLine/\(a == sysModules)=false /\
  ∃ xs,KT H kvs xs/\h.DictOfH (tupleKind (aT P w)) a xs:=jZ ok (.inl e)
end
noncomputable def Bi (H:Hp)(a:Addr)(y:V)(r:Option V):Prop :=
 (∃ kvs k,Rd H a (.dK kvs)/\y=kV k/\r=gB kvs k)∨∃ kvs k b,Rd H a (.dT kvs)/\y = .ref b/\H b=some (.tup (k.map kV))/\r=gB kvs k
noncomputable def DL (H:Hp)(a:Addr)(y v:V)(H':Hp):Prop :=
 (∃ kvs k,H a=some (.dK kvs)/\y=kV k/\kvs.length < sizeLine/\H' = upd H a (.dK (c7 kvs k v))) ∨
 ∃ kvs k b,H a=some (.dT kvs)/\y = .ref b/\H b=some (.tup (k.map kV))/\kvs.length < sizeLine/\H' = upd H a (.dT (c7 kvs k v))
theorem Bi.k {H:Hp}{a:Addr}{kvs:List (cb × V)}{k:cb}(e:H a=some (.dK kvs)):Bi H a (kV k) (gB kvs k) := .inl ⟨kvs,k, .inl e,rfl,rfl⟩
theorem DL.k {H:Hp}{a:Addr}{kvs:List (cb × V)}{k:cb}{v:V}(e:H a=some (.dK kvs))(hl:kvs.length < sizeLine):DL H a (kV k) v (upd H a (.dK (c7 kvs k v))) := .inl ⟨kvs,k,e,rfl,hl,rfl⟩
section
variable {X:Cx}{pins:List (Addr × Obj)}{σ:St}{H:Hp}{s:Shared}{a:Addr}{y v:V}{u r:Value}{o:Option V}{A:Around}{E:Value->Shared->Prop}
theorem Inv.big (I:Inv X pins σ H s):sysModules < s.heap.objs.size:=by
 have h:mainGlobals < s.heap.objs.size:=(I.mod.glob.keeps I.bk).lt
 exact lt_trans (by decide) h
theorem qO {Q:Value->Shared->Prop}(hu:A.units + 1 < cLine)(I:Inv X pins σ H s)(g:Bi H a y (some v))(ry:RelV y u)(h:∀ w' s',Inv X pins σ H s'->RelV v w'->Q w' s') :
  wpAny (model X.prog X.w) A (getItem (.ref a) u) Q E s:=by
 rcases g with ⟨kvs,k,e,ey,l⟩ | ⟨kvs,k,b,e,ey,eb,l⟩
 ·subst ey
  obtain⟨z,hd,vs,rel,dd⟩:=kd I.zg e
  obtain⟨w',hw,Ce⟩:=zV.some_of (v:=v) (o:=valueAt vs k) (by rw[l];exact rel.val k)
  exact wpAny_getItem_of (jT ry) dd.mapOf hw (h w' _ (I.tok _) Ce)
 ·subst ey
  cases (show u=Value.ref b from ry)
  obtain⟨z,hd,xs,rel,dd⟩:=jZ I.zg e
  obtain⟨w',hw,Ce⟩:=zV.some_of (v:=v) (o:=(atKey xs k).map (·.2)) (by rw[l];exact rel.val k)
  obtain⟨p,hp,D5⟩:=Option.map_eq_some_iff.mp hw
  refine wpAny_getItem_heap (tupleKind_room_in1 hu) (jq I.zg eb) dd hp ?_
  rw[D5]
  exact h w' _ (I.tok _) Ce
theorem wg {Q:Value->Shared->Prop}(hu:A.units + 1 < cLine)(I:Inv X pins σ H s)(g:Bi H a y o)(ry:RelV y u)(h:∀ s',Inv X pins σ H s'->Q (.bool (!o.isSome)) s') :
  wpAny (model X.prog X.w) A (compareOp .NotIn u (.ref a)) Q E s:=by
 rcases g with ⟨kvs,k,e,ey,l⟩ | ⟨kvs,k,b,e,ey,eb,l⟩
 ·subst ey
  obtain⟨z,hd,vs,rel,dd⟩:=kd I.zg e
  refine wpAny_notIn_of (jT ry) hd dd.mapOf ?_
  rw[← (rel.val k).AW,← l]
  exact h _ (I.tok _)
 ·subst ey
  cases (show u=Value.ref b from ry)
  obtain⟨z,hd,xs,rel,dd⟩:=jZ I.zg e
  refine wpAny_notIn_heap (tupleKind_room_in1 hu) (jq I.zg eb) hd dd ?_
  have q:=(rel.val k).AW
  rw[Option.isSome_map]at q
  rw[← q,← l]
  exact h _ (I.tok _)
theorem lq {h':Heap}{t':Nat}{ob:HO}(I:Inv X pins σ H s)(mu:IJ (H a))(hs:Heap.SameBut a s.heap h')(he:∃ q,h'.get? a=some q)(new:zu X.prog X.w (upd H a ob) h' a ob) :
  Inv X pins σ (upd H a ob) { s with heap:=h',toks:=t' } :=
 I.write (x:=a) (e:=a) mu (.inl rfl) (fun b q hb z=>(hs.2 b hb).trans z) he new
theorem uk {P:Program}{w:World}{H':Hp}{h':Heap}{kvs:List (cb × V)}{vs:List (cb × Value)}(z:kvs.length <= sizeLine)(hd:(a == sysModules)=false)(rel:KV kvs vs)(dd:h'.DictOf (aT P w) a vs) :
  zu P w H' h' a (.dK kvs):=⟨z,hd,vs,rel,dd⟩
theorem qN {H':Hp}{Q:Unit->Shared->Prop}(hu:A.units + 1 < cLine)(I:Inv X pins σ H s)(g:DL H a y v H')(ry:RelV y u)(rv:RelV v r)(h:∀ s',Inv X pins σ H' s'->Q () s') :
  wpAny (model X.prog X.w) A (setItem (.ref a) u r) Q E s:=by
 rcases g with ⟨kvs,k,e,ey,l,eH⟩ | ⟨kvs,k,b,e,ey,eb,l,eH⟩
 ·subst ey eH
  obtain⟨z,hd,vs,rel,dd⟩:=uj I.zg e
  have hz:vs.length <= sizeLine:=by rw[← rel.length];exact z
  have hl:(c7 kvs k v).length <= sizeLine:=by have:=fu kvs k v;omega
  refine wpAny_setItem_pairs (hsz:=hz) (jT ry) dd fun h' ED hs=>h _ ?_
  have he:∃ q,h'.get? a=some q:=let ⟨q,_,_,hq,_⟩:=ED; ⟨q,hq⟩
  exact lq I (by rw[e];exact True.intro) hs he (uk hl hd (rel.put k rv) ED)
 ·subst ey eH
  cases (show u=Value.ref b from ry)
  obtain⟨z,hd,xs,rel,dd⟩:=JO I.zg e
  have hz:xs.length <= sizeLine:=by rw[← Paired.length rel];exact z
  have hl:(c7 kvs k v).length <= sizeLine:=by have:=fu kvs k v;omega
  refine wpAny_setItem_heap (hsz:=hz) (tupleKind_room_in1 hu) (jq I.zg eb) dd fun h' ED hs=>h _ ?_
  obtain⟨q,es,ep,hq,h2,h3,h4,_,h5⟩:=ED
  refine lq I (by rw[e];exact True.intro) hs ⟨q,hq⟩ ⟨hl,hd,_,(rel.put k eb rv).keeps fun c ys ec=>?_,q,es,ep,hq,h2,h3,h4,h5⟩
  rw[ae (aY ec e (fun z=>nomatch z))]
  exact ec
end
section
variable {X:Cx}{pins:List (Addr × Obj)}{σ:St}{H:Hp}{s:Shared}{a:Addr}{kvs:List (cb × V)}{k:cb}{u:Value}{A:Around}{E:Value->Shared->Prop}
end
noncomputable def JP (i:Expr):Prop:=∀ ov iv,subscripted i false ov iv=operate [ov,iv] (getItem ov iv)
theorem uM {prog:Program}{w:World}{A:Around}{E:Value->Shared->Prop}{s:Shared}{env:Env}{value slice:Expr}{pos:Pos}{T id:String}{Q:Value->Shared->Prop}
  (hl:typeLookup (.type T) "__getitem__" = pure (some (.builtin id))) (hs:JP slice)
  (h:wpAny (model prog w) A (eval value env) (fun o s₁=>wpAny (model prog w) A (eval slice env) (fun i s₂=>s₂.TypeIs o T/\wpAny (model prog w) A (getItem o i) Q E s₂) E s₁) E s) :
  wpAny (model prog w) A (eval (.Subscript value slice pos) env) Q E s:=by
 refine Subscript_ (wpAny_mono h (fun o s₁ h₁=>wpAny_mono h₁ (fun i s₂ h₂=>?_) fun _ _ x=>x) fun _ _ x=>x)
 obtain⟨hT,h₂⟩:=h₂
 unfold subscriptTail
 refine wpAny_bind ?_
 rw[getitemInPython_of_ne hT.not_modules]
 refine wpAny_bind (wpAny_specialOf hT hl ?_)
 have fin:wpAny (model prog w) A (subscripted slice false o i) (fun r s₃=>wpAny (model prog w) A (letTemporaryGo value o r >>= fun _=>pure r) Q E s₃) E s₂:=by
  rw[hs o i]
  exact wpAny_operating (wpAny_mono h₂ (fun r s₃ h₃=>wpAny_bind (wpAny_letTemporaryGo (wpAny_pure h₃))) fun _ _ x=>x)
 first
  | exact wpAny_pure (wpAny_bind fin)
  | exact wpAny_bind (wpAny_pure (wpAny_bind fin))
  | exact wpAny_bind fin
theorem mE {X:Cx}{pins:List (Addr × Obj)}{σ:St}{H:Hp}{s:Shared}{a:Addr}{y:V}{o:Option V}(I:Inv X pins σ H s)(g:Bi H a y o):s.TypeIs (.ref a) "dict":=by
 rcases g with ⟨kvs,k,e,_,_⟩ | ⟨kvs,k,b,e,_,_,_⟩
 ·obtain⟨_,_,vs,_,dd⟩:=kd I.zg e
  exact dd.typeIs
 ·obtain⟨_,_,xs,_,dd⟩:=jZ I.zg e
  exact dd.typeIs
noncomputable def JQ (td ty:TE):TE:=fun σ H Q=>td σ H fun x H1=>ty σ H1 fun y H2=>∃ a v,x = .ref a/\Bi H2 a y (some v)/\Q v H2
noncomputable def uL (ty td:TE):TE:=fun σ H Q=>ty σ H fun y H1=>td σ H1 fun x H2=>∃ a o,x = .ref a/\Bi H2 a y o/\Q (.bl (!o.isSome)) H2
noncomputable def JR (td ty tv:TE):TS:=fun D σ H=>tv σ H fun v H1=>td σ H1 fun x H2=>ty σ H2 fun y H3=>∃ a H4,x = .ref a/\DL H3 a y v H4/\D.nx σ H4
section
variable {X:Cx}{o i e value:Expr}{pos pos' Dd:Pos}{td ty tv:TE}
theorem pf (hu:X.A.units + 1 < cLine)(ho:PE X o td)(hi:PE X i ty)(hs:JP i):PE X (.Subscript o i pos) (JQ td ty):=by
 intro pins s σ H Q I h
 refine uM PySem.F.slot_dict_getitem.lookup hs (aS (ho pins s σ H _ I h) fun u s1 ⟨x,H1,I1,rx,q1⟩=>aS (hi pins s1 σ H1 _ I1 q1) fun iv s2 ⟨y,H2,I2,ry,a,v,ex,g,q2⟩=>?_)
 subst ex
 obtain rfl:u=Value.ref a:=rx
 exact⟨mE I2 g,qO hu I2 g ry fun w' s3 I3 Ce=>⟨v,H2,I3,Ce,q2⟩⟩
theorem qj (hu:X.A.units + 1 < cLine)(hi:PE X i ty)(ho:PE X o td):PC X .NotIn i o (uL ty td):=by
 intro pins s σ H Q I h
 refine aS (hi pins s σ H _ I h) fun iv s1 ⟨y,H1,I1,ry,q1⟩=>aS (ho pins s1 σ H1 _ I1 q1) fun u s2 ⟨x,H2,I2,rx,a,ov,ex,g,q2⟩=>?_
 subst ex
 obtain rfl:u=Value.ref a:=rx
 exact wg hu I2 g ry fun s3 I3=>⟨.bl (!ov.isSome),H2,I3,rfl,q2⟩
theorem vc (hu:X.A.units + 1 < cLine)(ho:PE X o td)(hi:PE X i ty)(hv:PE X value tv)(hs:swapsWith value (some (.Subscript o i pos')) pos.line X.env=pure false) :
  PS X (.Assign [.Subscript o i pos'] value pos) (JR td ty tv):=by
 intro pins s σ H D I h
 refine wpAny_Assign_Subscript (aS (hv pins s σ H _ I h) fun r s1 ⟨v,H1,I1,rv,q1⟩=>aS (ho pins s1 σ H1 _ I1 q1) fun u s2 ⟨x,H2,I2,rx,q2⟩=>aS (hi pins s2 σ H2 _ I2 q2) fun iv s3 ⟨y,H3,I3,ry,a,H4,ex,g,q3⟩=>?_) hs
 subst ex
 obtain rfl:u=Value.ref a:=rx
 exact qN hu I3 g ry rv fun s4 I4=>⟨σ,H4,I4,q3⟩
end
theorem ul {P:Program}{w:World}{H:Hp}(h:Heap)(hb:sysModules < h.objs.size):zu P w H (h.push { cls := .type "dict",data := .dict #[] }) h.objs.size (.dK []) :=
 ⟨zero_le _,beq_eq_false_iff_ne.mpr (Ne.symm (ne_of_lt hb)),[], .nil,Heap.DictOf.new h⟩
section
variable {X:Cx}{pos:Pos}
end
noncomputable def nk:List (TE × TE)->St->Hp->(List (V × V)->Hp->Prop)->Prop
 | [],_,H,Q=>Q [] H
 | (tk,tv) :: r,σ,H,Q=>tk σ H fun x H1=>tv σ H1 fun y H2=>nk r σ H2 fun ps H3=>Q ((x,y) :: ps) H3
abbrev VV:List (V × V)->List (Value × Value)->Prop:=Paired fun p q=>RelV p.1 q.1/\RelV p.2 q.2
noncomputable def Nm (X:Cx)(pos:Pos)(keys:List (Option Expr))(values:List Expr)(EE:List (TE × TE)):Prop :=
 ∀ (pins:List (Addr × Obj))(s:Shared)(σ:St)(H:Hp)(Q:List (V × V)->Hp->Prop),Inv X pins σ H s->nk EE σ H Q ->
  wpAny (model X.prog X.w) X.A (evalPairs (pairTrees keys values X.env pos)) (fun vs s'=>∃ ps H',Inv X pins σ H' s'/\VV ps vs/\Q ps H') X.xe s
theorem vd {X:Cx}{pos:Pos}:Nm X pos [] [] []:=fun pins s σ H Q I h=>pairTrees_nil_walk ⟨[],H,I, .nil,h⟩
theorem sP {X:Cx}{pos:Pos}{k v:Expr}{ks:List (Option Expr)}{vs:List Expr}{tk tv:TE}{EE:List (TE × TE)}(hk:PE X k tk)(hv:PE X v tv)(hr:Nm X pos ks vs EE) :
  Nm X pos (some k :: ks) (v :: vs) ((tk,tv) :: EE):=fun pins s σ H Q I h =>
 pairTrees_cons_walk (aS (hk pins s σ H _ I h) fun u s1 ⟨x,H1,I1,rx,q1⟩=>aS (hv pins s1 σ H1 _ I1 q1) fun w2 s2 ⟨y,H2,I2,ry,q2⟩ =>
  aS (hr pins s2 σ H2 _ I2 q2) fun ws s3 ⟨ps,H3,I3,rel,q3⟩=>⟨(x,y) :: ps,H3,I3, .cons ⟨rx,ry⟩ rel,q3⟩)
noncomputable def eZ (kvs more:List (cb × V)):List (cb × V):=more.foldl (fun acc kv=>c7 acc kv.1 kv.2) kvs
theorem KV.merge:∀ {more:List (cb × V)}{rs:List (cb × Value)}{kvs:List (cb × V)}{vs:List (cb × Value)},KV more rs->KV kvs vs->KV (eZ kvs more) (merged vs rs):=by
 intro more rs kvs vs r
 unfold KV at r
 induction r generalizing kvs vs with
 | nil=>intro q;exact q
 | @cons p q ps qs h t ih =>
  intro r0
  have e:KV (c7 kvs p.1 p.2) (stored vs q.1 q.2):=by
   have:=r0.put p.1 h.2
   rw[← h.1];exact this
  exact ih e
theorem fX:∀ (more kvs:List (cb × V)),(eZ kvs more).length <= kvs.length + more.length
 | [],kvs=>by show kvs.length <= kvs.length + 0;omega
 | p :: r,kvs=>by
  have h1:=fX r (c7 kvs p.1 p.2)
  have h2:=fu kvs p.1 p.2
  show(eZ (c7 kvs p.1 p.2) r).length <= _
  rw[length_cons];omega
theorem j2 {P:Program}{w:World}:∀ {kvs:List (cb × V)}{ws:List (Value × Value)},VV (kvs.map fun kv=>(kV kv.1,kv.2)) ws->∃ rs,Carries (aT P w) ws rs/\KV kvs rs
 | [],_,r=>by rw[map_nil]at r;cases r;exact⟨[],True.intro, .nil⟩
 | p :: kvs,_,r=>by
  rw[map_cons]at r
  cases r with
  | @cons a b as bs h t =>
   obtain⟨rs,c,q⟩:=j2 (P:=P) (w:=w) t
   obtain⟨b1,b2⟩:=b
   exact⟨(p.1,b2) :: rs,⟨jT h.1,rfl,c⟩, .cons ⟨rfl,h.2⟩ q⟩
noncomputable def JS (EE:List (TE × TE)):TE:=fun σ H Q=>∀ p,H p=none->nk EE σ (upd H p (.dK [])) fun ps H2=>H2 p=some (.dK [])/\∃ kvs:List (cb × V),ps=kvs.map (fun kv=>(kV kv.1,kv.2))/\kvs.length <= 15/\Q (.ref p) (upd H2 p (.dK (eZ [] kvs)))
theorem vf {X:Cx}{pos:Pos}{keys:List (Option Expr)}{values:List Expr}{EE:List (TE × TE)}(h:Nm X pos keys values EE)(Ak:keys.all (·.isSome)=true)(hl:keys.length=values.length)(h0:keys ≠ [])
  (h15:keys.length <= 15):PE X (.Dict keys values pos) (JS EE):=by
 intro pins s σ H Q I q
 have hn:=I.zg.fresh (Nat.le_refl s.heap.objs.size)
 have I1:=I.laid (a:=s.heap.objs.size) (o := .dK []) (h':=s.heap.push { cls := .type "dict",data := .dict #[] }) (t':=s.toks) (fun _ _ q=>Heap.get?_push_of_some _ q) (Nat.le_refl _) (ul s.heap I.big)
 refine wpAny_Dict_walk (knd:=aT X.prog X.w) Ak hl h0 h15 (aS (h pins _ σ _ _ I1 (q _ hn)) fun ws s2 ⟨ps,H2,I2,rel,e,kvs,ep,lk,q2⟩=>?_)
 subst ep
 obtain⟨rs,c,rk⟩:=j2 (P:=X.prog) (w:=X.w) rel
 obtain⟨z,hd,D6,r0,dd⟩:=uj I2.zg e
 cases r0
 refine⟨rs,c,dd,fun h' ED hs=>⟨.ref s.heap.objs.size,_,?_,rfl,q2⟩⟩
 have hz:(eZ [] kvs).length <= sizeLine:=by
  have h1:=fX kvs []
  rw[length_nil]at h1
  rw[sizeLine_eq];omega
 have he:∃ q,h'.get? s.heap.objs.size=some q:=let ⟨q,_,_,hq,_⟩:=ED; ⟨q,hq⟩
 exact lq I2 (by rw[e];exact True.intro) hs he (uk hz hd (rk.merge .nil) ED)
structure M1 (X:Cx)(o:Expr)(m:Str)(apos:Pos)(e:Expr)(zP:Pos):Prop where
 base:attributeBase o m X.env (eval o X.env)=eval o X.env
 Ad:((backTo zP (starEach [e] X.env)).all (fun x=>!x.1) && (backToKw zP (keywordEach [] X.env)).all (fun x=>x.1.isSome)
  && decide (([e]:List Expr).length + ([]:List Keyword).length + (if ([]:List Keyword).isEmpty then 0 else 1) < 30))=true
 line:(apos.endLine == zP.line)=true
 trees:backTo zP (starEach [e] X.env)=[(false,eval e X.env)]
noncomputable def Uv (H:Hp)(a:Addr):Prop:=(∃ kvs,Rd H a (.dK kvs))∨∃ kvs,Rd H a (.dT kvs)
theorem y9 {X:Cx}{pins:List (Addr × Obj)}{σ:St}{H:Hp}{s:Shared}{a:Addr}(I:Inv X pins σ H s)(d:Uv H a) :
  s.TypeIs (.ref a) "dict"/\(∀ b,Value.ref a = .ref b->∃ ob,s.heap.get? b=some ob/\ob.dict=none)/\(a == sysModules)=false:=by
 rcases d with ⟨kvs,e⟩ | ⟨kvs,e⟩
 ·obtain⟨_,hd,vs,_,dd⟩:=kd I.zg e
  refine⟨dd.typeIs,fun b q=>?_,hd⟩
  cases q
  obtain⟨ob,_,_,h1,h2,_⟩:=dd
  exact⟨ob,h1,h2.2.1⟩
 ·obtain⟨_,hd,xs,_,dd⟩:=jZ I.zg e
  refine⟨dd.typeIs,fun b q=>?_,hd⟩
  cases q
  obtain⟨ob,_,_,h1,h2,_⟩:=dd
  exact⟨ob,h1,h2.2.1⟩
section
variable {X:Cx}{pins:List (Addr × Obj)}{σ:St}{H:Hp}{s:Shared}{a:Addr}{y d:V}{u r:Value}{o:Option V}{A:Around}{E:Value->Shared->Prop}
theorem yI {Q:Value->Shared->Prop}(hu:A.units + 1 < cLine)(I:Inv X pins σ H s)(g:Bi H a y o)(ry:RelV y u)(h:∀ w' s',Inv X pins σ H s'->RelV (o.getD .zt) w'->Q w' s') :
  wpAny (model X.prog X.w) A (call (.builtin "dict.get") [.ref a,u]) Q E s:=by
 rcases g with ⟨kvs,k,e,ey,l⟩ | ⟨kvs,k,b,e,ey,eb,l⟩
 ·subst ey
  obtain⟨z,hd,vs,rel,dd⟩:=kd I.zg e
  refine call_meetsIn slot_dict_get dd.typeIs entry_dict_get (PySem.F.args_dict_get_2 _ _) (meets_dict_get (aT X.prog X.w) a (jT ry) hd) ⟨_,dd.mapOf,h _ _ (I.tok _) ?_⟩
  rw[l]
  exact(rel.val k).getD rfl
 ·subst ey
  cases (show u=Value.ref b from ry)
  obtain⟨z,hd,xs,rel,dd⟩:=jZ I.zg e
  refine call_meetsIn slot_dict_get dd.typeIs entry_dict_get (PySem.F.args_dict_get_2 _ _) (meetsH_dict_get (tupleKind (aT X.prog X.w)) a b hd) ⟨tupleKind_room_in1 hu,k,xs,jq I.zg eb,dd,h _ _ (I.tok _) ?_⟩
  rw[l]
  exact(rel.val k).getD rfl
end
noncomputable def xh (td ty:TE):TE:=fun σ H Q=>td σ H fun x H1=>∃ a,x = .ref a/\Uv H1 a/\ty σ H1 fun y H2=>∃ o,Bi H2 a y o/\Q (o.getD .zt) H2
section
variable {X:Cx}{o e f:Expr}{apos zP:Pos}{td ty tx:TE}
theorem sR (hu:X.A.units + 1 < cLine)(ho:PE X o td)(he:PE X e ty)(m:M1 X o "get" apos e zP):PE X (.Call (.Attribute o "get" apos) [e] [] zP) (xh td ty):=by
 intro pins s σ H Q I h
 refine wpAny_Call_method m.base m.Ad m.line PySem.F.plainAttrs_dict slot_dict_get PySem.F.type_dict_get (aS (ho pins s σ H _ I h) fun u s1 ⟨x,H1,I1,rx,a,ex,d,q1⟩=>?_)
 subst ex
 obtain rfl:u=Value.ref a:=rx
 obtain⟨t1,t2,_⟩:=y9 I1 d
 refine⟨t1,t2,?_⟩
 rw[m.trees]
 refine Calls.callWith_builtin rfl (Calls.evalArgs_plain (Calls.spliced_cons (aS (he pins s1 σ H1 _ I1 q1) fun iv s2 ⟨y,H2,I2,ry,ov,g,q2⟩=>Calls.spliced_nil ?_)))
 exact yI hu I2 g ry fun w' s3 I3 Ce=>⟨_,H2,I3,Ce,q2⟩
end
section
variable {X:Cx}{pins:List (Addr × Obj)}{σ:St}{H:Hp}{s:Shared}{a:Addr}{kvs:List (cb × V)}{A:Around}{E:Value->Shared->Prop}
end
section
variable {X:Cx}{pins:List (Addr × Obj)}{σ:St}{H:Hp}{s:Shared}{a:Addr}{y:V}{u:Value}{A:Around}{E:Value->Shared->Prop}
end
end L2
namespace L2
open PySem PySem.Spec PyProof.Rows
section
variable {X:Cx}
end
section
variable {κ:Type} [DecidableEq κ]
end
end L2
namespace L2
open PySem PySem.Spec PyProof.Rows
theorem vT {P:Program}{w:World}{k:cb}{u:Value}(h:(aT P w).is k u=true):RelV (kV k) u:=by
 rcases bq (show jr k u=true from h) with ⟨i,t,rfl,rfl⟩ | ⟨x,t,rfl,rfl⟩
 ·exact⟨t,rfl⟩
 ·exact⟨t,rfl⟩
noncomputable def DcO (P:Program)(w:World)(o:Obj)(kvs:List (cb × V))(ep:Nat):Prop:=∃ vs es,KV kvs vs/\o.ExactDict/\o.data = .dict es ep/\KeysOf (aT P w) es/\Pairs (aT P w) es.toList vs/\(vs.map (·.1)).Nodup
noncomputable def JT (a:Addr)(o:Obj)(kvs:List (cb × V)):It :=
 ⟨fun i H=>H a=some (.AZ o (.dK kvs))/\i < kvs.length,fun i H x H'=>H' = H/\∃ k,(kvs.map (·.1))[i]? = some k/\x=kV k,fun i H=>H a=some (.AZ o (.dK kvs))/\i=kvs.length⟩
theorem Inv.Fx {X:Cx}{pins:List (Addr × Obj)}{σ:St}{H:Hp}{s:Shared}{a:Addr}{o:Obj}{u:HO}(I:Inv X pins σ H s)(ha:H a=some (.AZ o u)):s.heap.get? a=some o:=(I.zg a _ ha).1
theorem pW {P:Program}{w:World}{K:Frag}{tg:Expr}(a it:Addr)(o:Obj)(kvs:List (cb × V))(ep:Nat)(hD:DcO P w o kvs ep):mX P w K tg (JT a o kvs) [it] it (fun i h=>h.IsKeyIter it a i kvs.length ep) where
 mem:=by simp
 obj:=fun i h st b hb=>by
  have e:b=it:=by simpa using hb
  subst e
  obtain⟨ob,e,c,d⟩:=st
  exact⟨ob,e,fun v z=>by rw[d]at z;cases z⟩
 keep:=fun i h h' st k=>by
  obtain⟨ob,e,c,d⟩:=st
  exact⟨ob,k it (by simp) ob e,c,d⟩
 item:=by
  intro X hP hw hK hc i pins s σ H E I hf st hg
  subst hP hw hK
  obtain⟨ha,hi⟩:=hg
  obtain⟨vs,es,rel,d1,d2,d3,d4,d5⟩:=hD
  obtain⟨f0,f1,f2,f3,f4,f5⟩:=hf it (by simp)
  have hl:=rel.length
  have hv:vs[i]? = some (vs[i]'(by omega)):=List.getElem?_eq_getElem (by omega)
  have st:s.heap.IsKeyIter it a i vs.length ep:=by rw[← hl];exact st
  refine wpAny_pyNext_dict_item (knd:=aT X.prog X.w) (k:=(vs[i]'(by omega)).1) (v:=(vs[i]'(by omega)).2) st ⟨o,es,I.Fx ha,d1,d2,d3,d4,d5⟩ hv fun key h' hk Dy sb=>?_
  rw[← hl]at Dy
  have I1:Inv X pins σ H { s with heap:=h' }:=I.turned (t':=s.toks) (fun b o hb e=>(sb.2 b hb).trans e) f0 f1 f3 f4 f5
  obtain⟨ob,e,c,d⟩:=id Dy
  exact⟨key,rfl,pI (s:={ s with heap:=h' }) e c d (by decide) ⟨_,H,I1,vT hk,⟨rfl,_,by rw[rel.keys,List.getElem?_map,hv];rfl,rfl⟩,Dy,fun b hb=>(hf b hb).1⟩⟩
 done:=by
  intro X hP hw hK hc i pins s σ H E I hf st hg
  subst hP hw hK
  obtain⟨ha,rfl⟩:=hg
  obtain⟨vs,es,rel,d1,d2,d3,d4,d5⟩:=hD
  obtain⟨f0,f1,f2,f3,f4,f5⟩:=hf it (by simp)
  have hl:=rel.length
  have st:s.heap.IsKeyIter it a vs.length vs.length ep:=by rw[← hl];exact st
  exact wpAny_pyNext_dict_end (knd:=aT X.prog X.w) (I.ok.hd hc) st ⟨o,es,I.Fx ha,d1,d2,d3,d4,d5⟩ (List.getElem?_eq_none (Nat.le_refl _)) fun h' eb=>⟨rfl,I.turned (t':=s.toks) (fun b o hb e=>eb b o hb e) f0 f1 f3 f4 f5⟩
 self:=fun _ _ _ _ _ st h=>wpAny_pyIter_keyiter st h
section
variable {X:Cx}{tg:Expr}
noncomputable def JU (tl:TE):TI:=fun σ H R=>tl σ H fun x H1=>∃ a kvs,x = .ref a/\H1 a=some (.dK kvs)/\∀ o,R (JT a o kvs) (upd H1 a (.AZ o (.dK kvs)))
theorem ve {l:Expr}{tl:TE}(hl:PE X l tl):PI X tg l (JU tl):=by
 intro pins s σ H R I h
 refine aS (hl pins s σ H _ I h) fun v s1 ⟨x,H1,I1,r1,q1⟩=>?_
 obtain⟨a,kvs,e,ha,q⟩:=q1
 subst e
 cases r1
 obtain⟨z,hd,vs,rel,o,es,ep,eo,d1,d2,d3,d4,d5⟩:=uj I1.zg ha
 have I2:Inv X pins σ (upd H1 a (.AZ o (.dK kvs))) s1:=I1.write (x:=a) (e:=a) (h':=s1.heap) (t':=s1.toks) (by rw[ha];trivial) (.inl rfl) (fun b u _ q=>q) ⟨_,eo⟩ ⟨eo,z,hd,vs,rel,o,es,ep,eo,d1,d2,d3,d4,d5⟩
 refine wpAny_pyIter_dict (knd:=aT X.prog X.w) hd ⟨o,es,eo,d1,d2,d3,d4,d5⟩ ?_
 refine⟨s1.heap.objs.size,[s1.heap.objs.size],_,_,_,rfl,I2.kept (t':=s1.toks) fun b o e=>Heap.get?_push_of_some _ e,pW a _ o kvs ep ⟨vs,es,rel,d1,d2,d3,d4,d5⟩,⟨_,Heap.get?_push_size _ rfl,rfl,by rw[rel.length];rfl⟩,fun b hb=>?_,q o⟩
 have e:b=s1.heap.objs.size:=by simpa using hb
 subst e
 exact I2.CZ (Nat.le_refl _) (I2.zg.fresh (Nat.le_refl _))
theorem uc {a:Addr}{o:Obj}{kvs:List (cb × V)}{g:TG}{tb:TS}{D:jD}{σ:St}{H:Hp}(Pv:Nat->St->Hp->Prop)(h0:Pv 0 σ H)(hl:∀ i σ H,i <= kvs.length->Pv i σ H->H a=some (.AZ o (.dK kvs)))
  (hs:∀ i k σ H,(kvs.map (·.1))[i]? = some k->Pv i σ H->g (kV k) σ H fun σ2 H2=>tb { D with nx:=Pv (i + 1),ct:=Pv (i + 1),bk:=D.nx } σ2 H2) (hd:∀ σ H,Pv kvs.length σ H->D.nx σ H) :
  ∃ W:Nat->Nat->St->Hp->Prop,(∃ m,W 0 m σ H)/\∀ i m σ H,W i m σ H ->
   ((JT a o kvs).stop i H/\D.nx σ H)∨((JT a o kvs).go i H/\∃ N:St->Hp->Prop,(∀ σ' H',N σ' H'->∃ m',m' < m/\W (i + 1) m' σ' H')/\∀ x H',(JT a o kvs).Ef i H x H'->g x σ H' fun σ2 H2=>tb { D with nx:=N,ct:=N,bk:=D.nx } σ2 H2):=by
 refine⟨fun i m σ H=>m=kvs.length - i/\i <= kvs.length/\Pv i σ H,⟨kvs.length,by simp,zero_le _,h0⟩,?_⟩
 rintro i m σ H ⟨rfl,hi,p⟩
 have q:=hl i σ H hi p
 by_cases zL:i < kvs.length
 ·refine .inr ⟨⟨q,zL⟩,Pv (i + 1),fun σ' H' p'=>⟨kvs.length - (i + 1),by omega,rfl,zL,p'⟩,fun x H' y=>?_⟩
  obtain⟨e,k,hk,ex⟩:=y
  subst e ex
  exact hs i k σ _ hk p
 ·have e:i=kvs.length:=by omega
  subst e
  exact .inl ⟨⟨q,rfl⟩,hd σ H p⟩
end
end L2
namespace L2
open PySem PySem.Spec PyProof.Rows
section
variable {X:Cx}
end
end L2
namespace L2
open PySem
section
variable {X:Cx}
noncomputable def JV (t:TS):TS:=fun D σ H=>∃ Br:St->Hp->Prop,t { D with nx:=Br } σ H/\∀ σ' H',Br σ' H'->D.nx σ' H'
theorem pb {st:Stmt}{t:TS}(h:PS X st t):PS X st (JV t):=fun pins s σ H D I ⟨Br,q,k⟩ =>
 aS (h pins s σ H _ I q) fun f s1 z=>by
  cases f with
  | next=>obtain⟨σ1,H1,I1,p⟩:=z;exact⟨σ1,H1,I1,k _ _ p⟩
  | brk=>exact z
  | cont=>exact z
  | ret u=>exact z
noncomputable def xf (t:TE):TE:=fun σ H Q=>∃ Br:V->Hp->Prop,t σ H Br/\∀ v H',Br v H'->Q v H'
theorem kR {e:Expr}{t:TE}(h:PE X e t):PE X e (xf t):=fun pins s σ H Q I ⟨Br,q,k⟩ =>
 aS (h pins s σ H _ I q) fun u s1 ⟨v,H1,I1,r,p⟩=>⟨v,H1,I1,r,k v H1 p⟩
noncomputable def xc (t:TT):TT:=fun σ H Q=>∃ Br:Bool->Hp->Prop,t σ H Br/\∀ b H',Br b H'->Q b H'
theorem iH {e:Expr}{t:TT}(h:PT X e t):PT X e (xc t):=fun pins s σ H Q I ⟨Br,q,k⟩ =>
 aS (h pins s σ H _ I q) fun b s1 ⟨H1,I1,p⟩=>⟨H1,I1,k b H1 p⟩
end
end L2
namespace L2
open PySem PySem.Spec PyProof.Rows
end L2
namespace L2
open PySem PySem.Spec PyProof.Rows
end L2
namespace L2
open PySem PySem.Spec PyProof.Rows
structure Di (K:Frag)(x qual:Str)(st:Stmt)(f:Addr)(fd:FuncData):Prop where
 ex:∃ (oc:Value)(od:Option Addr)(dV kV doc pm:Value)(an:Option Addr)(cdv ct:Value)(C8:Array (Option Value)),
  fd=fnOf x qual (bI st) (aJ st) (aj st) dV kV doc pm an cdv ct/\K.lookup f=some ⟨oc,od, .func fd,C8⟩/\codeIn K cdv qual=true
 kp:keepIn K (.ref f)=true
section
variable {P:Program}{w:World}{K:Frag}{mg:Str->Option Value}{base:Heap}
theorem Di.Ej {x qual:Str}{st:Stmt}{f:Addr}{fd:FuncData}{N ps:List Str}{k:Nat}{sp:Sp}(F:Di K x qual st f fd)(S:ap N ps (aj st))(len:∀ vs H Q E,sp vs H Q E->vs.length=ps.length)
  (Bq:∀ (cdv:Value)(A:Around)(outer:List Env)(s:Shared)(H:Hp)(vs:List V)(Q:VK)(E:XK),zm k (A.deeper (envOfC qual (aj st) s.heap.objs.size f cdv))->sp vs H Q E ->
   ∃ t,C4 (iB (eE P w) P w K mg base N qual (aj st) f cdv A outer s H E) (aJ st) t/\t { nx:=fun _ H'=>Q .zt H',rt:=Q } (start N vs) H):zb P w K mg base (eE P w) (k + 1) f fd ps sp:=by
 obtain⟨oc,od,dV,kV,doc,pm,an,cdv,ct,C8,rfl,lk,C5⟩:=F.ex
 exact ud lk C5 S len fun A outer s H vs Q E hr D3=>Bq cdv A outer s H vs Q E hr D3
end
end L2
namespace L2
open PySem PySem.Spec PyProof.Rows
noncomputable def uZ (K:Frag):R2:=fun x y H Q=>∃ (p:Addr)(vs:List V)(d:PyData)(ds:List PyData),y = .ref p/\lu K H x d/\zf K H p vs/\j7 K H vs ds/\By d 8/\(∀ z ∈ ds,By z 8)/\Q (.bl (!(ds.any fun y=>PyData.eqv y d))) H
theorem qk {X:Cx}(hu:X.A.units + 64 < cLine):eD X (compareOp .NotIn) (uZ X.K):=by
 intro pins s σ H x y v u Q I rx ry h
 obtain⟨p,vs,d,ds,rfl,h1,h2,h3,s1,s2,q⟩:=h
 obtain⟨as,r1⟩:=I.den (.lst h2 h3) ry
 obtain⟨bs,r2⟩:=I.den h1 rx
 refine SeqAt.notIn_list_reads r1 r2 (kH s2).1 s1.1 ?_ ⟨.bl _,H,I,rfl,q⟩
 have:=s1.2
 have:=Nat.min_le_right (PyData.depthAll ds) d.depth
 omega
noncomputable def JW (K:Frag):R2:=fun x y H Q=>∃ a b xs ys,x = .ref a/\y = .ref b/\zh K H a xs/\zh K H b ys/\ys ≠ []/\xs.length + ys.length <= sizeLine /\
 (xs=[]->Q (.ref b) H)/\(xs ≠ []->∀ p,H p=none->Q (.ref p) (upd H p (.tup (xs ++ ys))))
theorem vm {X:Cx}:eD X (binaryOp .Add) (JW X.K):=by
 intro pins s σ H x y v u Q I rx ry h
 obtain⟨a,b,xs,ys,rfl,rfl,ha,hb,hy,hz,q1,q2⟩:=h
 by_cases hx:xs=[]
 ·cases rx
  cases ry
  obtain⟨ze,r1,p1,_⟩:=I.tuple ha
  obtain⟨B1,r2,p2,_⟩:=I.tuple hb
  have e1:ze=[]:=r1.Bn.mpr hx
  obtain⟨⟨cls,dd,data,sl⟩,ho,hc,n,hd⟩:=id p1
  obtain⟨⟨OM,Na,data2,Ic⟩,AG,Cd,n2,hd2⟩:=id p2
  simp only at hc hd Cd hd2
  subst hc hd Cd hd2
  exact concat_meets ⟨_,ho,rfl⟩ ⟨_,AG,rfl⟩ noFill_tuple_add seq_tuple_add slot_tuple_add entry_tuple_add (args_tuple_add_2 _ _)
   (tuple_addW0 a b ze.toArray B1.toArray n n2 dd Na sl Ic (by simp[e1])) ⟨ho,AG,⟨.ref b,H,I,rfl,q1 hx⟩⟩
 ·exact vk pins s σ H _ _ v u Q I rx ry ⟨a,b,xs,ys,rfl,rfl,ha,hb,hx,hz,fun z=>absurd z hy,fun _=>q2 hx⟩
end L2
namespace L2
open PySem
section
variable {X:Cx}
end
end L2
namespace L2
open PySem
theorem bT {J:It}{g:TG}{tt:TT}{te:TE}{σ0:St}{H:Hp}{Q:VK}(n:Nat)(hn:n < sizeLine)(W:Nat->List V->Hp->Prop)(h0:W 0 [] H)(hlen:∀ i acc H',W i acc H'->acc.length <= i)
  (turn:∀ i acc H',i < n->W i acc H'->J.go i H'/\∀ x H2,J.Ef i H' x H2->g x σ0 H2 fun σ2 H3=>tt σ2 H3 fun b H4=>if b=true then te σ2 H4 fun y H5=>W (i + 1) (acc ++ [y]) H5 else W (i + 1) acc H4)
  (stop:∀ acc H',W n acc H'->J.stop n H'/\∀ D,H' D=none->Q (.ref D) (upd H' D (.lst acc))):dz J g tt te σ0 Q H:=by
 refine⟨fun i m acc H'=>m=n - i/\i <= n/\W i acc H',⟨n,by simp,zero_le _,h0⟩,?_⟩
 rintro i m acc H' ⟨rfl,hi,w⟩
 refine⟨by have:=hlen i acc H' w;omega,?_⟩
 by_cases zL:i < n
 ·obtain⟨go,q⟩:=turn i acc H' zL w
  exact .inr ⟨go,fun zT H2=>W (i + 1) zT H2,fun zT H2 w2=>⟨n - (i + 1),by omega,rfl,zL,w2⟩,q⟩
 ·have e:i=n:=by omega
  subst e
  exact .inl (stop acc H' w)
theorem za.new {H H':Hp}{a:Addr}{o:HO}(h:za H H')(n:H' a=none):za H (upd H' a o):=fun b u e=>by rw[ae (ah (h _ _ e) n)];exact h _ _ e
end L2
namespace L2
open PySem
theorem zF {N P:List Str}{sc:Scope}(a:sc.kind = .function:=by rfl)(b:sc.isCoroutine=false:=by rfl)(c:sc.isGenerator=false:=by rfl)(d:N.Nodup:=by decide +kernel)(e:N.take P.length=P:=by rfl)(f:∀ x ∈ P,sc.names.lookup x=some .local∨sc.names.lookup x=some .cell:=by decide +kernel)(g:∀ y ∈ sc.names,y.2 ≠ .free:=by decide +kernel):ap N P sc:=⟨a,b,c,d,e,f,g⟩
theorem B3 {N:List Str}{sc scope:Scope}{capN:List Str}{cap:List Nat}(a:scope.kind = .function:=by rfl)(b:∀ y ∈ scope.names,y.2 ≠ .cell:=by decide +kernel)(c:∀ y ∈ scope.names,y.2 = .local->scope.names.lookup y.1=some .local:=by decide +kernel)(d:∀ y ∈ scope.names,y.2 = .free->sc.names.lookup y.1=some .cell∨sc.names.lookup y.1=some .free:=by decide +kernel)(e:cap.length=capN.length:=by rfl)(f:∀ p ∈ capN.zip cap,scope.names.lookup p.1=some .free/\N[p.2]? = some p.1:=by decide +kernel):As N sc scope capN cap:=⟨a,b,c,d,e,f⟩
end L2
namespace K92
open PySem L2
variable {P:Program}{w:World}{K:Frag}{mg:Str->Option Value}{base:Heap}
noncomputable def top (i:Nat):Stmt:=PySem.Challenge.pw_wormyard_k92_whole_in_order.main.body.getD i (.Pass ⟨0,0,0,0⟩)
abbrev Nn:Stmt:=aE (top 4) 0
abbrev Np:Stmt:=aE (top 5) 0
abbrev Nq:Stmt:=aE (top 6) 0
abbrev uU:Stmt:=aE (top 11) 0
abbrev xB:Stmt:=aE (top 15) 0
abbrev sj:Stmt:=aE (top 15) 1
abbrev xz:Stmt:=aE (top 15) 2
abbrev nI:Stmt:=aE (top 15) 3
abbrev rY:Stmt:=aE (top 15) 4
abbrev nL:Stmt:=aE (top 15) 5
abbrev xA:Stmt:=aE (top 15) 6
abbrev x9:Stmt:=aE (top 15) 7
abbrev uV:Stmt:=top 17
abbrev so:Stmt:=top 18
abbrev xy:Stmt:=top 19
abbrev gi:Stmt:=top 21
abbrev iE:Stmt:=top 22
abbrev x5:Stmt:=top 23
abbrev xw:Stmt:=top 27
abbrev lK:Stmt:=aE (top 28) 0
abbrev nA:Stmt:=aE (top 28) 1
abbrev xH:Stmt:=aE (top 28) 2
abbrev si:Stmt:=aE (top 28) 3
abbrev lJ:Stmt:=aE (top 28) 4
abbrev lL:Stmt:=top 30
abbrev P7:Stmt:=top 31
abbrev xx:Stmt:=aE (top 32) 0
abbrev rX:Stmt:=aE (top 33) 0
abbrev n9:Stmt:=aE (top 33) 1
abbrev gj:Stmt:=top 38
abbrev rU:Stmt:=top 39
abbrev lI:Stmt:=top 40
abbrev sy:Stmt:=aE (top 41) 0
abbrev su:Stmt:=aE (top 41) 1
abbrev hW:Stmt:=aE (top 42) 0
abbrev gJ:Stmt:=aE (top 42) 1
abbrev nD:Stmt:=aE (top 42) 2
abbrev lH:Stmt:=aE (top 42) 3
abbrev lG:Stmt:=aE (top 42) 4
abbrev nB:Stmt:=aE (top 42) 5
abbrev kI:Stmt:=aE (top 42) 6
abbrev gH:Stmt:=aE (top 42) 7
abbrev sr:Stmt:=aE (top 42) 8
abbrev P8:Stmt:=aE (top 42) 9
abbrev sE:Stmt:=aE (top 42) 10
abbrev nK:Stmt:=aE (top 42) 11
abbrev xC:Stmt:=aE (top 42) 12
abbrev se:Stmt:=aE (top 42) 13
abbrev rZ:Stmt:=aE (top 42) 14
abbrev sw:Stmt:=aE (top 42) 17
abbrev rW:Stmt:=aE (top 42) 18
abbrev nG:Stmt:=aE (top 42) 19
abbrev sC:Stmt:=aE (top 42) 21
abbrev xD:Stmt:=top 44
abbrev JX:Stmt:=top 45
abbrev sm:Stmt:=aE (top 46) 0
abbrev rV:Stmt:=aE (top 46) 1
abbrev sF:Stmt:=top 48
abbrev x8:Stmt:=top 49
abbrev nH:Stmt:=top 50
abbrev jc:Stmt:=top 51
abbrev sA:Stmt:=top 52
abbrev nM:Stmt:=top 53
abbrev gK:Stmt:=top 54
abbrev sD:Stmt:=top 56
abbrev nJ:Stmt:=top 57
abbrev c6:Stmt:=top 58
abbrev kJ:Stmt:=top 59
structure fB (mg:Str->Option Value):Prop where
 Ik:mg "isinstance" = none
 int:mg "int" = none
 bool:mg "bool" = none
 len:mg "len" = none
 enum:mg "enumerate" = none
 tuple:mg "tuple" = none
 range:mg "range" = none
 list:mg "list" = none
 all:mg "all" = none
 abs:mg "abs" = none
 str:mg "str" = none
 max:mg "max" = none
noncomputable def wz (H:Hp)(v:V)(p:Int × Int):Prop:=∃ t,v = .ref t/\H t=some (.tup [.int p.1, .int p.2])
abbrev zy (H:Hp):List V->List (Int × Int)->Prop:=Paired (wz H)
theorem zy.same {H H':Hp}(h:za H H'):∀ {vs:List V}{ps:List (Int × Int)},zy H vs ps->zy H' vs ps
 | _,_, .nil => .nil
 | _,_, .cons ⟨t,e,q⟩ r => .cons ⟨t,e,h _ _ q⟩ (zy.same h r)
theorem zy.get {H:Hp}:∀ {vs:List V}{ps:List (Int × Int)}{i:Nat}{v:V},zy H vs ps->vs[i]? = some v->∃ p,ps[i]? = some p/\wz H v p
 | _,_,_,_, .nil,e=>by simp at e
 | _,_,0,_, .cons h _,e=>by simp at e;subst e;exact⟨_,rfl,h⟩
 | _,_,i + 1,_, .cons _ r,e=>by
  obtain⟨p,e1,h⟩:=zy.get (i:=i) r (by simpa using e)
  exact⟨p,by simpa using e1,h⟩
theorem zy.DN {H:Hp}:∀ {vs:List V}{ps:List (Int × Int)}{i:Nat}{p:Int × Int},zy H vs ps->ps[i]? = some p->∃ v,vs[i]? = some v/\wz H v p
 | _,_,_,_, .nil,e=>by simp at e
 | _,_,0,_, .cons h _,e=>by simp at e;subst e;exact⟨_,rfl,h⟩
 | _,_,i + 1,_, .cons _ r,e=>by
  obtain⟨p,e1,h⟩:=zy.DN (i:=i) r (by simpa using e)
  exact⟨p,by simpa using e1,h⟩
theorem zy.snoc {H:Hp}{v:V}{p:Int × Int}(h:wz H v p):∀ {vs:List V}{ps:List (Int × Int)},zy H vs ps->zy H (vs ++ [v]) (ps ++ [p])
 | _,_, .nil => .cons h .nil
 | _,_, .cons q r => .cons q (zy.snoc h r)
noncomputable def jl (n:Int)(p:Int × Int):Bool:=decide (0 <= p.1/\p.1 <= n - 1) && (decide (0 <= p.2/\p.2 <= n - 1) && !decide (p.1=p.2))
noncomputable def kB:Sp:=fun vs H Q _=>∃ i:Int,vs=[.int i]/\Q (.bl true) H
noncomputable def iX:Sp:=fun vs H Q _=>∃ i a b:Int,vs=[.int i, .int a, .int b]/\Q (.bl (decide (a <= i/\i <= b))) H
noncomputable def rq:Sp:=fun vs H Q _=>∃ n a b:Int,vs=[.int n, .int a, .int b]/\Q (.bl (jl n (a,b))) H
theorem oZ:ap ["value"] ["value"] (aj gi):=L2.zF
theorem lU {f:Addr}{fd:FuncData}(F:zA K "is_whole" "is_whole" gi f fd)(T:fB mg):zb P w K mg base aG 1 f fd ["value"] kB:=by
 refine F.ok oZ (fun vs H Q E h=>?_) (fun cdv A outer s H vs Q E hr h=>?_)
 ·obtain⟨m,rfl,_⟩:=h
  rfl
 ·obtain⟨i,rfl,q⟩:=h
  refine⟨_,ai (ar (dB (aF mS rfl T.Ik PyProof.Rows.boot_isinstance (aa (pv 0) (aa (fJ (v := .ty "int") rfl T.int PySem.Pv.boot_int rfl) ad)))
   (dA (sQ (aF mS rfl T.Ik PyProof.Rows.boot_isinstance (aa (pv 0) (aa (fJ (v := .ty "bool") rfl T.bool PySem.Pv.boot_bool rfl) ad))))))),?_⟩
  refine⟨_,rfl, .inl ⟨i,rfl,true,rfl,?_⟩⟩
  refine aK ?_
  exact⟨_,rfl, .inr (.inl ⟨i,rfl,false,rfl,q⟩)⟩
theorem lE:ap ["value", "least", "most"] ["value", "least", "most"] (aj iE):=L2.zF
theorem qq {f fh:Addr}{fd BX:FuncData}(F:zA K "is_within" "is_within" iE f fd)(T:fB mg)(mh:mg "is_whole" = some (.ref fh))(Fh:zA K "is_whole" "is_whole" gi fh BX)(bh:Binds K BX ["value"] []) :
  zb P w K mg base aG 2 f fd ["value", "least", "most"] iX:=by
 have G:zb P w K mg base aG 1 fh BX ["value"] kB:=lU Fh T
 refine F.ok lE (fun vs H Q E h=>?_) (fun cdv A outer s H vs Q E hr h=>?_)
 ·obtain⟨i,a,b,rfl,_⟩:=h
  rfl
 ·obtain⟨i,a,b,rfl,q⟩:=h
  refine⟨_,ai (ar (dB (au G hr rfl mh Fh.kp bh .nil aq (aa (pv 0) ad)) (dA (lS pk pk (pv 1) (pv 0) (pv 2))))),?_⟩
  refine⟨_,rfl,i,rfl,true,rfl,aK ?_⟩
  refine⟨_,rfl,_,rfl,_,_,rfl,rfl,_,rfl,?_⟩
  by_cases h1:a <= i
  ·rw[decide_eq_true h1]
   refine aK ⟨_,rfl,_,_,rfl,rfl,?_⟩
   show Q (V.bl (decide (i <= b))) H
   by_cases h2:i <= b
   ·rw[decide_eq_true h2];rw[decide_eq_true ⟨h1,h2⟩]at q;exact q
   ·rw[decide_eq_false h2];rw[decide_eq_false fun z=>h2 z.2]at q;exact q
  ·rw[decide_eq_false h1]
   refine aH ?_
   rw[decide_eq_false fun z=>h1 z.1]at q;exact q
theorem Fy:ap ["places", "one", "other", "last"] ["places", "one", "other"] (aj xw):=L2.zF
theorem xX {f fh:Addr}{fd BX:FuncData}(F:zA K "are_two_places" "are_two_places" xw f fd)(mh:mg "is_within" = some (.ref fh))(kh:keepIn K (.ref fh)=true)(bh:Binds K BX ["value", "least", "most"] [])
  (G:zb P w K mg base aG 2 fh BX ["value", "least", "most"] iX) :
  zb P w K mg base aG 3 f fd ["places", "one", "other"] rq:=by
 refine F.ok Fy (fun vs H Q E h=>?_) (fun cdv A outer s H vs Q E hr h=>?_)
 ·obtain⟨i,a,b,rfl,_⟩:=h
  rfl
 ·obtain⟨n,a,b,rfl,q⟩:=h
  refine⟨_,af (aD (i:=3) Fy.nd rfl (Or.inl rfl) (aC e9 (pv 0) ak))
   (ai (ar (dB (au G hr rfl mh kh bh .nil aq (aa (pv 1) (aa ak (aa (pv 3) ad))))
    (dB (au G hr rfl mh kh bh .nil aq (aa (pv 2) (aa ak (aa (pv 3) ad)))) (dA (c8 jk (pv 1) (pv 2) (az _))))))),?_⟩
  refine⟨_,rfl,_,_,rfl,rfl,?_⟩
  refine⟨_,rfl,_,rfl,a,0,n - 1,rfl,_,rfl,?_⟩
  unfold jl at q
  dsimp only at q
  by_cases h1:0 <= a/\a <= n - 1
  ·rw[decide_eq_true h1]at q ⊢
   rw[Bool.true_and]at q
   refine aK ⟨_,rfl,_,rfl,b,0,n - 1,rfl,_,rfl,?_⟩
   by_cases h2:0 <= b/\b <= n - 1
   ·rw[decide_eq_true h2]at q ⊢
    rw[Bool.true_and]at q
    refine aK ⟨_,rfl,_,rfl,rfl,?_⟩
    have e:decide (V.int a=V.int b)=decide (a=b):=by
     by_cases h:a=b
     ·rw[h];simp
     ·rw[decide_eq_false h,decide_eq_false fun z=>h (by injection z)]
    show Q (V.bl (!decide (V.int a=V.int b))) H
    rw[e];exact q
   ·rw[decide_eq_false h2]at q ⊢
    exact aH q
  ·rw[decide_eq_false h1]at q ⊢
   exact aH q
end K92
namespace L2
open PySem
theorem il {H1:Hp}{e d:Addr}{o o' x:HO}(he:H1 e=none)(hd:upd H1 e o d=none) :
  za H1 (uq (upd (upd (upd H1 e o) d x) e o') e)/\(uq (upd (upd (upd H1 e o) d x) e o') e) d=some x/\(upd (upd (upd H1 e o) d x) e o') e=some o':=by
 have C0:d ≠ e:=fun z=>by rw[z,ac]at hd;cases hd
 have Uw:H1 d=none:=by rw[ae C0]at hd;exact hd
 refine⟨fun b u q=>?_,?_,ac⟩
 ·have BD:b ≠ e:=ah q he
  have hbd:b ≠ d:=ah q Uw
  rw[dE BD,ae BD,ae hbd,ae BD];exact q
 ·rw[dE C0,ae C0,ac]
end L2
namespace K92
open PySem L2
variable {P:Program}{w:World}{K:Frag}{mg:Str->Option Value}{base:Heap}
inductive Due | places | many (k:Nat) | zB (k:Nat) | good
noncomputable def mW (n:Int)(ps:List (Int × Int)):Option Nat:=ps.findIdx? fun p=>!jl n p
noncomputable def fz (n:Int)(ps:List (Int × Int)):Due:=if decide (1 <= n/\n <= 12)=false then .places else if 40 < ps.length then .many ps.length else match mW n ps with | some k => .zB k | none => .good
structure Cs where
 np:Addr
 tm:Addr
 nr:Addr
 land:Addr
noncomputable def qb (K:Frag)(fld:Str):Sp:=fun vs H Q _=>∃ e C tt v,vs=[.ref e,v]/\H e=some (bL e C tt none)/\gs K C/\findIn K (.ref C) fld=some none/\∀ d,H d=none->Q .zt (upd (upd H d (.xd [(fld,v)])) e (bL e C tt (some d)))
noncomputable def cu (H:Hp)(c:Cs)(x dx t:Addr)(n:Int)(zi:List V)(ps:List (Int × Int)):Prop:=H x=some (.ins c.land dx [("places", .int n),("lanes", .ref t)])/\H t=some (.tup zi)/\zy H zi ps
noncomputable def rM (K:Frag)(c:Cs):Sp:=fun vs H Q E=>∃ x dx n p zo ps,vs=[.ref x, .int n, .ref p]/\H x=some (.ins c.land dx [])/\zf K H p zo/\zy H zo ps/\zo.length <= 1000 /\
 (fz n ps = .places->∀ H',za H H'->E (.ref c.np) none H') /\
 (∀ k,fz n ps = .many k->∀ H' d,za H H'->H' d=some (.xd [("many", .int k)])->E (.ref c.tm) (some d) H') /\
 (∀ k,fz n ps = .zB k->∀ H' d,za H H'->H' d=some (.xd [("lane", .int k)])->E (.ref c.nr) (some d) H') /\
 (fz n ps = .good->∀ H' t zi,(∀ b o,b ≠ x->H b=some o->H' b=some o)->cu H' c x dx t n zi ps->Q .zt H')
noncomputable def rg (s:Stmt):Scope:=match s with
 | .Assign _ (.Call _ [.ListComp _ _ sc _] _ _) _=>sc
 | _=>{ kind := .function,names:=[],isGenerator:=false,isCoroutine:=false }
noncomputable def jf (s:Stmt):Scope:=match aJ s with
 | .Return (some (.ListComp _ _ sc _)) _ :: _=>sc
 | _=>{ kind := .function,names:=[],isGenerator:=false,isCoroutine:=false }
abbrev NI:List Str:=["self", "places", "lanes", "lane", "pair"]
structure Exc (K:Frag)(mg:Str->Option Value)(c:Cs)(f1 f2:Addr)(d1 d2:FuncData):Prop where
 mnp:mg "NoPlaces" = some (.ref c.np)
 Ux:b0 K c.np none=true
 knp:keepIn K (.ref c.np)=true
 mtm:mg "TooMany" = some (.ref c.tm)
 Uy:b0 K c.tm (some (.ref f1))=true
 ktm:keepIn K (.ref c.tm)=true
 ctm:gs K c.tm
 ntm:findIn K (.ref c.tm) "many" = some none
 itm:isFn K (.ref f1)=true
 Ftm:zA K "__init__" "TooMany.__init__" Nn f1 d1
 btm:Binds K d1 ["self", "many"] []
 mnr:mg "NoRoad" = some (.ref c.nr)
 Uz:b0 K c.nr (some (.ref f2))=true
 knr:keepIn K (.ref c.nr)=true
 cnr:gs K c.nr
 nnr:findIn K (.ref c.nr) "lane" = some none
 inr:isFn K (.ref f2)=true
 Fnr:zA K "__init__" "NoRoad.__init__" Np f2 d2
 bnr:Binds K d2 ["self", "lane"] []
structure lw (K:Frag)(c:Cs):Prop where
 cl:B7 K c.land
 np:zl K c.land "places"
 nl:zl K c.land "lanes"
theorem j4 {n:Int}{ps:List (Int × Int)}(h:∀ p ∈ ps,jl n p=true):mW n ps=none:=by
 unfold mW
 rw[List.findIdx?_eq_none_iff]
 intro p hp
 rw[h p hp];rfl
theorem oC {n:Int}{ps:List (Int × Int)}{i:Nat}{p:Int × Int}(h:∀ q ∈ ps.take i,jl n q=true)(hi:ps[i]? = some p)(hb:jl n p=false):mW n ps=some i:=by
 unfold mW
 rw[List.findIdx?_eq_some_iff_getElem]
 obtain⟨zL,e⟩:=List.getElem?_eq_some_iff.mp hi
 refine⟨zL,by rw[e,hb];rfl,fun j hj=>?_⟩
 have hm:ps[j]'(lt_trans hj zL) ∈ ps.take i:=List.mem_take_iff_getElem.mpr ⟨j,by omega,rfl⟩
 rw[h _ hm];simp
noncomputable def Off (x:Addr)(H H':Hp):Prop:=∀ b o,b ≠ x->H b=some o->H' b=some o
theorem Off.sq {K:Frag}{H H':Hp}{x p C dx:Addr}{fs:List (Str × V)}{xs:List V}(o:Off x H H')(hx:H x=some (.ins C dx fs))(h:zf K H p xs):zf K H' p xs:=by
 rcases h with (h | ⟨ob,h⟩) | h
 ·exact .inl (.inl (o _ _ (aY h hx (by intro z;cases z)) h))
 ·exact .inl (.inr ⟨ob,o _ _ (aY h hx (by intro z;cases z)) h⟩)
 ·exact .inr h
theorem Off.Dj {H H':Hp}{x C dx:Addr}{fs:List (Str × V)}(o:Off x H H')(hx:H x=some (.ins C dx fs)):∀ {vs:List V}{ps:List (Int × Int)},zy H vs ps->zy H' vs ps
 | _,_, .nil => .nil
 | _,_, .cons ⟨t,e,q⟩ r => .cons ⟨t,e,o _ _ (aY q hx (by intro z;cases z)) q⟩ (Off.Dj o hx r)
theorem Off.same {H H1 H2:Hp}{x:Addr}(a:Off x H H1)(b:za H1 H2):Off x H H2:=fun c o n e=>b _ _ (a c o n e)
theorem P9:ap ["self", "many"] ["self", "many"] (aj Nn):=L2.zF
theorem PB:ap ["self", "lane"] ["self", "lane"] (aj Np):=L2.zF
theorem JY {f:Addr}{fd:FuncData}(F:zA K "__init__" "TooMany.__init__" Nn f fd):zb P w K mg base aG 1 f fd ["self", "many"] (qb K "many"):=by
 refine F.ok P9 (fun vs H Q E h=>?_) (fun cdv A outer s H vs Q E hr h=>?_)
 ·obtain⟨e,C,tt,v,rfl,_⟩:=h
  rfl
 ·obtain⟨e,C,tt,v,rfl,h1,h2,h3,q⟩:=h
  refine⟨_,ai (kO (pv 0) (pv 1) rfl),?_⟩
  exact⟨_,rfl,_,rfl,e,C,tt,rfl,h1,h2,h3,q⟩
theorem JZ {f:Addr}{fd:FuncData}(F:zA K "__init__" "NoRoad.__init__" Np f fd):zb P w K mg base aG 1 f fd ["self", "lane"] (qb K "lane"):=by
 refine F.ok PB (fun vs H Q E h=>?_) (fun cdv A outer s H vs Q E hr h=>?_)
 ·obtain⟨e,C,tt,v,rfl,_⟩:=h
  rfl
 ·obtain⟨e,C,tt,v,rfl,h1,h2,h3,q⟩:=h
  refine⟨_,ai (kO (pv 0) (pv 1) rfl),?_⟩
  exact⟨_,rfl,_,rfl,e,C,tt,rfl,h1,h2,h3,q⟩
theorem CG:ap NI ["self", "places", "lanes"] (aj lK):=L2.zF
theorem yM:As NI (aj lK) (rg ((aJ lK).getD 4 (.Pass ⟨0,0,0,0⟩))) [] []:=L2.B3
theorem yt:(["pair"]:List Str).Nodup:=by decide +kernel
theorem vD {c:Cs}{f fw ft f1 f2:Addr}{fd dw dt d1 d2:FuncData}{t1 t2:Tok}(F:zA K "__init__" "Land.__init__" lK f fd)(T:fB mg)(L:lw K c)(X:Exc K mg c f1 f2 d1 d2)
  (mw:mg "is_within" = some (.ref fw)) (kw:keepIn K (.ref fw)=true) (bw:Binds K dw ["value", "least", "most"] []) (Gw:zb P w K mg base aG 2 fw dw ["value", "least", "most"] iX)
  (mt:mg "are_two_places" = some (.ref ft)) (kt:keepIn K (.ref ft)=true) (bt:Binds K dt ["places", "one", "other"] []) (Gt:zb P w K mg base aG 3 ft dt ["places", "one", "other"] rq)
  (mp:mg "MOST_PLACES" = some (.int 12 t1)) (ml:mg "MOST_LANES" = some (.int 40 t2)) :
  zb P w K mg base (eE P w) 4 f fd ["self", "places", "lanes"] (rM K c):=by
 have Gm:zb P w K mg base aG 1 f1 d1 ["self", "many"] (qb K "many"):=JY X.Ftm
 have Gr:zb P w K mg base aG 1 f2 d2 ["self", "lane"] (qb K "lane"):=JZ X.Fnr
 refine F.Ej CG (fun vs H Q E h=>?_) (fun cdv A outer s H vs Q E hr h=>?_)
 ·obtain⟨x,dx,n,p,zo,ps,rfl,_⟩:=h
  rfl
 ·obtain⟨x,dx,n,p,zo,ps,rfl,hx,hp,hl,hlen,h1,h2,h3,h4⟩:=h
  have Au:zm 2 _:=hr.mono (by decide)
  refine⟨_,af (aO (bZ (bF (au Gw Au rfl mw kw bw .nil aq (aa (pv 1) (aa ak (aa (e8 (v := .int 12) rfl mp ⟨_,rfl⟩) ad))))))
    (ai (b8 rfl X.Ux aN (cf X.Ux X.knp rfl rfl X.mnp (aa bu ad)))) aI)
   (af (aO (av wP (aF ax rfl T.len PySem.boot_len (aa (pv 2) ad)) (e8 (v := .int 40) rfl ml ⟨_,rfl⟩) (az _))
    (ai (b8 rfl X.Uy aN (iF X.Uy X.itm X.ktm Gm Au X.btm rfl X.mtm (aa (aF ax rfl T.len PySem.boot_len (aa (pv 2) ad)) ad)))) aI)
   (af (bD pi rfl (lP rfl T.enum (aa (pv 2) ad)) (hZ rfl (bJ (ay (i:=3) CG.nd rfl (Or.inl rfl)) (bJ (ay (i:=4) CG.nd rfl (Or.inl rfl)) fH)))
    (ai (aO (bZ (bF (au Gt hr rfl mt kt bt .nil aq (aa (pv 1) (aa (aw aA (pv 4) ak (fun _ _=>rfl)) (aa (aw aA (pv 4) ak (fun _ _=>rfl)) ad))))))
     (ai (b8 rfl X.Uz aN (iF X.Uz X.inr X.knr Gr Au X.bnr rfl X.mnr (aa (pv 3) ad)))) aI)))
   (af (aX (pv 0) (pv 1) rfl)
   (ai (aX (pv 0) (bW dG rfl T.tuple PySem.Pv.boot_tuple (aa (b5 (own:=["pair"]) (capN:=[]) (cap:=[]) yM rfl (bC (pv 2))
    (fun C s' H' fp=>⟨ay (i:=0) yt rfl (Or.inl rfl),dq,bG (aa (aw (show oE _ (kM K) from aA) (pv 0) ak (fun _ _=>rfl)) (aa (aw (show oE _ (kM K) from aA) (pv 0) ak (fun _ _=>rfl)) ad))⟩)) ad)) rfl))))),?_⟩
  refine⟨_,rfl,n,1,12,rfl,_,rfl,?_⟩
  by_cases hn:1 <= n/\n <= 12
  rotate_left
  ·rw[decide_eq_false hn]
   refine aK ⟨by show 1 <= sizeLine;decide,?_⟩
   exact h1 (by unfold fz;rw[if_pos (decide_eq_false hn)]) H (za.refl H)
  rw[decide_eq_true hn]
  refine aH ?_
  have DO:zo.length=ps.length:=Paired.length hl
  refine⟨_,rfl,p,_,rfl, .inl hp,_,_,rfl,rfl,_,rfl,?_⟩
  by_cases hm:40 < ps.length
  ·rw[decide_eq_true (show (40:Int) < (zo.length:Nat) by omega)]
   refine aK ⟨_,rfl,p,_,rfl, .inl hp,by show 1 <= sizeLine;decide,fun e tt he=>⟨e,_,tt,_,rfl,ac,X.ctm,X.ntm,fun d hd=>⟨rfl,?_⟩⟩⟩
   obtain⟨m1,m2,m3⟩:=il (o:=bL e c.tm tt none) (o':=bL e c.tm tt (some d)) (x := .xd [("many", .int (zo.length:Nat))]) he hd
   refine⟨some d,m3,h2 ps.length ?_ _ d m1 (by rw[m2,DO])⟩
   unfold fz
   rw[decide_eq_true hn,if_neg (by decide),if_pos hm]
  rw[decide_eq_false (show ¬ (40:Int) < (zo.length:Nat) by omega)]
  refine aH ?_
  refine⟨_,rfl,p,rfl,⟨_,hp⟩,m9 (sq:=fun H=>zf K H p) (xs:=zo) (fun i σ H2=>∃ a b:Option V,za H H2/\σ=[some (.ref x),some (.int n),some (.ref p),a,b]/\∀ q ∈ ps.take i,jl n q=true)
   ⟨none,none,za.refl H,rfl,fun q hq=>by simp at hq⟩ (fun i σ H2 _ ⟨a,b,s2,_⟩=>s2.seq hp) ?_ ?_⟩
  ·rintro i v q σ H2 hv ⟨a,b,s2,rfl,Ak⟩ hq
   obtain⟨pr,hpr,t,rfl,ht⟩:=zy.get hl hv
   have s3:za H (upd H2 q (.tup [.int i, .ref t])):=s2.new hq
   refine⟨q,_,rfl,zh.of ac,rfl,_,_,rfl,_,_,rfl,rfl,?_⟩
   have Ei:zh K (upd H2 q (.tup [.int i, .ref t])) t [.int pr.1, .int pr.2]:=zh.of (s3 _ _ ht)
   refine⟨_,rfl,_,rfl,t,_,0,_,rfl,rfl,Ei,al (j:=0) rfl,?_⟩
   refine⟨_,rfl,t,_,1,_,rfl,rfl,Ei,al (j:=1) rfl,n,pr.1,pr.2,rfl,_,rfl,?_⟩
   cases ho:jl n (pr.1,pr.2) with
   | true =>
    refine aH ⟨some (.int i),some (.ref t),s3,rfl,fun z hz=>?_⟩
    rw[take_succ,hpr]at hz
    rcases mem_append.mp hz with hz | hz
    ·exact Ak z hz
    ·have:z=pr:=by simpa using hz
     rw[this];exact ho
   | false =>
    refine aK ⟨_,rfl,by show 1 <= sizeLine;decide,fun e tt he=>⟨e,_,tt,_,rfl,ac,X.cnr,X.nnr,fun d hd=>⟨rfl,?_⟩⟩⟩
    obtain⟨m1,m2,m3⟩:=il (o:=bL e c.nr tt none) (o':=bL e c.nr tt (some d)) (x := .xd [("lane", .int i)]) he hd
    refine⟨some d,m3,h3 i ?_ _ d (s3.trans m1) m2⟩
    unfold fz
    rw[decide_eq_true hn,if_neg (by decide),if_neg hm,oC Ak hpr ho]
  ·rintro σ H2 ⟨a,b,s2,rfl,Ak⟩
   have Ka:fz n ps = .good:=by
    unfold fz
    rw[decide_eq_true hn,if_neg (by decide),if_neg hm,j4 (fun z hz=>Ak z (by rw[DO,take_length];exact hz))]
   have El:=s2 _ _ hx
   refine⟨_,rfl,_,rfl,x,c.land,dx,_,rfl,El,L.cl,L.np,by show 0 < 1000;decide,?_⟩
   generalize U0:upd H2 x (.ins c.land dx (aL "places" (.int n) []))=H3
   have o3:Off x H H3:=fun b o hb e=>by rw[← U0,ae hb];exact s2 _ _ e
   have x3:H3 x=some (.ins c.land dx [("places", .int n)]):=by rw[← U0,ac];rfl
   have l3:zy H3 zo ps:=o3.Dj hx hl
   have p3:zf K H3 p zo:=o3.sq hx hp
   refine⟨_,rfl,p,rfl,⟨_,p3⟩,bT zo.length (by rw[sizeLine_eq];omega) (fun i acc H4=>za H3 H4/\acc.length=i/\zy H4 acc (ps.take i)) ⟨za.refl _,rfl, .nil⟩ (fun i acc H4 h=>le_of_eq h.2.1) ?_ ?_⟩
   ·rintro i acc H4 hi ⟨s4,ha,hA⟩
    have q4:=s4.seq p3
    refine⟨⟨zo,zo[i],q4,by simp[hi]⟩,fun y H5 ⟨e5,hy⟩=>?_⟩
    subst e5
    have hy:=hy zo q4
    obtain⟨pr,hpr,t,rfl,ht⟩:=zy.get l3 hy
    have Ei:zh K H5 t [.int pr.1, .int pr.2]:=zh.of (s4 _ _ ht)
    refine⟨_,rfl,t,_,0,_,rfl,rfl,Ei,al (j:=0) rfl,?_⟩
    refine⟨_,rfl,t,_,1,_,rfl,rfl,Ei,al (j:=1) rfl,by show 2 <= sizeLine;decide,fun r Fj=>?_⟩
    refine⟨s4.new Fj,by rw[length_append,ha];rfl,?_⟩
    rw[take_succ,hpr]
    exact zy.snoc ⟨r,rfl,ac⟩ (zy.same (za.new (za.refl _) Fj) hA)
   ·rintro acc H4 ⟨s4,ha,hA⟩
    have q4:=s4.seq p3
    refine⟨⟨zo,q4,Nat.le_refl _⟩,fun D hD=>?_⟩
    have s5:za H3 (upd H4 D (.lst acc)):=s4.new hD
    refine⟨D,acc,rfl, .inl ⟨zf.of ac,fun t ht=>?_⟩⟩
    have s6:za H3 (upd (upd H4 D (.lst acc)) t (.tup acc)):=s5.new ht
    have x6:=s6 _ _ x3
    refine⟨_,rfl,x,c.land,dx,_,rfl,x6,L.cl,L.nl,by show 1 < 1000;decide,?_⟩
    have htx:t ≠ x:=fun z=>by rw[z,s5 _ _ x3]at ht;cases ht
    refine h4 Ka _ t acc (fun b o hb e=>?_) ⟨by rw[ac];rfl,by rw[ae htx,ac],?_⟩
    ·rw[ae hb];exact s6 _ _ (o3 b o hb e)
    ·have hA':zy H4 acc ps:=by rw[DO,take_length]at hA;exact hA
     have x4:=s4 _ _ x3
     have hA6:zy (upd (upd H4 D (.lst acc)) t (.tup acc)) acc ps:=zy.same (za.new (za.new (za.refl _) hD) ht) hA'
     exact Off.Dj (x:=x) (fun b o hb e=>by rw[ae hb];exact e) x6 hA6
noncomputable def js (sel:Int × Int->Int)(ps:List (Int × Int))(pl:Int)(m:Nat):List V:=((List.range m).filter fun k=>decide (sel (ps.getD k (0,0))=pl)).map fun k:Nat=>V.int k
noncomputable def qc (c:Cs)(sel:Int × Int->Int):Sp:=fun vs H Q _=>∃ (x dx t:Addr)(n:Int)(zi:List V)(ps:List (Int × Int))(pl:Int),vs=[.ref x, .int pl]/\cu H c x dx t n zi ps/\ps.length <= 1000 /\
 ∀ H' D,za H H'->H' D=none->Q (.ref D) (upd H' D (.lst (js sel ps pl ps.length)))
theorem m8 {sel:Int × Int->Int}{ps:List (Int × Int)}{pl:Int}{i:Nat}{pr:Int × Int}(h:ps[i]? = some pr):js sel ps pl (i + 1)=if decide (sel pr=pl) then js sel ps pl i ++ [V.int i] else js sel ps pl i:=by
 have e:ps.getD i (0,0)=pr:=by rw[getD_eq_getElem?_getD,h];rfl
 unfold js
 rw[range_succ,filter_append]
 by_cases hs:sel pr=pl
 ·rw[if_pos (decide_eq_true hs),filter_cons_of_pos (by rw[e];exact decide_eq_true hs)];simp
 ·rw[if_neg (by rw[decide_eq_false hs];decide),filter_cons_of_neg (by rw[e,decide_eq_false hs];decide)];simp
theorem pC {sel:Int × Int->Int}{ps:List (Int × Int)}{pl:Int}{i:Nat}:(js sel ps pl i).length <= i:=by
 unfold js
 rw[length_map]
 have:=length_filter_le (fun k=>decide (sel (ps.getD k (0,0))=pl)) (List.range i)
 rwa [length_range]at this
theorem Kb:ap ["self", "place"] ["self", "place"] (aj si):=L2.zF
theorem Kc:As ["self", "place"] (aj si) (jf si) ["place"] [1]:=L2.B3
theorem xt:ap ["self", "place"] ["self", "place"] (aj lJ):=L2.zF
theorem yL:As ["self", "place"] (aj lJ) (jf lJ) ["place"] [1]:=L2.B3
theorem p5:(["lane", "pair", "place"]:List Str).Nodup:=by decide +kernel
theorem gq (a b:Int):decide (V.int a=V.int b)=decide (a=b):=by
 by_cases h:a=b
 ·rw[h];simp
 ·rw[decide_eq_false h,decide_eq_false fun z=>h (by injection z)]
theorem tw {c:Cs}{f:Addr}{fd:FuncData}(F:zA K "out_of" "Land.out_of" si f fd)(T:fB mg)(L:lw K c):zb P w K mg base aG 1 f fd ["self", "place"] (qc c Prod.fst):=by
 refine F.ok Kb (fun vs H Q E h=>?_) (fun cdv A outer s H vs Q E hr h=>?_)
 ·obtain⟨x,dx,t,n,zi,ps,pl,rfl,_⟩:=h
  rfl
 ·obtain⟨x,dx,t,n,zi,ps,pl,rfl,⟨hx,ht,hl⟩,hlen,q⟩:=h
  refine⟨_,ai (ar (b5 (own:=["lane", "pair"]) (capN:=["place"]) (cap:=[1]) Kc rfl (lO rfl T.enum (aa (ao (pv 0) rfl) ad))
   (fun C s' H' fp=>⟨(show PG _ _ (wb K 2 _) from hZ rfl (bJ (ay (i:=0) p5 rfl (Or.inl rfl)) (bJ (ay (i:=1) p5 rfl (Or.inl rfl)) fH))),
    bV (av bz (aw (show oE _ (kM K) from aA) (pv 1) ak (fun _ _=>rfl)) (pv 2) (az _)),pv 0⟩))),?_⟩
  have DO:zi.length=ps.length:=Paired.length hl
  refine⟨_,rfl,x,c.land,dx,_,_,rfl,hx,L.cl,L.nl,rfl,t,rfl,⟨_,zh.of ht⟩,bT ps.length (by rw[sizeLine_eq];omega) (fun i acc H4=>za H H4/\acc=js Prod.fst ps pl i) ⟨za.refl _,rfl⟩ (fun i acc H4 h=>by rw[h.2];exact pC) ?_ ?_⟩
  ·rintro i acc H4 hi ⟨s4,rfl⟩
   have q4:zh K H4 t zi:=zh.of (s4 _ _ ht)
   refine⟨⟨zi,zi[i]'(by omega),q4,by simp[DO,hi]⟩,fun y H5 ⟨r,BY,ey,h5⟩=>?_⟩
   obtain⟨v,hv,rfl⟩:=h5 zi q4
   subst ey
   obtain⟨pr,hpr,u,rfl,hu⟩:=zy.get hl hv
   have s5:za H (upd H4 r (.tup [.int i, .ref u])):=s4.new BY
   refine⟨r,_,rfl,zh.of ac,rfl,_,_,rfl,_,_,rfl,rfl,?_⟩
   refine⟨_,rfl,u,_,0,_,rfl,rfl,zh.of (s5 _ _ hu),al (j:=0) rfl,_,rfl,rfl,_,rfl,?_⟩
   rw[gq,m8 hpr]
   cases hd:decide (pr.1=pl) with
   | true=>exact aK ⟨_,rfl,s5,by simp[hd]⟩
   | false=>exact aH ⟨s5,by simp[hd]⟩
  ·rintro acc H4 ⟨s4,rfl⟩
   exact⟨⟨zi,zh.of (s4 _ _ ht),DO⟩,fun D hD=>q H4 D s4 hD⟩
theorem py {c:Cs}{f:Addr}{fd:FuncData}(F:zA K "into" "Land.into" lJ f fd)(T:fB mg)(L:lw K c):zb P w K mg base aG 1 f fd ["self", "place"] (qc c Prod.snd):=by
 refine F.ok xt (fun vs H Q E h=>?_) (fun cdv A outer s H vs Q E hr h=>?_)
 ·obtain⟨x,dx,t,n,zi,ps,pl,rfl,_⟩:=h
  rfl
 ·obtain⟨x,dx,t,n,zi,ps,pl,rfl,⟨hx,ht,hl⟩,hlen,q⟩:=h
  refine⟨_,ai (ar (b5 (own:=["lane", "pair"]) (capN:=["place"]) (cap:=[1]) yL rfl (lO rfl T.enum (aa (ao (pv 0) rfl) ad))
   (fun C s' H' fp=>⟨(show PG _ _ (wb K 2 _) from hZ rfl (bJ (ay (i:=0) p5 rfl (Or.inl rfl)) (bJ (ay (i:=1) p5 rfl (Or.inl rfl)) fH))),
    bV (av bz (aw (show oE _ (kM K) from aA) (pv 1) ak (fun _ _=>rfl)) (pv 2) (az _)),pv 0⟩))),?_⟩
  have DO:zi.length=ps.length:=Paired.length hl
  refine⟨_,rfl,x,c.land,dx,_,_,rfl,hx,L.cl,L.nl,rfl,t,rfl,⟨_,zh.of ht⟩,bT ps.length (by rw[sizeLine_eq];omega) (fun i acc H4=>za H H4/\acc=js Prod.snd ps pl i) ⟨za.refl _,rfl⟩ (fun i acc H4 h=>by rw[h.2];exact pC) ?_ ?_⟩
  ·rintro i acc H4 hi ⟨s4,rfl⟩
   have q4:zh K H4 t zi:=zh.of (s4 _ _ ht)
   refine⟨⟨zi,zi[i]'(by omega),q4,by simp[DO,hi]⟩,fun y H5 ⟨r,BY,ey,h5⟩=>?_⟩
   obtain⟨v,hv,rfl⟩:=h5 zi q4
   subst ey
   obtain⟨pr,hpr,u,rfl,hu⟩:=zy.get hl hv
   have s5:za H (upd H4 r (.tup [.int i, .ref u])):=s4.new BY
   refine⟨r,_,rfl,zh.of ac,rfl,_,_,rfl,_,_,rfl,rfl,?_⟩
   refine⟨_,rfl,u,_,1,_,rfl,rfl,zh.of (s5 _ _ hu),al (j:=1) rfl,_,rfl,rfl,_,rfl,?_⟩
   rw[gq,m8 hpr]
   cases hd:decide (pr.2=pl) with
   | true=>exact aK ⟨_,rfl,s5,by simp[hd]⟩
   | false=>exact aH ⟨s5,by simp[hd]⟩
  ·rintro acc H4 ⟨s4,rfl⟩
   exact⟨⟨zi,zh.of (s4 _ _ ht),DO⟩,fun D hD=>q H4 D s4 hD⟩
noncomputable def wM:Sp:=fun vs H Q _=>∃ m k:Nat,vs=[.int m, .int k]/\Q (.bl (m.testBit k)) H
noncomputable def vP (m:Nat):List V:=(Yd.CA m (Builtin.Int.intBits (m:Int))).map fun k:Nat=>V.int k
noncomputable def rE:Sp:=fun vs H Q _=>∃ m:Nat,vs=[.int m]/\m < 2 ^ 400/\∀ p,H p=none->Q (.ref p) (upd H p (.lst (vP m)))
noncomputable def r9 (K:Frag):Sp:=fun vs H Q _=>∃ (a:Addr)(ks:List Nat),vs=[.ref a]/\zf K H a (ks.map fun k:Nat=>V.int k)/\(∀ k ∈ ks,k <= 1000)/\Q (.int (Yd.zI ks 0:Nat)) H
theorem Kd:ap ["some", "number"] ["some", "number"] (aj uV):=L2.zF
theorem yo {f:Addr}{fd:FuncData}(F:zA K "has" "has" uV f fd):zb P w K mg base aG 1 f fd ["some", "number"] wM:=by
 refine F.ok Kd (fun vs H Q E h=>?_) (fun cdv A outer s H vs Q E hr h=>?_)
 ·obtain⟨m,k,rfl,_⟩:=h
  rfl
 ·obtain⟨m,k,rfl,q⟩:=h
  refine⟨_,ai (ar (dB (c8 wQ (pv 1) ak (az _)) (dA (c8 bz (aC sY (aC nP (pv 0) (pv 1)) ak) ak (az _))))),?_⟩
  refine⟨_,rfl,_,_,rfl,rfl,_,rfl,?_⟩
  rw[decide_eq_true (show (0:Int) <= (k:Int) by omega)]
  refine aK ?_
  refine⟨_,rfl,_,rfl,_,_,rfl,rfl,(show (0:Int) <= (k:Int) by omega),_,_,rfl,rfl,rfl,?_⟩
  have e:decide (V.int (Builtin.bitAnd ((m:Int) / 2 ^ (k:Int).toNat) 1)=V.int 1)=m.testBit k:=by
   rw[toNat_natCast,← Yd.CN m k]
   by_cases h:Builtin.bitAnd ((m:Int) / 2 ^ k) 1=1
   ·rw[h];simp
   ·rw[decide_eq_false h,decide_eq_false fun z=>h (by injection z)]
  rw[e]
  exact q
theorem tL {ks:List Nat}{i:Nat}{x:V}(h:(ks.map fun k:Nat=>V.int k)[i]? = some x):∃ k,ks[i]? = some k/\x=V.int k:=by
 rw[List.getElem?_map]at h
 cases e:ks[i]? with
 | none=>rw[e]at h;cases h
 | some k=>rw[e]at h;exact⟨k,rfl,(Option.some.inj h).symm⟩
theorem CP:ap ["numbers", "some", "number"] ["numbers"] (aj xy):=L2.zF
theorem ya {f:Addr}{fd:FuncData}(F:zA K "set_of" "set_of" xy f fd):zb P w K mg base aG 1 f fd ["numbers"] (r9 K):=by
 refine F.ok CP (fun vs H Q E h=>?_) (fun cdv A outer s H vs Q E hr h=>?_)
 ·obtain⟨a,ks,rfl,_⟩:=h
  rfl
 ·obtain⟨a,ks,rfl,hS,hk,q⟩:=h
  refine⟨_,af (aD (i:=1) CP.nd rfl (Or.inl rfl) ak)
   (af (bD PassesOwn.never rfl (bC (pv 0)) (ay (i:=2) CP.nd rfl (Or.inl rfl))
    (ai (aD (i:=1) CP.nd rfl (Or.inl rfl) (aC Jd (pv 1) (aC xS ak (pv 2))))))
   (ai (ar (pv 1)))),?_⟩
  refine⟨_,rfl,a,rfl,⟨_,hS⟩,fv (K:=K) (a:=a) (xs:=ks.map fun k:Nat=>V.int k) (fun i σ H2=>∃ v:Option V,H2=H/\σ=[some (.ref a),some (.int (Yd.zI (ks.take i) 0:Nat)),v])
   ⟨none,rfl,rfl⟩ (fun i σ H2 _ ⟨_,e,_⟩=>by rw[e];exact hS) ?_ ?_⟩
  ·rintro i x σ H2 hx ⟨v,rfl,rfl⟩
   obtain⟨k,ek,rfl⟩:=tL hx
   have Ke:=hk k (mem_of_getElem? ek)
   refine⟨_,rfl,_,rfl,_,_,rfl,rfl,⟨(show (0:Int) <= (k:Int) by omega),(show (k:Int) <= 1000000 by omega),(by decide)⟩,_,_,rfl,rfl,some (.int k),rfl,?_⟩
   have e:Builtin.bitOr ((Yd.zI (ks.take i) 0:Nat):Int) (1 * 2 ^ (k:Int).toNat)=((Yd.zI (ks.take (i + 1)) 0:Nat):Int):=by
    rw[take_succ,ek,toNat_natCast,Int.one_mul,show (2:Int) ^ k=((2 ^ k:Nat):Int) by rw[Int.natCast_pow];rfl,Yd.De,Yd.DF]
    rfl
   show [some (V.ref a),some (V.int _),some (V.int k)]=_
   rw[e]
  ·rintro σ H2 ⟨v,rfl,rfl⟩
   refine⟨_,rfl,?_⟩
   rw[length_map,take_length]
   exact q
theorem Kf:ap ["some"] ["some"] (aj so):=L2.zF
theorem Kg:(["number", "some"]:List Str).Nodup:=by decide +kernel
theorem Kh:As ["some"] (aj so) (jf so) ["some"] [0]:=L2.B3
theorem yf {f fh:Addr}{fd BX:FuncData}(F:zA K "members" "members" so f fd)(T:fB mg)(mh:mg "has" = some (.ref fh))(Fh:zA K "has" "has" uV fh BX)(bh:Binds K BX ["some", "number"] []):zb P w K mg base aG 2 f fd ["some"] rE:=by
 have G:zb P w K mg base aG 1 fh BX ["some", "number"] wM:=yo Fh
 refine F.ok Kf (fun vs H Q E h=>?_) (fun cdv A outer s H vs Q E hr h=>?_)
 ·obtain⟨m,rfl,_⟩:=h
  rfl
 ·obtain⟨m,rfl,hm,q⟩:=h
  refine⟨_,ai (ar (b5 (own:=["number"]) (capN:=["some"]) (cap:=[0]) Kh rfl
   (aR rfl T.range (aa (xM PySem.F.plainAttrs_int PySem.F.slot_int_bit_length PySem.F.type_int_bit_length vL (pv 0)) ad))
   (fun C s' H' fp=>⟨ay (i:=0) Kg rfl (Or.inl rfl),bV (bF (au G hr rfl mh Fh.kp bh .nil aq (aa (pv 1) (aa (pv 0) ad)))),pv 0⟩))),?_⟩
  have hb:Builtin.Int.intBits (m:Int) <= 400:=Yd.bits_le hm
  refine⟨_,rfl,rfl,_,rfl,rfl,(Builtin.Int.intBits (m:Int):Nat),rfl,by omega,by omega,?_⟩
  rw[toNat_natCast]
  refine mO (fun k=>m.testBit k) (fun k=>V.int k) (by rw[sizeLine_eq];omega) (fun i acc N hi h=>?_) q
  refine⟨_,rfl,_,rfl,m,i,by simp,_,rfl,?_⟩
  cases e:m.testBit i with
  | true =>
   rw[e]at h
   refine aK ⟨_,rfl,?_⟩
   simpa using h
  | false =>
   rw[e]at h
   exact aH (by simpa using h)
noncomputable def iz (ks:List Nat):List Int:=ks.map fun k:Nat=>(k:Int)
theorem vV (ks:List Nat):(iz ks).map V.int=ks.map fun k:Nat=>V.int k:=by rw[iz,map_map];rfl
theorem vO (m:Nat):vP m=(iz (Yd.CA m (Builtin.Int.intBits (m:Int)))).map V.int:=by rw[vV];rfl
theorem vU {ks:List Nat}(h:ks.Pairwise (· < ·)):(iz ks).Pairwise (· < ·):=by
 unfold iz
 rw[List.pairwise_map]
 exact h.imp fun z=>by omega
theorem Am {ks:List Nat}{k:Int}:k ∈ iz ks↔∃ n ∈ ks,(n:Int)=k:=mem_map
theorem nS {ks:List Nat}{ms:List Int}(h1:ms.Pairwise (· < ·))(h2:∀ k,k ∈ ms↔k ∈ iz ks):iz (Yd.CA (Yd.zI ks 0) (Builtin.Int.intBits ((Yd.zI ks 0:Nat):Int)))=ms:=by
 refine Yd.Ck (vU (Yd.Df _ _)) h1 fun k=>?_
 rw[h2 k,Am,Am]
 constructor
 ·rintro⟨n,hn,e⟩
  rw[Yd.Cj (Yd.CM _),Yd.Al]at hn
  exact⟨n,by simpa using hn,e⟩
 ·rintro⟨n,hn,e⟩
  refine⟨n,?_,e⟩
  rw[Yd.Cj (Yd.CM _),Yd.Al]
  simpa using hn
theorem rR {ks:List Nat}{b:Nat}(h:∀ k ∈ ks,k < b):Yd.zI ks 0 < 2 ^ b:=by
 rw[← Yd.E7 h]
 exact Yd.BH ks b
theorem pX {ks:List Nat}{k:Nat}:(Yd.zI ks 0).testBit k=decide ((k:Int) ∈ iz ks):=by
 rw[Yd.Al,Nat.zero_testBit,Bool.false_or]
 congr 1
 refine propext ⟨fun h=>Am.mpr ⟨k,h,rfl⟩,fun h=>?_⟩
 obtain⟨n,hn,e⟩:=Am.mp h
 have:n=k:=by omega
 rw[← this]
 exact hn
structure Rw where
 p:Int
 g:Int
 c:Option Nat
 s:List Nat
noncomputable def aZ (r:Rw):gc:=[some r.p,some r.g,r.c.map fun k:Nat=>(k:Int)]
noncomputable def eI (sel:Int × Int->Int)(ps:List (Int × Int))(pl:Int):List Nat:=(List.range ps.length).filter fun k=>decide (sel (ps.getD k (0,0))=pl)
noncomputable def eK (n:Int)(ps:List (Int × Int))(r:Rw):Bool :=
 jl n (r.p,r.g) && ((match r.c with | none=>true | some k=>decide (k ∈ eI Prod.snd ps r.p)) && r.s.all fun k=>decide (k ∈ eI Prod.fst ps r.p))
noncomputable def lV (sel:Int × Int->Int)(ps:List (Int × Int))(pl:Int)(k:Nat):Bool:=decide (ps.length <= k) || !decide (sel (ps.getD k (0,0))=pl)
noncomputable def mV (n:Int)(ps:List (Int × Int))(ahead:List Rw)(r:Rw):Bool :=
 !jl n (r.p,r.g) || ((match r.c with | none=>false | some k=>lV Prod.snd ps r.p k) || ((r.s.any fun k=>lV Prod.fst ps r.p k) || ahead.any fun a=>decide (aZ a=aZ r)))
theorem pE {sel:Int × Int->Int}{ps:List (Int × Int)}{pl:Int}{k:Nat}:decide (k ∈ eI sel ps pl) = !lV sel ps pl k:=by
 unfold eI lV
 by_cases h1:ps.length <= k
 ·rw[decide_eq_true h1,decide_eq_false]
  ·rfl
  ·intro z
   have:=mem_range.mp (mem_filter.mp z).1
   omega
 ·rw[decide_eq_false h1]
  by_cases h2:sel (ps.getD k (0,0))=pl
  ·rw[decide_eq_true h2,decide_eq_true]
   ·rfl
   ·exact mem_filter.mpr ⟨mem_range.mpr (by omega),decide_eq_true h2⟩
  ·rw[decide_eq_false h2,decide_eq_false]
   ·rfl
   ·intro z
    exact h2 (of_decide_eq_true (mem_filter.mp z).2)
theorem wq {l:List Nat}{f:Nat->Bool}:(l.all fun k=>!f k) = !(l.any f):=by
 induction l with
 | nil=>rfl
 | cons a l ih=>rw[all_cons,any_cons,ih,Bool.not_or]
theorem gZ (n:Int)(ps:List (Int × Int))(ahead:List Rw)(r:Rw):mV n ps ahead r=(!eK n ps r || ahead.any fun a=>decide (aZ a=aZ r)):=by
 unfold mV eK
 have e:(r.s.all fun k=>decide (k ∈ eI Prod.fst ps r.p)) = !(r.s.any fun k=>lV Prod.fst ps r.p k):=by
  rw[← wq]
  congr 1
  funext k
  exact pE
 rw[e]
 cases hc:r.c with
 | none =>
  dsimp only
  cases jl n (r.p,r.g)<;>cases (r.s.any fun k=>lV Prod.fst ps r.p k)<;>cases (ahead.any fun a=>decide (aZ a=aZ r))<;>rfl
 | some k =>
  dsimp only
  rw[pE]
  cases jl n (r.p,r.g)<;>cases (lV Prod.snd ps r.p k)<;>cases (r.s.any fun k=>lV Prod.fst ps r.p k)<;>cases (ahead.any fun a=>decide (aZ a=aZ r))<;>rfl
noncomputable def cX (n:Int)(ps:List (Int × Int))(rs:List Rw)(m:Nat):Option Nat:=(List.range m).find? fun k=>mV n ps (rs.take k) (rs.getD k ⟨0,0,none,[]⟩)
theorem fY {n:Int}{ps:List (Int × Int)}{rs:List Rw}:∀ {m:Nat},(∀ k,k < m->mV n ps (rs.take k) (rs.getD k ⟨0,0,none,[]⟩)=false)->cX n ps rs m=none:=by
 intro m h
 unfold cX
 rw[List.find?_eq_none]
 intro k hk
 rw[h k (mem_range.mp hk)]
 decide
theorem jB {n:Int}{ps:List (Int × Int)}{rs:List Rw}{m i:Nat}(hi:i < m)(h:∀ k,k < i->mV n ps (rs.take k) (rs.getD k ⟨0,0,none,[]⟩)=false)(hb:mV n ps (rs.take i) (rs.getD i ⟨0,0,none,[]⟩)=true):cX n ps rs m=some i:=by
 unfold cX
 rw[List.find?_range_eq_some]
 refine⟨hb,mem_range.mpr hi,fun j hj=>?_⟩
 rw[h j hj]
 rfl
noncomputable def dQ (rs:List Rw)(k:gc):Option Rw:=rs.reverse.find? fun r=>decide (aZ r=k)
theorem oh {rs:List Rw}{r:Rw}{k:gc}:dQ (rs ++ [r]) k=if k=aZ r then some r else dQ rs k:=by
 unfold dQ
 rw[List.reverse_append,List.reverse_singleton,List.singleton_append,List.find?_cons]
 by_cases h:aZ r=k
 ·rw[decide_eq_true h,if_pos h.symm]
 ·rw[decide_eq_false h,if_neg (Ne.symm h)]
theorem kZ {rs:List Rw}{k:gc}:(dQ rs k).isSome=rs.any fun r=>decide (aZ r=k):=by
 unfold dQ
 rw[Bool.eq_iff_iff,List.find?_isSome,List.any_eq_true]
 exact⟨fun⟨x,hx,h⟩=>⟨x,mem_reverse.mp hx,h⟩,fun⟨x,hx,h⟩=>⟨x,mem_reverse.mpr hx,h⟩⟩
noncomputable def cV:Option Nat->V
 | none => .zt
 | some k => .int k
noncomputable def bQ (ks:List Nat):List V:=ks.map fun k:Nat=>V.int k
noncomputable def GU (H:Hp)(t l:Addr)(r:Rw):Prop:=H t=some (.tup [.int r.p, .int r.g,cV r.c, .ref l])/\H l=some (.lst (bQ r.s))
noncomputable def GV (H:Hp)(v:V)(r:Rw):Prop:=∃ t l,v = .ref t/\GU H t l r
abbrev C1 (H:Hp):List V->List Rw->Prop:=Paired (GV H)
theorem GU.same {H H':Hp}{t l:Addr}{r:Rw}(h:za H H')(x:GU H t l r):GU H' t l r:=⟨h _ _ x.1,h _ _ x.2⟩
theorem GV.same {H H':Hp}{v:V}{r:Rw}(h:za H H'):GV H v r->GV H' v r:=fun⟨t,l,e,x⟩=>⟨t,l,e,x.same h⟩
theorem C1.imp {H H':Hp}(h:∀ v r,GV H v r->GV H' v r):∀ {vs:List V}{rs:List Rw},C1 H vs rs->C1 H' vs rs
 | _,_, .nil => .nil
 | _,_, .cons x r => .cons (h _ _ x) (C1.imp h r)
theorem C1.same {H H':Hp}(h:za H H'){vs:List V}{rs:List Rw}(x:C1 H vs rs):C1 H' vs rs:=C1.imp (fun _ _ z=>z.same h) x
theorem C1.get {H:Hp}:∀ {vs:List V}{rs:List Rw}{i:Nat}{v:V},C1 H vs rs->vs[i]? = some v->∃ r,rs[i]? = some r/\GV H v r
 | _,_,_,_, .nil,e=>by simp at e
 | _,_,0,_, .cons x _,e=>by simp at e;subst e;exact⟨_,rfl,x⟩
 | _,_,i + 1,v, .cons _ t,e=>by
  obtain⟨r,h1,h2⟩:=C1.get (i:=i) (v:=v) t (by simpa using e)
  exact⟨r,by simpa using h1,h2⟩
theorem pB (r:Rw):(aZ r).map qX=[.int r.p, .int r.g,cV r.c]:=by
 cases r with
 | mk p g c s=>cases c<;>rfl
theorem oj {sel:Int × Int->Int}{ps:List (Int × Int)}{pl:Int}:js sel ps pl ps.length=(iz (eI sel ps pl)).map V.int:=by rw[vV];rfl
theorem oi {k:Nat}{l:List Nat}:decide ((k:Int) ∈ iz l)=decide (k ∈ l):=by
 congr 1
 refine propext ⟨fun h=>?_,fun h=>Am.mpr ⟨k,h,rfl⟩⟩
 obtain⟨n,hn,e⟩:=Am.mp h
 have:n=k:=by omega
 rw[← this]
 exact hn
theorem pQ (ks l:List Nat):((bQ ks).filter fun _=>true).map (fun v=>match v with | .int i=>V.bl (decide (i ∈ iz l)) | _ => .zt)=(ks.map fun k=>decide (k ∈ l)).map V.bl:=by
 rw[List.filter_eq_self.mpr (fun _ _=>rfl)]
 unfold bQ
 rw[map_map,map_map]
 refine List.map_congr_left fun k _=>?_
 show V.bl (decide ((k:Int) ∈ iz l))=V.bl (decide (k ∈ l))
 rw[oi]
theorem ux (ks:List Nat)(p:Nat->Bool):(ks.map p).all id=ks.all p:=by rw[all_map];rfl
noncomputable def wG (K:Frag):Sp:=fun vs H Q _=>∃ (i:Int)(p:Addr)(ns:List Int),vs=[.int i, .ref p]/\zf K H p (ns.map V.int)/\Q (.bl (decide (i ∈ ns))) H
noncomputable def rQ (c:Cs):Sp:=fun vs H Q _=>∃ (x dx lt t l:Addr)(n:Int)(zi:List V)(ps:List (Int × Int))(r:Rw),vs=[.ref x, .ref t]/\cu H c x dx lt n zi ps/\GU H t l r/\ps.length <= 1000/\r.s.length <= 1000/\∀ H',za H H'->Q (.bl (eK n ps r)) H'
structure Ki (K:Frag)(c:Cs)(f3 f4:Addr)(d3 d4:FuncData):Prop where
 m3:bA K c.land "out_of" f3
 m4:bA K c.land "into" f4
 b3:Binds K d3 ["self", "place"] []
 b4:Binds K d4 ["self", "place"] []
abbrev NF:List Str:=["land", "row", "place", "came", "begin_here"]
noncomputable def uy (s:Stmt):Scope:=match s with
 | .Return (some (.Call _ [.ListComp _ _ sc _] _ _)) _=>sc
 | _=>{ kind := .function,names:=[],isGenerator:=false,isCoroutine:=false }
theorem Kj:ap ["value", "numbers"] ["value", "numbers"] (aj x5):=L2.zF
theorem yc {f fh:Addr}{fd BX:FuncData}(F:zA K "is_one_of" "is_one_of" x5 f fd)(T:fB mg)(mh:mg "is_whole" = some (.ref fh))(Fh:zA K "is_whole" "is_whole" gi fh BX)(bh:Binds K BX ["value"] []) :
  zb P w K mg base aG 2 f fd ["value", "numbers"] (wG K):=by
 have G:zb P w K mg base aG 1 fh BX ["value"] kB:=lU Fh T
 refine F.ok Kj (fun vs H Q E h=>?_) (fun cdv A outer s H vs Q E hr h=>?_)
 ·obtain⟨i,p,ns,rfl,_⟩:=h
  rfl
 ·obtain⟨i,p,ns,rfl,hS,q⟩:=h
  refine⟨_,ai (ar (dB (au G hr rfl mh Fh.kp bh .nil aq (aa (pv 0) ad)) (dA (c8 qm (pv 0) (pv 1) (by with_unfolding_all rfl))))),?_⟩
  refine⟨_,rfl,i,rfl,true,rfl,aK ?_⟩
  refine⟨_,rfl,_,rfl,p,_,rfl, .inl hS,rfl,fM _,?_⟩
  show Q (V.bl (uE (V.int i) (ns.map V.int))) H
  rw[iP]
  exact q
theorem BJ:ap NF ["land", "row"] (aj lL):=L2.zF
theorem yN:As NF (aj lL) (uy ((aJ lL).getD 5 (.Pass ⟨0,0,0,0⟩))) ["begin_here"] [4]:=L2.B3
theorem yu:(["lane", "begin_here"]:List Str).Nodup:=by decide +kernel
theorem vH {c:Cs}{f ft fo f3 f4:Addr}{fd dt d1 d3 d4:FuncData}(F:zA K "row_fits" "row_fits" lL f fd)(T:fB mg)(L:lw K c)(M:Ki K c f3 f4 d3 d4)
  (mt:mg "are_two_places" = some (.ref ft)) (kt:keepIn K (.ref ft)=true) (bt:Binds K dt ["places", "one", "other"] []) (Gt:zb P w K mg base aG 3 ft dt ["places", "one", "other"] rq)
  (mo:mg "is_one_of" = some (.ref fo)) (ko:keepIn K (.ref fo)=true) (bo:Binds K d1 ["value", "numbers"] []) (Go:zb P w K mg base aG 2 fo d1 ["value", "numbers"] (wG K))
  (G3:zb P w K mg base aG 1 f3 d3 ["self", "place"] (qc c Prod.fst)) (G4:zb P w K mg base aG 1 f4 d4 ["self", "place"] (qc c Prod.snd)) :
  zb P w K mg base aG 4 f fd ["land", "row"] (rQ c):=by
 refine F.ok BJ (fun vs H Q E h=>?_) (fun cdv A outer s H vs Q E hr h=>?_)
 ·obtain⟨x,dx,lt,t,l,n,zi,ps,r,rfl,_⟩:=h
  rfl
 ·obtain⟨x,dx,lt,t,l,n,zi,ps,r,rfl,hL,hR,hlen,Pu,q⟩:=h
  have zU:zm 1 _:=hr.mono (by decide)
  have Au:zm 2 _:=hr.mono (by decide)
  refine⟨_,af (aD (i:=2) BJ.nd rfl (Or.inl rfl) (aw aA (pv 1) ak (fun _ _=>rfl)))
   (af (aD (i:=3) BJ.nd rfl (Or.inl rfl) (aw aA (pv 1) ak (fun _ _=>rfl)))
   (af (aO (bZ (bF (au Gt hr rfl mt kt bt .nil aq (aa (ao (pv 0) rfl) (aa (pv 2) (aa (aw aA (pv 1) ak (fun _ _=>rfl)) ad)))))) (ai (ar ji)) aI)
   (af (aO (PW.pt (kN (av vj (pv 3) cx (az _)) (iG (bZ (bF (au Go Au rfl mo ko bo .nil aq (aa (pv 3) (aa (aB (pv 0) L.cl M.m4 G4 zU M.b4 .nil aq (aa (pv 2) ad)) ad)))))))) (ai (ar ji)) aI)
   (af (aD (i:=4) BJ.nd rfl (Or.inr rfl) (aB (pv 0) L.cl M.m3 G3 zU M.b3 .nil aq (aa (pv 2) ad)))
   (ai (ar (aF (j3 rfl) rfl T.all PyProof.Rows.boot_all (aa (b5 (own:=["lane"]) (capN:=["begin_here"]) (cap:=[4]) yN rfl (bC (aw aA (pv 1) ak (fun _ _=>rfl)))
    (fun C s' H' fp=>⟨ay (i:=0) yu rfl (Or.inl rfl),dq,au Go Au rfl mo ko bo .nil aq (aa (pv 0) (aa (pv 1) ad))⟩)) ad)))))))),?_⟩
  obtain⟨hT,hl⟩:=hR
  have PD:zh K H t [.int r.p, .int r.g,cV r.c, .ref l]:=zh.of hT
  refine⟨_,rfl,t,_,0,_,rfl,rfl,PD,al (j:=0) rfl,?_⟩
  refine⟨_,rfl,t,_,2,_,rfl,rfl,PD,al (j:=2) rfl,?_⟩
  refine⟨_,rfl,x,c.land,dx,_,_,rfl,hL.1,L.cl,L.np,rfl,_,rfl,_,rfl,t,_,1,_,rfl,rfl,PD,al (j:=1) rfl,n,r.p,r.g,rfl,_,rfl,?_⟩
  cases ho:jl n (r.p,r.g) with
  | false =>
   have e:eK n ps r=false:=by unfold eK;rw[ho];rfl
   refine aK ?_
   have:=q H (za.refl H)
   rw[e]at this
   exact this
  | true =>
   refine aH ?_
   cases hc:r.c with
   | none =>
    refine⟨_,rfl,rfl,_,rfl,aH (aH ?_)⟩
    have s1:=za.refl H
    have e1:eK n ps r=r.s.all fun k=>decide (k ∈ eI Prod.fst ps r.p):=by unfold eK;rw[ho,hc];rfl
    refine⟨_,rfl,x,dx,_,rfl,s1 _ _ hL.1,rfl,_,rfl,x,dx,lt,n,zi,ps,r.p,rfl,⟨s1 _ _ hL.1,s1 _ _ hL.2.1,zy.same s1 hL.2.2⟩,hlen,fun H2 D2 s2 B9=>?_⟩
    have s3:=(s1.trans s2).new (o := .lst (js Prod.fst ps r.p ps.length)) B9
    have g2:(upd H2 D2 (.lst (js Prod.fst ps r.p ps.length))) D2=some (.lst (js Prod.fst ps r.p ps.length)):=ac
    generalize upd H2 D2 (.lst (js Prod.fst ps r.p ps.length))=H3 at s3 g2 ⊢
    refine⟨_,rfl,t,_,3,_,rfl,rfl,zh.of (s3 _ _ hT),al (j:=3) rfl,l,rfl,⟨_,zf.of (s3 _ _ hl)⟩,?_⟩
    refine fA (xs:=bQ r.s) (fun _=>true) (fun v=>match v with | .int i => .bl (decide (i ∈ iz (eI Prod.fst ps r.p))) | _ => .zt) (by rw[sizeLine_eq];simp only[bQ,length_map];omega) (zf.of (s3 _ _ hl)) (fun y acc N hy h=>?_) (fun D hD=>?_)
    ·obtain⟨k',_,rfl⟩:=mem_map.mp hy
     exact⟨_,rfl,_,rfl,(k':Int),D2,iz (eI Prod.fst ps r.p),rfl,by rw[← oj];exact zf.of g2,by simpa using h⟩
    ·rw[pQ]
     refine⟨D,r.s.map fun k=>decide (k ∈ eI Prod.fst ps r.p),rfl,zf.of ac,?_⟩
     have:=q _ (s3.new (o := .lst ((r.s.map fun k=>decide (k ∈ eI Prod.fst ps r.p)).map V.bl)) hD)
     rw[e1]at this
     rw[ux]
     exact this
   | some k =>
    refine⟨_,rfl,rfl,_,rfl,aK ?_⟩
    refine⟨_,rfl,_,rfl,x,dx,_,rfl,hL.1,rfl,_,rfl,x,dx,lt,n,zi,ps,r.p,rfl,hL,hlen,fun H' D s' hD=>?_⟩
    have s1:=s'.new (o := .lst (js Prod.snd ps r.p ps.length)) hD
    refine⟨(k:Int),D,iz (eI Prod.snd ps r.p),rfl,by rw[← oj];exact zf.of ac,_,rfl,?_⟩
    rw[oi]
    cases hk:decide (k ∈ eI Prod.snd ps r.p) with
    | false =>
     refine aK ?_
     have e:eK n ps r=false:=by unfold eK;rw[ho,hc];dsimp only;rw[hk];rfl
     have:=q _ s1
     rw[e]at this
     exact this
    | true =>
     have e1:eK n ps r=r.s.all fun k=>decide (k ∈ eI Prod.fst ps r.p):=by unfold eK;rw[ho,hc];dsimp only;rw[hk];rfl
     refine aH ?_
     refine⟨_,rfl,x,dx,_,rfl,s1 _ _ hL.1,rfl,_,rfl,x,dx,lt,n,zi,ps,r.p,rfl,⟨s1 _ _ hL.1,s1 _ _ hL.2.1,zy.same s1 hL.2.2⟩,hlen,fun H2 D2 s2 B9=>?_⟩
     have s3:=(s1.trans s2).new (o := .lst (js Prod.fst ps r.p ps.length)) B9
     have g2:(upd H2 D2 (.lst (js Prod.fst ps r.p ps.length))) D2=some (.lst (js Prod.fst ps r.p ps.length)):=ac
     generalize upd H2 D2 (.lst (js Prod.fst ps r.p ps.length))=H3 at s3 g2 ⊢
     refine⟨_,rfl,t,_,3,_,rfl,rfl,zh.of (s3 _ _ hT),al (j:=3) rfl,l,rfl,⟨_,zf.of (s3 _ _ hl)⟩,?_⟩
     refine fA (xs:=bQ r.s) (fun _=>true) (fun v=>match v with | .int i => .bl (decide (i ∈ iz (eI Prod.fst ps r.p))) | _ => .zt) (by rw[sizeLine_eq];simp only[bQ,length_map];omega) (zf.of (s3 _ _ hl)) (fun y acc N hy h=>?_) (fun D hD=>?_)
     ·obtain⟨k',_,rfl⟩:=mem_map.mp hy
      exact⟨_,rfl,_,rfl,(k':Int),D2,iz (eI Prod.fst ps r.p),rfl,by rw[← oj];exact zf.of g2,by simpa using h⟩
     ·rw[pQ]
      refine⟨D,r.s.map fun k=>decide (k ∈ eI Prod.fst ps r.p),rfl,zf.of ac,?_⟩
      have:=q _ (s3.new (o := .lst ((r.s.map fun k=>decide (k ∈ eI Prod.fst ps r.p)).map V.bl)) hD)
      rw[e1]at this
      rw[ux]
      exact this
structure Ts where
 tab:Addr
 told:Addr
 ne:Addr
noncomputable def r8 (K:Frag):Sp:=fun vs H Q _=>∃ (x C dx:Addr)(lv:V),vs=[.ref x,lv]/\H x=some (.ins C dx [])/\B7 K C/\zl K C "land"/\Q .zt (upd H x (.ins C dx [("land",lv)]))
noncomputable def rT (r:Rw):V := .int (Yd.zI r.s 0:Nat)
noncomputable def r6 (P:Program)(w:World)(K:Frag)(c:Cs)(ts:Ts):Sp:=fun vs H Q E=>∃ (x dx lx zD lt p:Addr)(n:Int)(zi zq:List V)(ps:List (Int × Int))(rs:List Rw),
 vs=[.ref x, .ref lx, .ref p]/\H x=some (.ins ts.told dx [])/\cu H c lx zD lt n zi ps/\zf K H p zq/\C1 H zq rs/\zq.length <= 100000/\ps.length <= 1000/\(∀ r ∈ rs,(∀ k ∈ r.s,k <= 1000)/\r.s.length <= 1000) /\
 (∀ i,cX n ps rs rs.length=some i->∀ H' d,Off x H H'->H' d=some (.xd [("row", .int i)])->E (.ref ts.ne) (some d) H') /\
 (cX n ps rs rs.length=none->∀ H' de kvs,Off x H H'->H' x=some (.ins ts.told dx [("land", .ref lx),("entries", .ref de)])->zR P w H' de kvs->(∀ k,ce kvs k=(dQ rs k).map rT)->Q .zt H')
noncomputable def oM (P:Program)(w:World)(ts:Ts):Sp:=fun vs H Q _=>∃ (x dx de:Addr)(lv:V)(kvs:List dI)(r:Rw)(m:Nat),vs=[.ref x, .int r.p, .int r.g,cV r.c]/\H x=some (.ins ts.told dx [("land",lv),("entries", .ref de)])/\zR P w H de kvs /\
 (ce kvs (aZ r)).getD (.int 0) = .int m/\m < 2 ^ 400/\∀ H' D,za H H'->H' D=none->Q (.ref D) (upd H' D (.lst (vP m)))
structure PF (K:Frag)(mg:Str->Option Value)(ts:Ts)(f1 f2:Addr)(d1 d2:FuncData):Prop where
 ct:B7 K ts.tab
 nt:zl K ts.tab "land"
 cd:B7 K ts.told
 Fz:zl K ts.told "land"
 Nr:zl K ts.told "entries"
 mt:mg "Table" = some (.ref ts.tab)
 cm:uC K ts.tab "__init__" f1
 bt:Binds K d1 ["self", "land"] []
 mne:mg "NoEntry" = some (.ref ts.ne)
 U1:b0 K ts.ne (some (.ref f2))=true
 kne:keepIn K (.ref ts.ne)=true
 Dx:gs K ts.ne
 U2:findIn K (.ref ts.ne) "row" = some none
 ine:isFn K (.ref f2)=true
 Fne:zA K "__init__" "NoEntry.__init__" Nq f2 d2
 bne:Binds K d2 ["self", "row"] []
abbrev NT:List Str:=["self", "land", "rows", "number", "row", "key"]
theorem Off.land {H H':Hp}{x C dx:Addr}(o:Off x H H')(hx:H x=some (.ins C dx [])){c:Cs}{lx zD lt:Addr}{n:Int}{zi:List V}{ps:List (Int × Int)}(h:cu H c lx zD lt n zi ps):cu H' c lx zD lt n zi ps :=
 ⟨o _ _ (aY h.1 hx (by intro z;cases z)) h.1,o _ _ (aY h.2.1 hx (by intro z;cases z)) h.2.1,o.Dj hx h.2.2⟩
theorem PH:ap ["self", "row"] ["self", "row"] (aj Nq):=L2.zF
theorem Kk {f:Addr}{fd:FuncData}(F:zA K "__init__" "NoEntry.__init__" Nq f fd):zb P w K mg base aG 1 f fd ["self", "row"] (qb K "row"):=by
 refine F.ok PH (fun vs H Q E h=>?_) (fun cdv A outer s H vs Q E hr h=>?_)
 ·obtain⟨e,C,tt,v,rfl,_⟩:=h
  rfl
 ·obtain⟨e,C,tt,v,rfl,h1,h2,h3,q⟩:=h
  refine⟨_,ai (kO (pv 0) (pv 1) rfl),?_⟩
  exact⟨_,rfl,_,rfl,e,C,tt,rfl,h1,h2,h3,q⟩
theorem Kl:ap ["self", "land"] ["self", "land"] (aj xx):=L2.zF
theorem xY {f:Addr}{fd:FuncData}(F:zA K "__init__" "Table.__init__" xx f fd):zb P w K mg base aG 1 f fd ["self", "land"] (r8 K):=by
 refine F.ok Kl (fun vs H Q E h=>?_) (fun cdv A outer s H vs Q E hr h=>?_)
 ·obtain⟨x,C,dx,lv,rfl,_⟩:=h
  rfl
 ·obtain⟨x,C,dx,lv,rfl,hx,hc,hn,q⟩:=h
  refine⟨_,ai (aX (pv 0) (pv 1) rfl),?_⟩
  exact⟨_,rfl,_,rfl,x,C,dx,_,rfl,hx,hc,hn,by show 0 < 1000;decide,q⟩
theorem uQ:ap ["self", "place", "goal", "came"] ["self", "place", "goal", "came"] (aj n9):=L2.zF
theorem tf {ts:Ts}{f fm f1 f2:Addr}{fd dm d1 d2:FuncData}(F:zA K "ways" "Told.ways" n9 f fd)(B:PF K mg ts f1 f2 d1 d2)(mm:mg "members" = some (.ref fm))(km:keepIn K (.ref fm)=true)(bm:Binds K dm ["some"] [])
  (Gm:zb P w K mg base aG 2 fm dm ["some"] rE):zb P w K mg base aG 3 f fd ["self", "place", "goal", "came"] (oM P w ts):=by
 refine F.ok uQ (fun vs H Q E h=>?_) (fun cdv A outer s H vs Q E hr h=>?_)
 ·obtain⟨x,dx,de,lv,kvs,r,m,rfl,_⟩:=h
  rfl
 ·obtain⟨x,dx,de,lv,kvs,r,m,rfl,hx,hd,hv,hm,q⟩:=h
  have hu:=jV hr
  refine⟨_,ai (ar (au Gm hr rfl mm km bm .nil aq (aa (lQ hu (ao (pv 0) rfl) (aa (bG (aa (pv 1) (aa (pv 2) (aa (pv 3) ad)))) (aa ak ad))) ad))),?_⟩
  refine⟨_,rfl,x,ts.told,dx,_,_,rfl,hx,B.cd,B.Nr,rfl,de,kvs,rfl,hd,?_⟩
  refine⟨_,rfl,_,rfl,_,rfl,by show 3 <= sizeLine;decide,fun t ht=>?_⟩
  have s1:za H (upd H t (.tup [.int r.p, .int r.g,cV r.c])):=(za.refl H).new ht
  refine⟨_,_,ce kvs (aZ r),rfl,⟨kvs,aZ r,t,hd.same s1,rfl,by rw[pB];exact ac,rfl⟩,?_⟩
  rw[hv]
  exact⟨m,rfl,hm,fun D hD=>q _ D s1 hD⟩
theorem BK:ap NT ["self", "land", "rows"] (aj rX):=L2.zF
theorem vq {c:Cs}{ts:Ts}{f ff fs f1 f2:Addr}{fd df ds d1 d2:FuncData}(F:zA K "__init__" "Told.__init__" rX f fd)(T:fB mg)(B:PF K mg ts f1 f2 d1 d2)(G1:zb P w K mg base aG 1 f1 d1 ["self", "land"] (r8 K))
  (mf:mg "row_fits" = some (.ref ff)) (kf:keepIn K (.ref ff)=true) (bf:Binds K df ["land", "row"] []) (Gf:zb P w K mg base aG 4 ff df ["land", "row"] (rQ c))
  (ms:mg "set_of" = some (.ref fs)) (ks:keepIn K (.ref fs)=true) (bs:Binds K ds ["numbers"] []) (Gs:zb P w K mg base aG 1 fs ds ["numbers"] (r9 K)) :
  zb P w K mg base (eE P w) 5 f fd ["self", "land", "rows"] (r6 P w K c ts):=by
 have Gn:zb P w K mg base aG 1 f2 d2 ["self", "row"] (qb K "row"):=Kk B.Fne
 refine F.Ej BK (fun vs H Q E h=>?_) (fun cdv A outer s H vs Q E hr h=>?_)
 ·obtain⟨x,dx,lx,zD,lt,p,n,zi,zq,ps,rs,rfl,_⟩:=h
  rfl
 ·obtain⟨x,dx,lx,zD,lt,p,n,zi,zq,ps,rs,rfl,hx,hL,hp,hR,hlen,DO,Nt,hE,hQ⟩:=h
  have zU:zm 1 _:=hr.mono (by decide)
  have Au:zm 2 _:=hr.mono (by decide)
  have hu:=jV hr
  refine⟨_,af (aQ (lR (e8 (v := .ref ts.tab) rfl B.mt rfl) B.cm G1 zU B.bt .nil aq (aa (pv 0) (aa (pv 1) ad))))
   (af (aX (pv 0) (show PE _ _ (rj P w) from pe) rfl)
   (ai (bD pi rfl (lP rfl T.enum (aa (pv 2) ad)) (hZ rfl (bJ (ay (i:=3) BK.nd rfl (Or.inl rfl)) (bJ (ay (i:=4) BK.nd rfl (Or.inl rfl)) fH)))
    (af (aD (i:=5) BK.nd rfl (Or.inl rfl) (bG (aa (aw aA (pv 4) ak (fun _ _=>rfl)) (aa (aw aA (pv 4) ak (fun _ _=>rfl)) (aa (aw aA (pv 4) ak (fun _ _=>rfl)) ad)))))
    (af (aO (PW.pt (i3 (bZ (bF (au Gf hr rfl mf kf bf .nil aq (aa (pv 1) (aa (pv 4) ad))))) (eP (sM (xN hu (pv 5) (ao (pv 0) rfl))))))
     (ai (b8 rfl B.U1 aN (iF B.U1 B.ine B.kne Gn Au B.bne rfl B.mne (aa (pv 3) ad)))) aI)
    (ai (pc hu (ao (pv 0) rfl) (pv 5) (au Gs zU rfl ms ks bs .nil aq (aa (aw aA (pv 4) ak (fun _ _=>rfl)) ad)) rfl))))))),?_⟩
  refine⟨rfl,_,rfl,_,rfl,x,ts.told,dx,_,rfl,hx,B.cd,B.Fz,?_⟩
  refine fun de C0=>⟨_,rfl,x,ts.told,dx,[("land", .ref lx)],rfl,by rw[ae (ah ac C0)];exact ac,B.cd,B.Nr,by show 1 < 1000;decide,?_⟩
  have Em:x ≠ de:=ah ac C0
  have DP:H de=none:=by rw[ae (Ne.symm Em)]at C0;exact C0
  generalize DG:upd (upd (upd H x (.ins ts.told dx [("land", .ref lx)])) de (j6 P w de [])) x (.ins ts.told dx (aL "entries" (.ref de) [("land", .ref lx)]))=H2
  have o2:Off x H H2:=fun b o hb e=>by rw[← DG,ae hb,ae (ah e DP),ae hb];exact e
  have x2:H2 x=some (.ins ts.told dx [("land", .ref lx),("entries", .ref de)]):=by rw[← DG,ac];rfl
  have d2:zR P w H2 de []:=⟨by rw[← DG,ae (Ne.symm Em),ac],fun y hy=>by cases hy⟩
  have Km:zq.length=rs.length:=Paired.length hR
  refine⟨_,rfl,p,rfl,⟨_,o2.sq hx hp⟩,m9 (sq:=fun H=>zf K H p) (xs:=zq) (fun i σ H3=>∃ (a b k:Option V)(kvs:List dI),Off x H H3/\H3 x=some (.ins ts.told dx [("land", .ref lx),("entries", .ref de)])/\zR P w H3 de kvs/\kvs.length <= i /\
    (∀ k,ce kvs k=(dQ (rs.take i) k).map rT)/\(∀ j,j < i->mV n ps (rs.take j) (rs.getD j ⟨0,0,none,[]⟩)=false)/\σ=[some (.ref x),some (.ref lx),some (.ref p),a,b,k])
   ⟨none,none,none,[],o2,x2,d2,Nat.le_refl _,fun k=>rfl,fun j hj=>absurd hj (not_lt_zero _),rfl⟩ (fun i σ H3 _ ⟨_,_,_,_,o3,_⟩=>o3.sq hx hp) ?_ ?_⟩
  ·rintro i v q σ H3 hv ⟨a,b,k,kvs,o3,x3,d3,l3,v3,g3,rfl⟩ hq
   obtain⟨r,hri,t,l,rfl,hT⟩:=C1.get hR hv
   have hi:i < rs.length:=(List.getElem?_eq_some_iff.mp hri).1
   have Nu:rs.getD i ⟨0,0,none,[]⟩ = r:=by rw[getD_eq_getElem?_getD,hri];rfl
   have DQ:GU H3 t l r:=⟨o3 _ _ (aY hT.1 hx (by intro z;cases z)) hT.1,o3 _ _ (aY hT.2 hx (by intro z;cases z)) hT.2⟩
   have BL:=o3.land hx hL
   have s4:za H3 (upd H3 q (.tup [.int i, .ref t])):=(za.refl H3).new hq
   refine⟨q,_,rfl,zh.of ac,rfl,_,_,rfl,_,_,rfl,rfl,?_⟩
   generalize upd H3 q (.tup [.int i, .ref t])=H4 at s4 ⊢
   have Kn:zh K H4 t [.int r.p, .int r.g,cV r.c, .ref l]:=zh.of (s4 _ _ DQ.1)
   refine⟨_,rfl,t,_,0,_,rfl,rfl,Kn,al (j:=0) rfl,_,rfl,t,_,1,_,rfl,rfl,Kn,al (j:=1) rfl,_,rfl,t,_,2,_,rfl,rfl,Kn,al (j:=2) rfl,by show 3 <= sizeLine;decide,fun kt PJ=>?_⟩
   have s5:za H3 (upd H4 kt (.tup [.int r.p, .int r.g,cV r.c])):=s4.new PJ
   have k5:(upd H4 kt (.tup [.int r.p, .int r.g,cV r.c])) kt=some (.tup ((aZ r).map qX)):=by rw[pB];exact ac
   generalize upd H4 kt (.tup [.int r.p, .int r.g,cV r.c])=H5 at s5 k5 ⊢
   refine⟨_,rfl,_,rfl,lx,zD,lt,t,l,n,zi,ps,r,rfl,⟨s5 _ _ BL.1,s5 _ _ BL.2.1,zy.same s5 BL.2.2⟩,DQ.same s5,DO,(Nt r (mem_of_getElem? hri)).2,fun H6 U3=>⟨_,rfl,?_⟩⟩
   have s6:=s5.trans U3
   have k6:=U3 _ _ k5
   have x6:=s6 _ _ x3
   have d6:=d3.same s6
   have F0:mV n ps (rs.take i) r=true->∀ e tt,H6 e=none->∀ d,upd H6 e (bL e ts.ne tt none) d=none ->
     ∃ dd,(upd (upd (upd H6 e (bL e ts.ne tt none)) d (.xd [("row", .int i)])) e (bL e ts.ne tt (some d))) e=some (bL e ts.ne tt dd)/\E (.ref ts.ne) dd (uq (upd (upd (upd H6 e (bL e ts.ne tt none)) d (.xd [("row", .int i)])) e (bL e ts.ne tt (some d))) e):=by
    intro hb e tt he d hd
    obtain⟨m1,m2,m3⟩:=il (o:=bL e ts.ne tt none) (o':=bL e ts.ne tt (some d)) (x := .xd [("row", .int i)]) he hd
    exact⟨some d,m3,hE i (jB hi g3 (by rw[Nu];exact hb)) _ d (o3.same (s6.trans m1)) m2⟩
   cases hf:eK n ps r with
   | false =>
    refine aK (aK ⟨_,rfl,by show 1 <= sizeLine;decide,fun e tt he=>⟨e,_,tt,_,rfl,ac,B.Dx,B.U2,fun d hd=>⟨rfl,?_⟩⟩⟩)
    exact F0 (by rw[gZ,hf];rfl) e tt he d hd
   | true =>
    refine aH ⟨_,rfl,_,rfl,x,ts.told,dx,_,_,rfl,x6,B.cd,B.Nr,rfl,de,_,rfl,⟨kvs,aZ r,kt,d6,rfl,k6,rfl⟩,_,rfl,?_⟩
    have eS:(ce kvs (aZ r)).isSome=(rs.take i).any fun a=>decide (aZ a=aZ r):=by rw[v3,Option.isSome_map,kZ]
    cases hS:(ce kvs (aZ r)).isSome with
    | true =>
     refine aK ⟨_,rfl,by show 1 <= sizeLine;decide,fun e tt he=>⟨e,_,tt,_,rfl,ac,B.Dx,B.U2,fun d hd=>⟨rfl,?_⟩⟩⟩
     exact F0 (by rw[gZ,hf,← eS,hS];rfl) e tt he d hd
    | false =>
     refine aH ?_
     have U4:=DQ.same s6
     refine⟨_,rfl,t,_,3,_,rfl,rfl,zh.of U4.1,al (j:=3) rfl,l,r.s,rfl,zf.of U4.2,(Nt r (mem_of_getElem? hri)).1,?_⟩
     refine⟨_,rfl,x,ts.told,dx,_,_,rfl,x6,B.cd,B.Nr,rfl,_,rfl,de,kvs,aZ r,kt,rfl,d6,rfl,k6,by rw[sizeLine_eq];omega,?_⟩
     have hx6:x ≠ de:=Em
     refine⟨_,_,_,eT kvs (aZ r) kt (rT r),fun b' o hb e=>?_,?_,⟨ac,jJ (F:=fun k a=>(upd H6 de (j6 P w de (eT kvs (aZ r) kt (rT r)))) a=some (.tup (k.map qX))) (fun y hy=>?_) ?_⟩,?_,fun k'=>?_,fun j hj=>?_,rfl⟩
     ·rw[ae (ah e DP)];exact s6 _ _ (o3 _ _ hb e)
     ·rw[ae Em];exact x6
     ·rw[ae (aY (d6.2 y hy) d6.1 (by intro z;cases z))];exact d6.2 y hy
     ·rw[ae (aY k6 d6.1 (by intro z;cases z))];exact k6
     ·exact le_trans eR (Nat.succ_le_succ l3)
     ·rw[gE,take_succ,hri,Option.toList_some,oh,v3]
      by_cases hk:k' = aZ r
      ·rw[if_pos hk,if_pos hk];rfl
      ·rw[if_neg hk,if_neg hk]
     ·rcases lt_or_ge j i with h | h
      ·exact g3 j h
      ·have:j=i:=by omega
       subst this
       rw[Nu,gZ,hf,← eS,hS];rfl
  ·rintro σ H3 ⟨a,b,k,kvs,o3,x3,d3,l3,v3,g3,rfl⟩
   rw[Km]at g3 v3
   rw[take_length]at v3
   exact hQ (fY g3) H3 de kvs o3 x3 d3 v3
noncomputable def nV (ps:List Nat):List V:=ps.map fun q:Nat=>V.int (q:Int)
theorem cy (ps:List Nat):(nV ps).length=ps.length:=by simp[nV]
theorem ij {ps:List Nat}{k q:Nat}(h:ps[k]? = some q):(nV ps)[k]? = some (V.int (q:Int)):=by simp[nV,h]
theorem nR (a b:List Nat):nV (a ++ b)=nV a ++ nV b:=by unfold nV;rw[map_append]
theorem tM {ps:List Nat}{v:V}(h:v ∈ nV ps):∃ q:Nat,q ∈ ps/\v = .int (q:Int):=by
 obtain⟨q,hq,e⟩:=mem_map.mp h
 exact⟨q,hq,e.symm⟩
noncomputable def n8 (c:Cs)(sel:Int × Int->Int):Sp:=fun vs H Q _=>∃ (x dx t:Addr)(n:Int)(zi:List V)(ps:List (Int × Int))(k:Nat)(pr:Int × Int),vs=[.ref x, .int k]/\cu H c x dx t n zi ps/\ps[k]? = some pr/\Q (.int (sel pr)) H
structure w8 (K:Frag)(c:Cs)(f:Addr)(d:FuncData):Prop where
 m:bA K c.land "end_of" f
 b:Binds K d ["self", "lane"] []
theorem bP (a b:Int):decide (V.int a=V.int b)=decide (a=b):=by
 by_cases h:a=b
 ·rw[h];simp
 ·rw[decide_eq_false h,decide_eq_false fun z=>h (by injection z)]
theorem iN {n i:Nat}(h:i < n):vW n (i:Int)=some i:=by
 unfold vW
 rw[if_pos (by omega),if_pos (by omega),toNat_natCast]
noncomputable def mN (m:Nat):List Nat:=Yd.CA m (Builtin.Int.intBits (m:Int))
theorem tN:∀ {a b:List Nat},nV a=nV b->a=b
 | [],[],_=>rfl
 | [],_ :: _,h=>by cases h
 | _ :: _,[],h=>by cases h
 | x :: a,y :: b,h=>by
  unfold nV at h
  rw[map_cons,map_cons]at h
  injection h with h1 h2
  injection h1 with h1
  rw[tN (a:=a) (b:=b) h2,show x=y by omega]
theorem Ko:ap ["self", "lane"] ["self", "lane"] (aj xH):=L2.zF
theorem yp {c:Cs}{f:Addr}{fd:FuncData}(F:zA K "end_of" "Land.end_of" xH f fd)(L:lw K c):zb P w K mg base aG 1 f fd ["self", "lane"] (n8 c Prod.snd):=by
 refine F.ok Ko (fun vs H Q E h=>?_) (fun cdv A outer s H vs Q E hr h=>?_)
 ·obtain⟨x,dx,t,n,zi,ps,k,pr,rfl,_⟩:=h
  rfl
 ·obtain⟨x,dx,t,n,zi,ps,k,pr,rfl,⟨hx,ht,hl⟩,hk,q⟩:=h
  refine⟨_,ai (ar (aw aA (aw aA (ao (pv 0) rfl) (pv 1) (fun _ _=>rfl)) ak (fun _ _=>rfl))),?_⟩
  obtain⟨v,hv,u,rfl,hu⟩:=zy.DN hl hk
  refine⟨_,rfl,x,c.land,dx,_,_,rfl,hx,L.cl,L.nl,rfl,_,rfl,t,_,_,_,rfl,rfl,zh.of ht,al hv,u,_,1,_,rfl,rfl,zh.of hu,al (j:=1) rfl,q⟩
noncomputable def isI:V->Bool
 | .int _=>true
 | _=>false
noncomputable def jK:V->Int->Int->Bool
 | .int i,a,b=>decide (a <= i/\i <= b)
 | _,_,_=>false
inductive qV:V->Prop
 | int (i:Int):qV (.int i)
 | bl (b:Bool):qV (.bl b)
 | zt:qV .zt
structure u0 (K:Frag):Prop where
 ii:kitOne K (.type "int") (.type "int")=some true
 ib:kitOne K (.type "int") (.type "bool")=some false
 bi:kitOne K (.type "bool") (.type "int")=some true
 bb:kitOne K (.type "bool") (.type "bool")=some true
 ni:kitOne K (.type "NoneType") (.type "int")=some false
noncomputable def gF:Sp:=fun vs H Q _=>∃ v,vs=[v]/\qV v/\Q (.bl (isI v)) H
noncomputable def fF:Sp:=fun vs H Q _=>∃ (v:V)(a b:Int),vs=[v, .int a, .int b]/\qV v/\Q (.bl (jK v a b)) H
noncomputable def kE (K:Frag):Sp:=fun vs H Q _=>∃ (a:Addr)(ns:List Int)(k:Nat),vs=[.ref a, .int k]/\zf K H a (ns.map V.int)/\∀ d,Q (.int d) H
noncomputable def jH:Sp:=fun vs H Q _=>∃ (c:Int)(k:Nat),vs=[.int c, .int k]/\k <= 1000000/\∀ d:Int,0 <= d->Q (.int d) H
theorem zy.imp {H H':Hp}(h:∀ v p,wz H v p->wz H' v p):∀ {vs:List V}{ps:List (Int × Int)},zy H vs ps->zy H' vs ps
 | _,_, .nil => .nil
 | _,_, .cons z r => .cons (h _ _ z) (zy.imp h r)
noncomputable def hV:Option Int->V
 | none => .zt
 | some z => .int z
abbrev Fs:=List (Str × V)
noncomputable def i6 (r b:Int)(h:V)(pa:Addr):Fs:=[("rights", .int r),("returning", .int b),("holder",h),("pieces", .ref pa)]
structure zw (H:Hp)(C x dx pa:Addr)(r b:Int)(h:Option Int)(zx:List V)(qs:List (Int × Int)):Prop where
 ins:H x=some (.ins C dx (i6 r b (hV h) pa))
 lst:H pa=some (.lst zx)
 Aq:zy H zx qs
noncomputable def Av (x pa:Addr)(H H':Hp):Prop:=∀ a o,a ≠ x->a ≠ pa->H a=some o->H' a=some o
theorem Av.Dj {C x dx pa:Addr}{fs:Fs}{zx:List V}{H H':Hp}(h:Av x pa H H')(hx:H x=some (.ins C dx fs))(hp:H pa=some (.lst zx)){vs:List V}{qs:List (Int × Int)}:zy H vs qs->zy H' vs qs :=
 zy.imp fun _ _ ⟨t,e,q⟩=>⟨t,e,h _ _ (aY q hx (by intro z;cases z)) (aY q hp (by intro z;cases z)) q⟩
theorem zw.same {H H':Hp}{C x dx pa:Addr}{r b:Int}{h:Option Int}{zx:List V}{qs:List (Int × Int)}(L:zw H C x dx pa r b h zx qs)(s:za H H'):zw H' C x dx pa r b h zx qs:=⟨s _ _ L.ins,s _ _ L.lst,zy.same s L.Aq⟩
noncomputable def bY (r:Int)(h:Option Int)(l c:Int):Bool:=if r=0 then false else if c=0 then decide (h=none) else decide (h=some l)
theorem yE (h:Option Int):decide (hV h=V.zt)=decide (h=none):=by cases h<;>rfl
theorem yF (h:Option Int)(l:Int):decide (hV h=V.int l)=decide (h=some l):=by
 cases h with
 | none=>rfl
 | some z =>
  show decide (V.int z=V.int l)=_
  rw[bP]
  by_cases e:z=l
  ·rw[decide_eq_true e,decide_eq_true (by rw[e])]
  ·rw[decide_eq_false e,decide_eq_false fun q=>e (Option.some.inj q)]
theorem vY (h:Option Int)(l:Int):xn (hV h) (.int l)=true:=by cases h<;>rfl
structure wx (K:Frag)(C:Addr):Prop where
 cl:B7 K C
 n1:zl K C "rights"
 n2:zl K C "returning"
 n3:zl K C "holder"
 n4:zl K C "pieces"
structure Kp (K:Frag)(mg:Str->Option Value)(nm:Addr):Prop where
 m:mg "NoMove" = some (.ref nm)
 x:b0 K nm none=true
 k:keepIn K (.ref nm)=true
 e:PySem.W.exmOne K (.ref nm) (.ref nm)=some true
noncomputable def rG (C:Addr):Sp:=fun vs H Q _=>∃ (x dx:Addr)(room:Int),vs=[.ref x, .int room]/\H x=some (.ins C dx [])/\∀ (pa:Addr)(H':Hp),H pa=none->(∀ a o,a ≠ x->H a=some o->H' a=some o)->zw H' C x dx pa room 0 none [] []->Q .zt H'
noncomputable def kC (C:Addr):Sp:=fun vs H Q _=>∃ (x dx pa:Addr)(r b:Int)(h:Option Int)(l c:Int),vs=[.ref x, .int l, .int c]/\H x=some (.ins C dx (i6 r b (hV h) pa))/\Q (.bl (bY r h l c)) H
noncomputable def wF (C nm:Addr):Sp:=fun vs H Q E=>∃ (x dx pa:Addr)(r b:Int)(h:Option Int)(zx:List V)(qs:List (Int × Int))(l c:Int)(last:Bool),vs=[.ref x, .int l, .int c, .bl last]/\zw H C x dx pa r b h zx qs/\zx.length < 100000 /\
 (bY r h l c=false->∀ H',za H H'->E (.ref nm) none H') /\
 (bY r h l c=true->∀ (t:Addr)(H':Hp),Av x pa H H'->zw H' C x dx pa (r - 1) b (if last then none else some l) (zx ++ [.ref t]) (qs ++ [(l,c)])->Q .zt H')
noncomputable def ot:List V->V
 | [] => .zt
 | v :: _=>v
noncomputable def iC (C:Addr):Sp:=fun vs H Q _=>∃ (x dx pa:Addr)(r b:Int)(h:Option Int)(zx:List V)(qs:List (Int × Int)),vs=[.ref x]/\zw H C x dx pa r b h zx qs/\Q (ot zx) H
noncomputable def nq (C nm:Addr):Sp:=fun vs H Q E=>∃ (x dx pa:Addr)(r b:Int)(h:Option Int)(zx:List V)(qs:List (Int × Int)),vs=[.ref x]/\zw H C x dx pa r b h zx qs /\
 (zx=[]->∀ H',za H H'->E (.ref nm) none H') /\
 (∀ v rest,zx=v :: rest->∀ H':Hp,Av x pa H H'->zw H' C x dx pa r (b + 1) h rest qs.tail->Q v H')
noncomputable def oW (C nm:Addr):Sp:=fun vs H Q E=>∃ (x dx pa:Addr)(r b:Int)(h:Option Int)(zx:List V)(qs:List (Int × Int)),vs=[.ref x]/\zw H C x dx pa r b h zx qs /\
 (b=0->∀ H',za H H'->E (.ref nm) none H') /\
 (b ≠ 0->∀ H':Hp,Av x pa H H'->zw H' C x dx pa (r + 1) (b - 1) h zx qs->Q .zt H')
noncomputable def Kq (C:Addr):Sp:=fun vs H Q _=>∃ (x dx pa:Addr)(r b:Int)(h:Option Int)(zx:List V)(qs:List (Int × Int)),vs=[.ref x]/\zw H C x dx pa r b h zx qs /\
 ∀ (t ql:Addr)(H':Hp),za H H'->H ql=none->H' t=some (.tup [.int r, .int b,hV h, .ref ql])->H' ql=some (.lst zx)->Q (.ref t) H'
theorem PK (n:Nat):seqIndex? 0 (n + 1)=some 0:=by
 unfold seqIndex?
 simp
theorem jL {f:Addr}{fd:FuncData}(F:zA K "is_whole" "is_whole" gi f fd)(T:fB mg)(Z:u0 K):zb P w K mg base aG 1 f fd ["value"] gF:=by
 refine F.ok oZ (fun vs H Q E h=>?_) (fun cdv A outer s H vs Q E hr h=>?_)
 ·obtain⟨m,rfl,_⟩:=h
  rfl
 ·obtain⟨v,rfl,hv,q⟩:=h
  refine⟨_,ai (ar (dB (aF gY rfl T.Ik PyProof.Rows.boot_isinstance (aa (pv 0) (aa (fJ (v := .ty "int") rfl T.int PySem.Pv.boot_int rfl) ad)))
   (dA (sQ (aF gY rfl T.Ik PyProof.Rows.boot_isinstance (aa (pv 0) (aa (fJ (v := .ty "bool") rfl T.bool PySem.Pv.boot_bool rfl) ad))))))),?_⟩
  cases hv with
  | int i=>exact⟨_,rfl, .int i,_, "int",true,rfl, .int i,Z.ii,true,rfl,aK ⟨_,rfl, .int i,_, "bool",false,rfl, .int i,Z.ib,false,rfl,q⟩⟩
  | bl b=>exact⟨_,rfl, .bl b,_, "int",true,rfl, .bl b,Z.bi,true,rfl,aK ⟨_,rfl, .bl b,_, "bool",true,rfl, .bl b,Z.bb,true,rfl,q⟩⟩
  | zt=>exact⟨_,rfl, .zt,_, "int",false,rfl, .zt,Z.ni,false,rfl,aH q⟩
theorem nQ {f fh:Addr}{fd BX:FuncData}(F:zA K "is_within" "is_within" iE f fd)(T:fB mg)(Z:u0 K)(mh:mg "is_whole" = some (.ref fh))(Fh:zA K "is_whole" "is_whole" gi fh BX)(bh:Binds K BX ["value"] []) :
  zb P w K mg base aG 2 f fd ["value", "least", "most"] fF:=by
 have G:zb P w K mg base aG 1 fh BX ["value"] gF:=jL Fh T Z
 refine F.ok lE (fun vs H Q E h=>?_) (fun cdv A outer s H vs Q E hr h=>?_)
 ·obtain⟨i,a,b,rfl,_⟩:=h
  rfl
 ·obtain⟨v,a,b,rfl,hv,q⟩:=h
  refine⟨_,ai (ar (dB (au G hr rfl mh Fh.kp bh .nil aq (aa (pv 0) ad)) (dA (lS pk pk (pv 1) (pv 0) (pv 2))))),?_⟩
  cases hv with
  | bl x=>exact⟨_,rfl,_,rfl, .bl x,false,rfl,aH q⟩
  | zt=>exact⟨_,rfl,_,rfl, .zt,false,rfl,aH q⟩
  | int i =>
   refine⟨_,rfl,_,rfl, .int i,true,rfl,aK ?_⟩
   refine⟨_,rfl,_,rfl,_,_,rfl,rfl,_,rfl,?_⟩
   have q:Q (V.bl (decide (a <= i/\i <= b))) H:=q
   by_cases h1:a <= i
   ·rw[decide_eq_true h1]
    refine aK ⟨_,rfl,_,_,rfl,rfl,?_⟩
    show Q (V.bl (decide (i <= b))) H
    by_cases h2:i <= b
    ·rw[decide_eq_true h2];rw[decide_eq_true ⟨h1,h2⟩]at q;exact q
    ·rw[decide_eq_false h2];rw[decide_eq_false fun z=>h2 z.2]at q;exact q
   ·rw[decide_eq_false h1]
    refine aH ?_
    rw[decide_eq_false fun z=>h1 z.1]at q;exact q
theorem xv:ap ["_law_script", "_law_k"] ["_law_script", "_law_k"] (aj sF):=L2.zF
theorem vJ {f:Addr}{fd:FuncData}(F:zA K "_law_cell_at" "_law_cell_at" sF f fd)(T:fB mg):zb P w K mg base aG 1 f fd ["_law_script", "_law_k"] (kE K):=by
 refine F.ok xv (fun vs H Q E h=>?_) (fun cdv A outer s H vs Q E hr h=>?_)
 ·obtain⟨a,ns,k,rfl,_⟩:=h
  rfl
 ·obtain⟨a,ns,k,rfl,hS,q⟩:=h
  refine⟨_,af (aO (av lT (pv 1) (aF ax rfl T.len PySem.boot_len (aa (pv 0) ad)) (az _))
    (ai (ar (aw aM (pv 0) (pv 1) (fun _ _=>rfl)))) aI) (ai (ar ak)),?_⟩
  refine⟨_,rfl,_,rfl,a,_,rfl, .inl hS,_,_,rfl,rfl,_,rfl,?_⟩
  refine Pb (fun h=>?_) fun _=>q _
  have h':(k:Int) < ((ns.map V.int).length:Nat):=of_decide_eq_true h
  rw[length_map]at h'
  have hk:k < ns.length:=by omega
  exact⟨_,rfl,_,rfl,a,_,k,V.int ns[k],rfl,rfl,hS,al (by simp[hk]),q _⟩
theorem F1:ap ["_law_cell", "_law_k", "_law_number"] ["_law_cell", "_law_k"] (aj x8):=L2.zF
theorem ye {f:Addr}{fd:FuncData}(F:zA K "_law_mixed" "_law_mixed" x8 f fd):zb P w K mg base aG 1 f fd ["_law_cell", "_law_k"] jH:=by
 refine F.ok F1 (fun vs H Q E h=>?_) (fun cdv A outer s H vs Q E hr h=>?_)
 ·obtain⟨c,k,rfl,_⟩:=h
  rfl
 ·obtain⟨c,k,rfl,hk,q⟩:=h
  refine⟨_,af (aO (av bz (aC bv (pv 0) ak) ak (az _)) (ai (ar (aC bv (aC nP (pv 0) (aC bE ak (aC kU ak (aC bv (pv 1) ak)))) (aC sV ak ak)))) aI)
   (af (aD (i:=2) F1.nd rfl (Or.inl rfl) (aC bv (aC kU (aC bE (aC bE (aC bv (aC gN (pv 0) ak) ak) (aC kU ak (pv 1))) ak) ak) ak))
   (ai (ar (aC bv (aC kU (pv 2) (aC bE (aC gN (pv 2) ak) ak)) ak)))),?_⟩
  have pos:(0:Int) < 2147483647:=by decide
  refine⟨_,rfl,_,_,rfl,rfl,(by show (0:Int) < 2;decide),rfl,_,rfl,?_⟩
  dsimp only
  by_cases U5:c % 2=1
  ·rw[decide_eq_true (show V.int (c % 2)=V.int 1 by rw[U5])]
   have h0:=emod_nonneg (k:Int) (show (120:Int) ≠ 0 by decide)
   refine aK ⟨_,rfl,_,rfl,_,_,rfl,rfl,(by show (0:Int) < 120;decide),_,_,rfl,rfl, .inl ⟨by decide,by decide⟩,_,_,rfl,rfl,_,_,rfl,rfl,(by show (0:Int) <= 1 + 20 * ((k:Int) % 120);omega),_,_,rfl,rfl,⟨by decide,by decide,by decide⟩,_,_,rfl,rfl,(by show (0:Int) < 2 ^ (20:Int).toNat;decide +kernel),?_⟩
   exact q _ (emod_nonneg _ (by decide +kernel))
  rw[decide_eq_false (show ¬ V.int (c % 2)=V.int 1 from fun z=>U5 (V.int.inj z))]
  refine aH ⟨_,rfl,_,_,rfl,rfl,⟨by decide,by decide⟩,_,_,rfl,rfl,pos,_,rfl,_,_,rfl,rfl, .inl ⟨by decide,by decide⟩,_,_,rfl,rfl,_,_,rfl,rfl,_,_,rfl,rfl, .inr ⟨by decide,by decide⟩,_,_,rfl,rfl,pos,?_⟩
  dsimp only
  have h1:=emod_nonneg ((c / 2 % 2147483647 + 7919 * (k:Int) + 1) * 48271) (show (2147483647:Int) ≠ 0 by decide)
  have h2:=emod_lt_of_pos ((c / 2 % 2147483647 + 7919 * (k:Int) + 1) * 48271) pos
  generalize (c / 2 % 2147483647 + 7919 * (k:Int) + 1) * 48271 % 2147483647=m at h1 h2
  refine⟨_,rfl,_,rfl,_,_,rfl,rfl,⟨by decide,by decide⟩,_,_,rfl,rfl,_,_,rfl,rfl, .inl ⟨by omega,by omega⟩,_,_,rfl,rfl,pos,?_⟩
  exact q _ (emod_nonneg _ (by decide))
theorem Kr:ap ["self", "room"] ["self", "room"] (aj xB):=L2.zF
theorem yk {C f:Addr}{fd:FuncData}(F:zA K "__init__" "Lane.__init__" xB f fd)(L:wx K C):zb P w K mg base aG 1 f fd ["self", "room"] (rG C):=by
 refine F.ok Kr (fun vs H Q E h=>?_) (fun cdv A outer s H vs Q E hr h=>?_)
 ·obtain⟨x,dx,room,rfl,_⟩:=h
  rfl
 ·obtain⟨x,dx,room,rfl,hx,q⟩:=h
  refine⟨_,af (aX (pv 0) (pv 1) rfl) (af (aX (pv 0) ak rfl) (af (aX (pv 0) cx rfl) (ai (aX (pv 0) (aU ad) rfl)))),?_⟩
  refine⟨_,rfl,_,rfl,x,C,dx,_,rfl,hx,L.cl,L.n1,by show 0 < 1000;decide,?_⟩
  refine⟨_,rfl,x,C,dx,_,rfl,ac,L.cl,L.n2,by show 1 < 1000;decide,?_⟩
  refine⟨_,rfl,x,C,dx,_,rfl,ac,L.cl,L.n3,by show 2 < 1000;decide,?_⟩
  refine⟨zero_le _,fun pa Dk=>?_⟩
  have Cq:x ≠ pa:=ah ac Dk
  refine⟨_,rfl,x,C,dx,_,rfl,by rw[ae Cq];exact ac,L.cl,L.n4,by show 3 < 1000;decide,?_⟩
  have EF:H pa=none:=by
   rw[ae (Ne.symm Cq),ae (Ne.symm Cq),ae (Ne.symm Cq)]at Dk
   exact Dk
  refine q pa _ EF (fun a o ha e=>?_) ⟨ac,by rw[ae (Ne.symm Cq)];exact ac, .nil⟩
  have nap:a ≠ pa:=fun z=>by
   rw[z,EF]at e
   cases e
  rw[ae ha,ae nap,ae ha,ae ha,ae ha]
  exact e
theorem xr:ap ["self", "letter", "count"] ["self", "letter", "count"] (aj sj):=L2.zF
theorem v5 {C f:Addr}{fd:FuncData}(F:zA K "open_to" "Lane.open_to" sj f fd)(L:wx K C):zb P w K mg base aG 1 f fd ["self", "letter", "count"] (kC C):=by
 refine F.ok xr (fun vs H Q E h=>?_) (fun cdv A outer s H vs Q E hr h=>?_)
 ·obtain⟨x,dx,pa,r,b,h,l,c,rfl,_⟩:=h
  rfl
 ·obtain⟨x,dx,pa,r,b,h,l,c,rfl,hx,q⟩:=h
  refine⟨_,af (aO (av bz (ao (pv 0) rfl) ak (az _)) (ai (ar ji)) aI)
   (af (aO (av bz (pv 2) ak (az _)) (ai (ar (c8 kW (ao (pv 0) rfl) cx (az _)))) aI)
   (ai (ar (c8 bz (ao (pv 0) rfl) (pv 1) (az _))))),?_⟩
  refine⟨_,rfl,x,C,dx,_,_,rfl,hx,L.cl,L.n1,rfl,rfl,_,rfl,?_⟩
  rw[bP]
  unfold bY at q
  by_cases Ks:r=0
  ·rw[decide_eq_true Ks]
   rw[if_pos Ks]at q
   exact aK q
  rw[decide_eq_false Ks]
  rw[if_neg Ks]at q
  refine aH ⟨_,rfl,rfl,_,rfl,?_⟩
  rw[bP]
  by_cases zY:c=0
  ·rw[decide_eq_true zY]
   rw[if_pos zY]at q
   refine aK ⟨_,rfl,x,C,dx,_,_,rfl,hx,L.cl,L.n3,rfl,rfl,?_⟩
   rw[yE]
   exact q
  ·rw[decide_eq_false zY]
   rw[if_neg zY]at q
   refine aH ⟨_,rfl,x,C,dx,_,_,rfl,hx,L.cl,L.n3,rfl,_,rfl,vY h l,?_⟩
   rw[yF]
   exact q
theorem Kt:ap ["self", "letter", "count", "last"] ["self", "letter", "count", "last"] (aj xz):=L2.zF
theorem yb {C f nm fo:Addr}{fd BZ:FuncData}(F:zA K "put" "Lane.put" xz f fd)(L:wx K C)(Ex:Kp K mg nm)(mo:bA K C "open_to" fo)(bo:Binds K BZ ["self", "letter", "count"] [])(Go:zb P w K mg base aG 1 fo BZ ["self", "letter", "count"] (kC C)) :
  zb P w K mg base (eE P w) 2 f fd ["self", "letter", "count", "last"] (wF C nm):=by
 refine F.Ej Kt (fun vs H Q E h=>?_) (fun cdv A outer s H vs Q E hr h=>?_)
 ·obtain⟨x,dx,pa,r,b,h,zx,qs,l,c,last,rfl,_⟩:=h
  rfl
 ·obtain⟨x,dx,pa,r,b,h,zx,qs,l,c,last,rfl,hL,hlen,h1,h2⟩:=h
  refine⟨_,af (aO (bZ (bF (aB (pv 0) L.cl mo Go hr bo .nil aq (aa (pv 1) (aa (pv 2) ad))))) (ai (b8 rfl Ex.x aN (cf Ex.x Ex.k rfl rfl Ex.m (aa bu ad)))) aI)
   (af (dL (pv 0) ak pG)
   (af (aQ (c4 plainAttrs_list PySem.F.slot_list_append PySem.F.type_list_append bN (ao (pv 0) rfl) (aa (bG (aa (pv 1) (aa (pv 2) ad))) ad)))
   (ai (aX (pv 0) (cK (bF (pv 3)) cx (pv 1)) rfl)))),?_⟩
  refine⟨_,rfl,x,dx,_,rfl,hL.ins,rfl,_,rfl,_,rfl,x,dx,pa,r,b,h,l,c,rfl,hL.ins,_,rfl,?_⟩
  cases ho:bY r h l c with
  | false =>
   refine aK ⟨by show 1 <= sizeLine;decide,?_⟩
   exact h1 ho H (za.refl H)
  | true =>
   refine aH ?_
   refine⟨_,rfl,x,C,dx,_,_,rfl,hL.ins,L.cl,L.n1,rfl,_,_,rfl,rfl,dx,_,hL.ins,by show 4 < 1000;decide,?_⟩
   have Cq:pa ≠ x:=aY hL.lst hL.ins (by intro z;cases z)
   have AQ:(upd H x (.ins C dx (aL "rights" (.int (r - 1)) (i6 r b (hV h) pa)))) x=some (.ins C dx (i6 (r - 1) b (hV h) pa)):=ac
   have zG:(upd H x (.ins C dx (aL "rights" (.int (r - 1)) (i6 r b (hV h) pa)))) pa=some (.lst zx):=by rw[ae Cq];exact hL.lst
   have o1:Av x pa H (upd H x (.ins C dx (aL "rights" (.int (r - 1)) (i6 r b (hV h) pa)))):=fun a o ha _ e=>by rw[ae ha];exact e
   show _
   generalize upd H x (.ins C dx (aL "rights" (.int (r - 1)) (i6 r b (hV h) pa)))=H1 at AQ zG o1 ⊢
   refine⟨_,rfl,x,C,dx,_,_,rfl,AQ,L.cl,L.n4,rfl, .inl ⟨rfl,_,zf.of zG⟩,_,rfl,_,rfl,by show 2 <= sizeLine;decide,fun t ht=>?_⟩
   have s2:=(za.refl H1).new (o := .tup [.int l, .int c]) ht
   have gt:(upd H1 t (.tup [.int l, .int c])) t=some (.tup [.int l, .int c]):=ac
   generalize upd H1 t (.tup [.int l, .int c])=H2 at s2 gt ⊢
   refine⟨pa,zx,_,rfl,rfl,s2 _ _ zG,by rw[sizeLine_eq];omega,?_⟩
   have Nv:(upd H2 pa (.lst (zx ++ [.ref t]))) x=some (.ins C dx (i6 (r - 1) b (hV h) pa)):=by rw[ae (Ne.symm Cq)];exact s2 _ _ AQ
   have Il:(upd H2 pa (.lst (zx ++ [.ref t]))) pa=some (.lst (zx ++ [.ref t])):=ac
   have o3:Av x pa H (upd H2 pa (.lst (zx ++ [.ref t]))):=fun a o ha hb e=>by rw[ae hb];exact s2 _ _ (o1 a o ha hb e)
   have ntp:t ≠ pa:=aY gt (s2 _ _ zG) (by intro z;cases z)
   have PL:(upd H2 pa (.lst (zx ++ [.ref t]))) t=some (.tup [.int l, .int c]):=by rw[ae ntp];exact gt
   generalize upd H2 pa (.lst (zx ++ [.ref t]))=H3 at Nv Il o3 PL ⊢
   have ntx:t ≠ x:=aY PL Nv (by intro z;cases z)
   have fin:∀ h':Option Int,zw (upd H3 x (.ins C dx (aL "holder" (hV h') (i6 (r - 1) b (hV h) pa)))) C x dx pa (r - 1) b h' (zx ++ [.ref t]) (qs ++ [(l,c)]):=fun h' =>
    ⟨ac,by rw[ae Cq];exact Il,zy.snoc ⟨t,rfl,by rw[ae ntx];exact PL⟩ (Av.Dj (fun a o ha hb e=>by rw[ae ha];exact o3 a o ha hb e) hL.ins hL.lst hL.Aq)⟩
   have off:∀ o',Av x pa H (upd H3 x o'):=fun o' a o ha hb e=>by rw[ae ha];exact o3 a o ha hb e
   refine⟨_,rfl,_,rfl,?_⟩
   cases last with
   | true=>exact aK ⟨_,rfl,x,C,dx,_,rfl,Nv,L.cl,L.n3,by show 4 < 1000;decide,h2 ho t _ (off _) (fin none)⟩
   | false=>exact aH ⟨_,rfl,_,rfl,x,C,dx,_,rfl,Nv,L.cl,L.n3,by show 4 < 1000;decide,h2 ho t _ (off _) (fin (some l))⟩
theorem uS:ap ["self"] ["self"] (aj nI):=L2.zF
theorem tF {C f:Addr}{fd:FuncData}(F:zA K "front" "Lane.front" nI f fd)(L:wx K C):zb P w K mg base aG 1 f fd ["self"] (iC C):=by
 refine F.ok uS (fun vs H Q E h=>?_) (fun cdv A outer s H vs Q E hr h=>?_)
 ·obtain⟨x,dx,pa,r,b,h,zx,qs,rfl,_⟩:=h
  rfl
 ·obtain⟨x,dx,pa,r,b,h,zx,qs,rfl,hL,q⟩:=h
  refine⟨_,ai (ar (cK (jh (ao (pv 0) rfl) (fun _=>rfl)) (aw aM (ao (pv 0) rfl) ak (fun _ _=>rfl)) cx)),?_⟩
  refine⟨_,rfl,x,C,dx,_,_,rfl,hL.ins,L.cl,L.n4,rfl,_, .inl ⟨_,zf.of hL.lst,rfl⟩,?_⟩
  cases zx with
  | nil=>exact aH q
  | cons v rest=>exact aK ⟨_,rfl,x,C,dx,_,_,rfl,hL.ins,L.cl,L.n4,rfl,pa,_,0,v,rfl,rfl,zf.of hL.lst,al (j:=0) rfl,q⟩
theorem xo:ap ["self"] ["self"] (aj rY):=L2.zF
theorem vv {C f nm:Addr}{fd:FuncData}(F:zA K "pull" "Lane.pull" rY f fd)(L:wx K C)(Ex:Kp K mg nm):zb P w K mg base (eE P w) 1 f fd ["self"] (nq C nm):=by
 refine F.Ej xo (fun vs H Q E h=>?_) (fun cdv A outer s H vs Q E hr h=>?_)
 ·obtain⟨x,dx,pa,r,b,h,zx,qs,rfl,_⟩:=h
  rfl
 ·obtain⟨x,dx,pa,r,b,h,zx,qs,rfl,hL,h1,h2⟩:=h
  refine⟨_,af (aO (bZ (jh (ao (pv 0) rfl) (fun _=>rfl))) (ai (b8 rfl Ex.x aN (cf Ex.x Ex.k rfl rfl Ex.m (aa bu ad)))) aI)
   (af (dL (pv 0) ak lc)
   (ai (ar (c4 plainAttrs_list PySem.F.slot_list_pop PySem.F.type_list_pop tO (ao (pv 0) rfl) (aa ak ad))))),?_⟩
  refine⟨_,rfl,x,C,dx,_,_,rfl,hL.ins,L.cl,L.n4,rfl,_, .inl ⟨_,zf.of hL.lst,rfl⟩,?_⟩
  have Cq:pa ≠ x:=aY hL.lst hL.ins (by intro z;cases z)
  cases zx with
  | nil =>
   refine aK ⟨by show 1 <= sizeLine;decide,?_⟩
   exact h1 rfl H (za.refl H)
  | cons v rest =>
   refine aH ?_
   refine⟨_,rfl,x,C,dx,_,_,rfl,hL.ins,L.cl,L.n2,rfl,_,_,rfl,rfl,dx,_,hL.ins,by show 4 < 1000;decide,?_⟩
   have AQ:(upd H x (.ins C dx (aL "returning" (.int (b + 1)) (i6 r b (hV h) pa)))) x=some (.ins C dx (i6 r (b + 1) (hV h) pa)):=ac
   have zG:(upd H x (.ins C dx (aL "returning" (.int (b + 1)) (i6 r b (hV h) pa)))) pa=some (.lst (v :: rest)):=by rw[ae Cq];exact hL.lst
   have o1:Av x pa H (upd H x (.ins C dx (aL "returning" (.int (b + 1)) (i6 r b (hV h) pa)))):=fun a o ha _ e=>by rw[ae ha];exact e
   show _
   generalize upd H x (.ins C dx (aL "returning" (.int (b + 1)) (i6 r b (hV h) pa)))=H1 at AQ zG o1 ⊢
   refine⟨_,rfl,x,C,dx,_,_,rfl,AQ,L.cl,L.n4,rfl, .inl ⟨rfl,_,zf.of zG⟩,pa,v :: rest,0,0,v,rfl,rfl,zG,by decide,by decide,PK _,rfl,?_⟩
   have o2:Av x pa H (upd H1 pa (.lst rest)):=fun a o ha hb e=>by rw[ae hb];exact o1 a o ha hb e
   refine h2 v rest rfl _ o2 ⟨by rw[ae (Ne.symm Cq)];exact AQ,ac,?_⟩
   have z:=Av.Dj o2 hL.ins hL.lst hL.Aq
   cases z with
   | cons _ t=>exact t
theorem uT:ap ["self"] ["self"] (aj nL):=L2.zF
theorem tI {C f nm:Addr}{fd:FuncData}(F:zA K "bring" "Lane.bring" nL f fd)(L:wx K C)(Ex:Kp K mg nm):zb P w K mg base (eE P w) 1 f fd ["self"] (oW C nm):=by
 refine F.Ej uT (fun vs H Q E h=>?_) (fun cdv A outer s H vs Q E hr h=>?_)
 ·obtain⟨x,dx,pa,r,b,h,zx,qs,rfl,_⟩:=h
  rfl
 ·obtain⟨x,dx,pa,r,b,h,zx,qs,rfl,hL,h1,h2⟩:=h
  refine⟨_,af (aO (av bz (ao (pv 0) rfl) ak (az _)) (ai (b8 rfl Ex.x aN (cf Ex.x Ex.k rfl rfl Ex.m (aa bu ad)))) aI)
   (af (dL (pv 0) ak pG) (ai (dL (pv 0) ak lc))),?_⟩
  refine⟨_,rfl,x,C,dx,_,_,rfl,hL.ins,L.cl,L.n2,rfl,rfl,_,rfl,?_⟩
  have Cq:pa ≠ x:=aY hL.lst hL.ins (by intro z;cases z)
  rw[bP]
  by_cases Nw:b=0
  ·rw[decide_eq_true Nw]
   refine aK ⟨by show 1 <= sizeLine;decide,?_⟩
   exact h1 Nw H (za.refl H)
  ·rw[decide_eq_false Nw]
   refine aH ?_
   refine⟨_,rfl,x,C,dx,_,_,rfl,hL.ins,L.cl,L.n2,rfl,_,_,rfl,rfl,dx,_,hL.ins,by show 4 < 1000;decide,?_⟩
   have AQ:(upd H x (.ins C dx (aL "returning" (.int (b - 1)) (i6 r b (hV h) pa)))) x=some (.ins C dx (i6 r (b - 1) (hV h) pa)):=ac
   have o1:Av x pa H (upd H x (.ins C dx (aL "returning" (.int (b - 1)) (i6 r b (hV h) pa)))):=fun a o ha _ e=>by rw[ae ha];exact e
   have zG:(upd H x (.ins C dx (aL "returning" (.int (b - 1)) (i6 r b (hV h) pa)))) pa=some (.lst zx):=by rw[ae Cq];exact hL.lst
   show _
   generalize upd H x (.ins C dx (aL "returning" (.int (b - 1)) (i6 r b (hV h) pa)))=H1 at AQ zG o1 ⊢
   refine⟨_,rfl,x,C,dx,_,_,rfl,AQ,L.cl,L.n1,rfl,_,_,rfl,rfl,dx,_,AQ,by show 4 < 1000;decide,?_⟩
   have o2:∀ o',Av x pa H (upd H1 x o'):=fun o' a o ha hb e=>by rw[ae ha];exact o1 a o ha hb e
   exact h2 Nw _ (o2 _) ⟨ac,by rw[ae Cq];exact zG,Av.Dj (o2 _) hL.ins hL.lst hL.Aq⟩
theorem Ku:ap ["self"] ["self"] (aj xA):=L2.zF
theorem yj {C f:Addr}{fd:FuncData}(F:zA K "told" "Lane.told" xA f fd)(T:fB mg)(L:wx K C):zb P w K mg base aG 1 f fd ["self"] (Kq C):=by
 refine F.ok Ku (fun vs H Q E h=>?_) (fun cdv A outer s H vs Q E hr h=>?_)
 ·obtain⟨x,dx,pa,r,b,h,zx,qs,rfl,_⟩:=h
  rfl
 ·obtain⟨x,dx,pa,r,b,h,zx,qs,rfl,hL,q⟩:=h
  refine⟨_,ai (ar (bG (aa (ao (pv 0) rfl) (aa (ao (pv 0) rfl) (aa (ao (pv 0) rfl) (aa (bW bX rfl T.list PySem.Pv.boot_list (aa (ao (pv 0) rfl) ad)) ad)))))),?_⟩
  refine⟨_,rfl,x,C,dx,_,_,rfl,hL.ins,L.cl,L.n1,rfl,_,rfl,x,C,dx,_,_,rfl,hL.ins,L.cl,L.n2,rfl,_,rfl,x,C,dx,_,_,rfl,hL.ins,L.cl,L.n3,rfl,_,rfl,x,C,dx,_,_,rfl,hL.ins,L.cl,L.n4,rfl,pa,_,rfl, .inl (zf.of hL.lst),fun ql Kv=>?_⟩
  have s1:=(za.refl H).new (o := .lst zx) Kv
  have g1:(upd H ql (.lst zx)) ql=some (.lst zx):=ac
  generalize upd H ql (.lst zx)=H1 at s1 g1 ⊢
  refine⟨by show 4 <= sizeLine;decide,fun t ht=>?_⟩
  have s2:=s1.new (o := .tup [.int r, .int b,hV h, .ref ql]) ht
  exact q t ql _ s2 Kv ac (by rw[ae (ah g1 ht)];exact g1)
noncomputable def pz (m:Nat)(zq:List V):Bool:=decide (zq.length=m) && zq.all fun v=>jK v 1 60
noncomputable def Sq (K:Frag)(H:Hp)(a:Addr)(xs:List V):Prop:=zf K H a xs∨zh K H a xs
noncomputable def oN (K:Frag)(c:Cs)(nr:Addr):Sp:=fun vs H Q E=>∃ (lx zD lt:Addr)(n:Int)(zi:List V)(ps:List (Int × Int))(rv:V),vs=[.ref lx,rv]/\cu H c lx zD lt n zi ps/\ps.length <= 1000 /\
 ((rv = .zt/\∀ t H',za H H'->H' t=some (.tup (List.replicate ps.length (.int 1)))->Q (.ref t) H') ∨
  (∃ ra zq,rv = .ref ra/\Sq K H ra zq/\zq.length <= 1000/\(∀ v ∈ zq,qV v)/\(pz ps.length zq=false->∀ H',za H H'->E (.ref nr) none H')/\(pz ps.length zq=true->∀ t H',za H H'->zh K H' t zq->Q (.ref t) H')))
noncomputable def yC (s:Stmt):Scope:=match s with
 | .If _ (.Return (some (.Call _ [.ListComp _ _ sc _] _ _)) _ :: _) _ _=>sc
 | _=>{ kind := .function,names:=[],isGenerator:=false,isCoroutine:=false }
noncomputable def xQ (s:Stmt):Scope:=match s with
 | .If (.BoolOp _ [_, .UnaryOp _ (.Call _ [.ListComp _ _ sc _] _ _) _] _) _ _ _=>sc
 | _=>{ kind := .function,names:=[],isGenerator:=false,isCoroutine:=false }
noncomputable def Nx:V->Bool
 | .int i=>decide ((if i < 0 then -i else i) < 10 ^ (60:Int).toNat)
 | _=>false
noncomputable def rn:Sp:=fun vs H Q _=>∃ v,vs=[v]/\qV v/\Q (.bl (Nx v)) H
noncomputable def wE (K:Frag)(f1 f2:Str):Sp:=fun vs H Q _=>∃ e C tt v1 v2,vs=[.ref e,v1,v2]/\H e=some (bL e C tt none)/\gs K C/\findIn K (.ref C) f1=some none/\findIn K (.ref C) f2=some none/\∀ d H',H d=none->(∀ b o,b ≠ e->H b=some o->H' b=some o)->H' e=some (bL e C tt (some d))->H' d=some (.xd [(f1,v1),(f2,v2)])->Q .zt H'
theorem b6 {K:Frag}{H H':Hp}{a:Addr}{xs:List V}(e:za H H')(h:zh K H a xs):zh K H' a xs:=by
 rcases h with h | h
 ·refine .inl ?_
  rcases h with h | ⟨o,h⟩
  ·exact .inl (e _ _ h)
  ·exact .inr ⟨o,e _ _ h⟩
 ·exact .inr h
theorem Kw {X:Cx}{tg it:Expr}{a b:TI}(h1:PI X tg it a)(h2:PI X tg it b):PI X tg it (fun σ H R=>a σ H R∨b σ H R):=fun pins s σ H R I h=>h.elim (h1 pins s σ H R I) (h2 pins s σ H R I)
theorem mP {J:It}{xs:List V}{g:TG}{te:TE}{σ0:St}{H:Hp}{Q:VK}(f:V->V)(hn:xs.length < sizeLine)(hgo:∀ i,i < xs.length->J.go i H)(B0:J.stop xs.length H)(hy:∀ i x H',J.Ef i H x H'->H' = H/\xs[i]? = some x)
  (hs:∀ (x:V)(N:V->Hp->Prop),x ∈ xs->N (f x) H->g x σ0 H fun σ2 H2=>te σ2 H2 N)
  (hq:∀ D,H D=none->Q (.ref D) (upd H D (.lst (xs.map f)))):dz J g pZ te σ0 Q H:=by
 refine bT xs.length hn (fun i acc H'=>H' = H/\acc=(xs.take i).map f) ⟨rfl,rfl⟩ (fun i acc H' h=>by rw[h.2,length_map];exact length_take_le _ _) (fun i acc H' hi h=>?_) (fun acc H' h=>?_)
 ·obtain⟨rfl,rfl⟩:=h
  refine⟨hgo i hi,fun v H2 y=>?_⟩
  obtain⟨e,hx⟩:=hy i v H2 y
  subst e
  exact hs v (fun y H4=>H4=H2/\(xs.take i).map f ++ [y]=(xs.take (i + 1)).map f) (mem_of_getElem? hx) ⟨rfl,by rw[take_succ,hx,map_append];rfl⟩
 ·obtain⟨rfl,rfl⟩:=h
  rw[take_length]
  exact⟨B0,hq⟩
theorem yK {K:Frag}{a:Addr}{xs:List V}{g:TG}{te:TE}{σ0:St}{H:Hp}{Q:VK}(f:V->V)(hn:xs.length < sizeLine)(ha:zf K H a xs)(hs:∀ (x:V) (N:V->Hp->Prop),x ∈ xs->N (f x) H->g x σ0 H fun σ2 H2=>te σ2 H2 N)
  (hq:∀ D,H D=none->Q (.ref D) (upd H D (.lst (xs.map f)))):dz (uA K a) g pZ te σ0 Q H :=
 mP f hn (fun i hi=>⟨xs,xs[i],ha,by simp[hi]⟩) ⟨xs,ha,Nat.le_refl _⟩ (fun i x H' y=>⟨y.1,y.2 xs ha⟩) hs hq
theorem ut {K:Frag}{a:Addr}{xs:List V}{g:TG}{te:TE}{σ0:St}{H:Hp}{Q:VK}(f:V->V)(hn:xs.length < sizeLine)(ha:zh K H a xs)(hs:∀ (x:V) (N:V->Hp->Prop),x ∈ xs->N (f x) H->g x σ0 H fun σ2 H2=>te σ2 H2 N)
  (hq:∀ D,H D=none->Q (.ref D) (upd H D (.lst (xs.map f)))):dz (MX K a) g pZ te σ0 Q H :=
 mP f hn (fun i hi=>⟨xs,xs[i],ha,by simp[hi]⟩) ⟨xs,ha,Nat.le_refl _⟩ (fun i x H' y=>⟨y.1,y.2 xs ha⟩) hs hq
structure uG (K:Frag)(mg:Str->Option Value)(x:Str)(C:Addr):Prop where
 m:mg x=some (.ref C)
 x:b0 K C none=true
 k:keepIn K (.ref C)=true
theorem PN:ap ["land", "rooms"] ["land", "rooms"] (aj gj):=L2.zF
theorem PQ:As ["land", "rooms"] (aj gj) (yC ((aJ gj).getD 0 (.Pass ⟨0,0,0,0⟩))) [] []:=L2.B3
theorem PR:As ["land", "rooms"] (aj gj) (xQ ((aJ gj).getD 1 (.Pass ⟨0,0,0,0⟩))) [] []:=L2.B3
theorem PU:(["lane"]:List Str).Nodup:=by decide +kernel
theorem Kx:(["room"]:List Str).Nodup:=by decide +kernel
theorem tu {c:Cs}{f fw nr:Addr}{fd dw:FuncData}{t1:Tok}(F:zA K "rooms_of" "rooms_of" gj f fd)(T:fB mg)(L:lw K c)(X:uG K mg "NoRooms" nr)
  (mw:mg "is_within" = some (.ref fw)) (kw:keepIn K (.ref fw)=true) (bw:Binds K dw ["value", "least", "most"] []) (Gw:zb P w K mg base aG 2 fw dw ["value", "least", "most"] fF) (mp:mg "MOST_ROOM" = some (.int 60 t1)) :
  zb P w K mg base (eE P w) 3 f fd ["land", "rooms"] (oN K c nr):=by
 refine F.Ej PN (fun vs H Q E h=>?_) (fun cdv A outer s H vs Q E hr h=>?_)
 ·obtain⟨lx,zD,lt,n,zi,ps,rv,rfl,_⟩:=h
  rfl
 ·obtain⟨lx,zD,lt,n,zi,ps,rv,rfl,hL,Aj,hh⟩:=h
  refine⟨_,af (aO (av kW (pv 1) cx (az _)) (ai (ar (bW dG rfl T.tuple PySem.Pv.boot_tuple (aa (b5 (own:=["lane"]) (capN:=[]) (cap:=[]) PQ rfl (kQ (ao (pv 0) rfl))
     (fun C s' H' fp=>⟨ay (i:=0) PU rfl (Or.inl rfl),dq,ak⟩)) ad)))) aI)
   (af (aO (iH (PW.pt (i3 (av jk (aF ax rfl T.len PySem.boot_len (aa (pv 1) ad)) (aF ax rfl T.len PySem.boot_len (aa (ao (pv 0) rfl) ad)) (az _))
     (eP (bZ (bF (aF (j3 rfl) rfl T.all PyProof.Rows.boot_all (aa (b5 (own:=["room"]) (capN:=[]) (cap:=[]) PR rfl (Kw (bC (pv 1)) (kQ (pv 1)))
      (fun C s' H' fp=>⟨ay (i:=0) Kx rfl (Or.inl rfl),dq,au Gw hr rfl mw kw bw .nil aq (aa (pv 0) (aa ak (aa (e8 (v := .int 60) rfl mp ⟨_,rfl⟩) ad)))⟩)) ad))))))))
    (ai (b8 rfl X.x aN (cf X.x X.k rfl rfl X.m (aa bu ad)))) aI)
   (ai (ar (bW dG rfl T.tuple PySem.Pv.boot_tuple (aa (pv 1) ad))))),?_⟩
  have En:zi.length=ps.length:=Paired.length hL.2.2
  refine⟨_,rfl,rfl,_,rfl,?_⟩
  rcases hh with ⟨rfl,q⟩ | ⟨ra,zq,rfl,hR,CH,Ky,qE,q⟩
  ·refine aK ⟨_,rfl,lx,c.land,zD,_,_,rfl,hL.1,L.cl,L.nl,rfl,lt,rfl,⟨_,zh.of hL.2.1⟩,?_⟩
   refine ut (fun _ => .int 1) (by rw[sizeLine_eq];omega) (zh.of hL.2.1) (fun x N hx h=>h) (fun D hD=>?_)
   have s1:=(za.refl H).new (o := .lst (zi.map fun _=>V.int 1)) hD
   refine⟨D,_,rfl, .inl ⟨zf.of ac,fun t ht=>q t _ (s1.new ht) ?_⟩⟩
   rw[ac,List.map_const',En]
  ·refine aH ?_
   have len1:∀ {H:Hp},Sq K H ra zq->(zf K H ra zq∨zh K H ra zq):=fun h=>h
   refine⟨fun b H'=>za H H'/\b = !pz ps.length zq,?_,?_⟩
   ·refine⟨_,rfl,ra,zq,rfl,hR,_,rfl,lx,c.land,zD,_,_,rfl,hL.1,L.cl,L.nl,rfl,lt,_,rfl, .inr (zh.of hL.2.1),rfl,_,rfl,?_⟩
    rw[bP,En]
    by_cases Kz:zq.length=ps.length
    rotate_left
    ·rw[decide_eq_false (show ¬ ((zq.length:Nat):Int)=(ps.length:Nat) by omega)]
     refine aK ⟨za.refl H,?_⟩
     unfold pz
     rw[decide_eq_false Kz];rfl
    rw[decide_eq_true (show((zq.length:Nat):Int)=(ps.length:Nat) by omega)]
    have step:∀ (x:V)(N:V->Hp->Prop),x ∈ zq->N (.bl (jK x 1 60)) H->qV x:=fun x _ hx _=>Ky x hx
    have fin:∀ D,H D=none->∃ (p:Addr)(bs:List Bool),[V.ref D]=[.ref p]/\zf K (upd H D (.lst (zq.map fun v=>V.bl (jK v 1 60)))) p (bs.map V.bl)/\∃ cc,V.bl (bs.all id) = .bl cc/\(za H (upd H D (.lst (zq.map fun v=>V.bl (jK v 1 60))))/\(!cc) = !pz ps.length zq):=fun D hD=>by
     refine⟨D,zq.map fun v=>jK v 1 60,rfl,zf.of (by rw[ac,map_map];rfl),_,rfl,(za.refl H).new hD,?_⟩
     unfold pz
     rw[decide_eq_true Kz,Bool.true_and,all_map];rfl
    refine aH ?_
    rcases hR with hR | hR
    ·refine .inl ⟨_,rfl,ra,rfl,⟨_,hR⟩,?_⟩
     exact yK (fun v => .bl (jK v 1 60)) (by rw[sizeLine_eq];omega) hR (fun x N hx h=>⟨_,rfl,x,1,60,rfl,Ky x hx,h⟩) fin
    ·refine .inr ⟨_,rfl,ra,rfl,⟨_,hR⟩,?_⟩
     exact ut (fun v => .bl (jK v 1 60)) (by rw[sizeLine_eq];omega) hR (fun x N hx h=>⟨_,rfl,x,1,60,rfl,Ky x hx,h⟩) fin
   rintro b H' ⟨s',rfl⟩
   cases zg:pz ps.length zq with
   | false=>exact aK ⟨by show 1 <= sizeLine;decide,qE zg H' s'⟩
   | true =>
    refine aH ⟨_,rfl,ra,zq,rfl,?_⟩
    rcases hR with hR | hR
    ·exact .inl ⟨s'.seq hR,fun t ht=>q zg t _ (s'.new ht) (zh.of ac)⟩
    ·exact .inr ⟨b6 s' hR,q zg ra _ s' (b6 s' hR)⟩
theorem PV:ap ["word"] ["word"] (aj rU):=L2.zF
theorem vo {f fh:Addr}{fd dh:FuncData}(F:zA K "is_word" "is_word" rU f fd)(T:fB mg)(mh:mg "is_whole" = some (.ref fh))(kh:keepIn K (.ref fh)=true)(bh:Binds K dh ["value"] [])(G:zb P w K mg base aG 1 fh dh ["value"] gF) :
  zb P w K mg base aG 2 f fd ["word"] rn:=by
 refine F.ok PV (fun vs H Q E h=>?_) (fun cdv A outer s H vs Q E hr h=>?_)
 ·obtain⟨v,rfl,_⟩:=h
  rfl
 ·obtain⟨v,rfl,hv,q⟩:=h
  refine⟨_,ai (ar (dB (au G hr rfl mh kh bh .nil aq (aa (pv 0) ad)) (dA (c8 lT (aF uw rfl T.abs PyProof.Rows.boot_abs (aa (pv 0) ad)) (aC sV ak ak) (az _))))),?_⟩
  cases hv with
  | int i=>exact⟨_,rfl,_,rfl, .int i,true,rfl,aK ⟨_,rfl,i,rfl,_,_,rfl,rfl,⟨by decide,by decide,by decide⟩,_,_,rfl,rfl,q⟩⟩
  | bl b=>exact⟨_,rfl,_,rfl, .bl b,false,rfl,aH q⟩
  | zt=>exact⟨_,rfl,_,rfl, .zt,false,rfl,aH q⟩
theorem PY:ap ["self", "start", "goal"] ["self", "start", "goal"] (aj uU):=L2.zF
theorem K0 {f:Addr}{fd:FuncData}(F:zA K "__init__" "NoWay.__init__" uU f fd):zb P w K mg base aG 1 f fd ["self", "start", "goal"] (wE K "start" "goal"):=by
 refine F.ok PY (fun vs H Q E h=>?_) (fun cdv A outer s H vs Q E hr h=>?_)
 ·obtain⟨e,C,tt,v1,v2,rfl,_⟩:=h
  rfl
 ·obtain⟨e,C,tt,v1,v2,rfl,he,hx,n1,n2,q⟩:=h
  refine⟨_,af (sO (pv 0) (pv 1) rfl) (ai (sN (pv 0) (pv 2) rfl)),?_⟩
  refine⟨_,rfl,_,rfl,e,C,tt,rfl,he,hx,n1,fun d hd=>?_⟩
  have U6:e ≠ d:=ah he hd
  refine⟨_,rfl,_,rfl,e,C,tt,d,[("start",v1)],rfl,ac,by rw[ae (Ne.symm U6)];exact ac,by show 1 < 1000;decide,hx,n2,?_⟩
  refine q d _ hd (fun b o nb eb=>?_) (by rw[ae U6];exact ac) (by rw[ac];rfl)
  have U7:b ≠ d:=ah eb hd
  rw[ae U7,ae nb,ae U7]
  exact eb
abbrev Wf:=Nat->Nat->Option Nat->List Nat
abbrev TJ:=Hp->Addr->Nat->Wf->Prop
noncomputable def NL:HO->Prop
 | .lst _=>False
 | .ins _ _ []=>False
 | _=>True
noncomputable def zH (H H':Hp):Prop:=∀ b o,H b=some o->NL o->H' b=some o
theorem za.zz {H H':Hp}(s:za H H'):zH H H':=fun b o e _=>s b o e
theorem zH.trans {H H1 H2:Hp}(a:zH H H1)(b:zH H1 H2):zH H H2:=fun x o e n=>b x o (a x o e n) n
theorem zH.Dj {H H':Hp}(k:zH H H'){vs:List V}{ps:List (Int × Int)}(h:zy H vs ps):zy H' vs ps:=zy.imp (fun _ _ ⟨t,e,q⟩=>⟨t,e,k _ _ q True.intro⟩) h
structure AX (c:Cs)(C:Addr)(J:TJ)(H:Hp)(x lx zD lt:Addr)(n:Nat)(zi:List V)(ps:List (Int × Int))(wy:Wf):Prop where
 j:J H x n wy
 i:∃ dx fs,H x=some (.ins C dx fs)/\fs.lookup ("land":Str)=some (.ref lx)/\fs.lookup ("ways":Str)=none
 l:cu H c lx zD lt (n:Int) zi ps
 PZ:n <= 12
 Ad:ps.length <= 40
 ok:∀ p g k,p < n->g < n->∀ z ∈ wy p g k,z < ps.length
structure Wy (K:Frag)(C fw:Addr)(dw:FuncData)(J:TJ):Prop where
 cl:B7 K C
 nl:zl K C "land"
 m:bA K C "ways" fw
 b:Binds K dw ["self", "place", "goal", "came"] []
 Ac:∀ H H' x n wy,J H x n wy->zH H H'->J H' x n wy
theorem AX.keep {K:Frag}{c:Cs}{C fw:Addr}{dw:FuncData}{J:TJ}{H H':Hp}{x lx zD lt:Addr}{n:Nat}{zi:List V}{ps:List (Int × Int)}{wy:Wf}(W:Wy K C fw dw J)(h:AX c C J H x lx zD lt n zi ps wy)(k:zH H H'):AX c C J H' x lx zD lt n zi ps wy :=
 ⟨W.Ac _ _ _ _ _ h.j k,let ⟨dx,fs,h1,h2⟩:=h.i; ⟨dx,fs,k _ _ h1 (by cases fs with | nil=>cases h2.1 | cons _ _=>exact True.intro),h2⟩,⟨k _ _ h.l.1 True.intro,k _ _ h.l.2.1 True.intro,k.Dj h.l.2.2⟩,h.PZ,h.Ad,h.ok⟩
noncomputable def dX (J:TJ):Sp:=fun vs H Q _=>∃ (x:Addr)(n:Nat)(wy:Wf)(p g:Nat)(k:Option Nat),vs=[.ref x, .int p, .int g,cV k]/\J H x n wy/\p < n/\g < n/\∀ (D:Addr)(H':Hp),za H H'->H D=none->H' D=some (.lst (nV (wy p g k)))->Q (.ref D) H'
structure bU where
 r:Int
 b:Int
 h:Option Int
 qs:List (Int × Int)
structure aW where
 start:Int
 goal:Int
 len:Int
 word:Int
 gone:Int
 way:List Nat
structure YS where
 rooms:List V
 lanes:List bU
 yZ:List aW
 lies:List (List (Int × Int))
 done:List (List V)
structure Ys where
 zd:Addr
 zB:Addr
 zc:Addr
 ex:List Addr
noncomputable def Bs (H:Hp)(C:Addr)(ex:List Addr)(v:V)(s:bU):Prop:=∃ x dx pa zx,v = .ref x/\zw H C x dx pa s.r s.b s.h zx s.qs/\pa ∉ ex
noncomputable def nZ (s:aW)(wa:Addr):Fs:=[("start", .int s.start),("goal", .int s.goal),("length", .int s.len),("word", .int s.word),("gone", .int s.gone),("way", .ref wa)]
noncomputable def BM (H:Hp)(C:Addr)(ex:List Addr)(v:V)(s:aW):Prop:=∃ x dx wa,v = .ref x/\H x=some (.ins C dx (nZ s wa))/\H wa=some (.lst (nV s.way))/\wa ∉ ex
noncomputable def AA (H:Hp)(v:V)(qs:List (Int × Int)):Prop:=∃ t vs,v = .ref t/\H t=some (.tup vs)/\zy H vs qs
noncomputable def AE (H:Hp)(v:V)(m:List V):Prop:=∃ t,v = .ref t/\H t=some (.tup m)
theorem Paired.mono {α β:Type}{R R':α->β->Prop}(h:∀ a b,R a b->R' a b):∀ {as:List α}{bs:List β},Paired R as bs->Paired R' as bs
 | _,_, .nil => .nil
 | _,_, .cons x r => .cons (h _ _ x) (Paired.mono h r)
theorem Paired.snoc {α β:Type}{R:α->β->Prop}{a:α}{b:β}(h:R a b):∀ {as:List α}{bs:List β},Paired R as bs->Paired R (as ++ [a]) (bs ++ [b])
 | _,_, .nil => .cons h .nil
 | _,_, .cons x r => .cons x (Paired.snoc h r)
theorem Paired.at {α β:Type}{R:α->β->Prop}:∀ {as:List α}{bs:List β}{i:Nat}{a:α},Paired R as bs->as[i]? = some a->∃ b,bs[i]? = some b/\R a b
 | _,_,_,_, .nil,h=>by cases h
 | _,_,0,_, .cons x _,h=>by cases h;exact⟨_,rfl,x⟩
 | _,_,i + 1,_, .cons _ r,h=>Paired.at (i:=i) r h
theorem Paired.at2 {α β:Type}{R:α->β->Prop}:∀ {as:List α}{bs:List β}{i:Nat}{b:β},Paired R as bs->bs[i]? = some b->∃ a,as[i]? = some a/\R a b
 | _,_,_,_, .nil,h=>by cases h
 | _,_,0,_, .cons x _,h=>by cases h;exact⟨_,rfl,x⟩
 | _,_,i + 1,_, .cons _ r,h=>Paired.at2 (i:=i) r h
noncomputable def zk (ex:List Addr)(H H':Hp):Prop:=∀ b o,b ∉ ex->H b=some o->H' b=some o
theorem za.zJ {ex:List Addr}{H H':Hp}(s:za H H'):zk ex H H':=fun b o _ e=>s b o e
theorem zk.trans {ex:List Addr}{H H1 H2:Hp}(a:zk ex H H1)(b:zk ex H1 H2):zk ex H H2:=fun x o n e=>b x o n (a x o n e)
theorem zy.zJ {ex:List Addr}{H H':Hp}(hx:∀ b ∈ ex,∃ xs,H b=some (.lst xs))(o:zk ex H H'){vs:List V}{ps:List (Int × Int)}(h:zy H vs ps):zy H' vs ps :=
 zy.imp (fun _ _ ⟨t,e,q⟩=>⟨t,e,o _ _ (fun z=>by obtain⟨xs,hz⟩:=hx _ z;rw[q]at hz;cases hz) q⟩) h
theorem zk.F2 {ex:List Addr}{H H':Hp}(hx:∀ b ∈ ex,∃ o,H b=some o/\¬ NL o)(o:zk ex H H'):zH H H':=fun b u e n=>o b u (fun z=>by obtain⟨o',hz,hn⟩:=hx _ z;rw[e]at hz;cases hz;exact hn n) e
theorem zk.zz {ex:List Addr}{H H':Hp}(hx:∀ b ∈ ex,∃ xs,H b=some (.lst xs))(o:zk ex H H'):zH H H':=o.F2 fun b hb=>let ⟨xs,hz⟩:=hx b hb; ⟨_,hz,id⟩
theorem Bs.zJ {ex:List Addr}{H H':Hp}{C:Addr}{v:V}{s:bU}(hx:∀ b ∈ ex,∃ xs,H b=some (.lst xs))(o:zk ex H H')(h:Bs H C ex v s):Bs H' C ex v s:=by
 obtain⟨x,dx,pa,zx,e,L,n⟩:=h
 have k:=o.zz hx
 exact⟨x,dx,pa,zx,e,⟨k _ _ L.ins True.intro,o _ _ n L.lst,zy.zJ hx o L.Aq⟩,n⟩
theorem BM.zJ {ex:List Addr}{H H':Hp}{C:Addr}{v:V}{s:aW}(hx:∀ b ∈ ex,∃ xs,H b=some (.lst xs))(o:zk ex H H')(h:BM H C ex v s):BM H' C ex v s:=by
 obtain⟨x,dx,wa,e,h1,h2,n⟩:=h
 exact⟨x,dx,wa,e,o.zz hx _ _ h1 True.intro,o _ _ n h2,n⟩
theorem AA.keep {H H':Hp}{v:V}{qs:List (Int × Int)}(k:zH H H')(h:AA H v qs):AA H' v qs:=by
 obtain⟨t,vs,e,h1,h2⟩:=h
 exact⟨t,vs,e,k _ _ h1 True.intro,k.Dj h2⟩
theorem AE.keep {H H':Hp}{v:V}{m:List V}(k:zH H H')(h:AE H v m):AE H' v m:=by
 obtain⟨t,e,h1⟩:=h
 exact⟨t,e,k _ _ h1 True.intro⟩
noncomputable def Ny (tb ro la le li dn:Addr):Fs:=[("table", .ref tb),("rooms", .ref ro),("lanes", .ref la),("letters", .ref le),("lies", .ref li),("done", .ref dn)]
structure zj (K:Frag)(ys:Ys)(H:Hp)(y dy tb ro la le li dn:Addr)(s:YS):Prop where
 ins:H y=some (.ins ys.zd dy (Ny tb ro la le li dn))
 Nz:zh K H ro s.rooms
 AJ:∃ vs,H la=some (.lst vs)/\Paired (Bs H ys.zB (la :: le :: li :: dn :: ys.ex)) vs s.lanes
 hle:∃ vs,H le=some (.lst vs)/\Paired (BM H ys.zc (la :: le :: li :: dn :: ys.ex)) vs s.yZ
 Cr:∃ vs,H li=some (.lst vs)/\Paired (AA H) vs s.lies
 BA:∃ vs,H dn=some (.lst vs)/\Paired (AE H) vs s.done
 ne:[la,le,li,dn].Nodup
 hex:∀ b ∈ ys.ex,∃ xs,H b=some (.lst xs)
theorem zj.Ct {K:Frag}{ys:Ys}{H:Hp}{y dy tb ro la le li dn:Addr}{s:YS}(h:zj K ys H y dy tb ro la le li dn s):∀ b ∈ [la,le,li,dn],∃ xs,H b=some (.lst xs):=by
 intro b hb
 obtain⟨v1,h1,_⟩:=h.AJ
 obtain⟨v2,h2,_⟩:=h.hle
 obtain⟨v3,h3,_⟩:=h.Cr
 obtain⟨v4,h4,_⟩:=h.BA
 simp only[mem_cons,not_mem_nil,or_false]at hb
 rcases hb with rfl | rfl | rfl | rfl
 ·exact⟨_,h1⟩
 ·exact⟨_,h2⟩
 ·exact⟨_,h3⟩
 ·exact⟨_,h4⟩
theorem zj.CQ {K:Frag}{ys:Ys}{H:Hp}{y dy tb ro la le li dn:Addr}{s:YS}(h:zj K ys H y dy tb ro la le li dn s):∀ b ∈ la :: le :: li :: dn :: ys.ex,∃ xs,H b=some (.lst xs):=by
 intro b hb
 have e:la :: le :: li :: dn :: ys.ex=[la,le,li,dn] ++ ys.ex:=rfl
 rw[e]at hb
 rcases mem_append.mp hb with hb | hb
 ·exact h.Ct b hb
 ·exact h.hex b hb
theorem zj.same {K:Frag}{ys:Ys}{H H':Hp}{y dy tb ro la le li dn:Addr}{s:YS}(h:zj K ys H y dy tb ro la le li dn s)(e:za H H'):zj K ys H' y dy tb ro la le li dn s:=by
 have hx:=h.CQ
 obtain⟨v1,h1,p1⟩:=h.AJ
 obtain⟨v2,h2,p2⟩:=h.hle
 obtain⟨v3,h3,p3⟩:=h.Cr
 obtain⟨v4,h4,p4⟩:=h.BA
 have o:zk (la :: le :: li :: dn :: ys.ex) H H':=za.zJ e
 exact⟨e _ _ h.ins,b6 e h.Nz,⟨v1,e _ _ h1,Paired.mono (fun _ _ z=>z.zJ hx o) p1⟩,⟨v2,e _ _ h2,Paired.mono (fun _ _ z=>z.zJ hx o) p2⟩,⟨v3,e _ _ h3,Paired.mono (fun _ _ z=>z.keep (za.zz e)) p3⟩,⟨v4,e _ _ h4,Paired.mono (fun _ _ z=>z.keep (za.zz e)) p4⟩,h.ne,fun b hb=>let ⟨xs,hz⟩:=h.hex b hb; ⟨xs,e _ _ hz⟩⟩
structure i7 (K:Frag)(ys:Ys):Prop where
 cl:B7 K ys.zd
 n1:zl K ys.zd "table"
 n2:zl K ys.zd "rooms"
 n3:zl K ys.zd "lanes"
 n4:zl K ys.zd "letters"
 n5:zl K ys.zd "lies"
 n6:zl K ys.zd "done"
 ct:B7 K ys.zc
 t1:zl K ys.zc "start"
 t2:zl K ys.zc "goal"
 t3:zl K ys.zc "length"
 t4:zl K ys.zc "word"
 t5:zl K ys.zc "gone"
 t6:zl K ys.zc "way"
 L:wx K ys.zB
noncomputable def rF (C:Addr):Sp:=fun vs H Q _=>∃ (x dx:Addr)(a b l u:Int),vs=[.ref x, .int a, .int b, .int l, .int u]/\H x=some (.ins C dx [])/\∀ (wa:Addr)(H':Hp),H wa=none->(∀ z o,z ≠ x->H z=some o->H' z=some o)->H' x=some (.ins C dx (nZ ⟨a,b,l,u,0,[]⟩ wa))->H' wa=some (.lst (nV []))->Q .zt H'
theorem K1:ap ["self", "start", "goal", "length", "word"] ["self", "start", "goal", "length", "word"] (aj sy):=L2.zF
theorem yh {ys:Ys}{f:Addr}{fd:FuncData}(F:zA K "__init__" "Letter.__init__" sy f fd)(Y:i7 K ys):zb P w K mg base aG 1 f fd ["self", "start", "goal", "length", "word"] (rF ys.zc):=by
 refine F.ok K1 (fun vs H Q E h=>?_) (fun cdv A outer s H vs Q E hr h=>?_)
 ·obtain⟨x,dx,a,b,l,u,rfl,_⟩:=h
  rfl
 ·obtain⟨x,dx,a,b,l,u,rfl,hx,q⟩:=h
  refine⟨_,af (aX (pv 0) (pv 1) rfl) (af (aX (pv 0) (pv 2) rfl) (af (aX (pv 0) (pv 3) rfl) (af (aX (pv 0) (pv 4) rfl) (af (aX (pv 0) ak rfl) (ai (aX (pv 0) (aU ad) rfl)))))),?_⟩
  refine⟨_,rfl,_,rfl,x,ys.zc,dx,_,rfl,hx,Y.ct,Y.t1,by show 0 < 1000;decide,?_⟩
  refine⟨_,rfl,_,rfl,x,ys.zc,dx,_,rfl,ac,Y.ct,Y.t2,by show 1 < 1000;decide,?_⟩
  refine⟨_,rfl,_,rfl,x,ys.zc,dx,_,rfl,ac,Y.ct,Y.t3,by show 2 < 1000;decide,?_⟩
  refine⟨_,rfl,_,rfl,x,ys.zc,dx,_,rfl,ac,Y.ct,Y.t4,by show 3 < 1000;decide,?_⟩
  refine⟨_,rfl,x,ys.zc,dx,_,rfl,ac,Y.ct,Y.t5,by show 4 < 1000;decide,?_⟩
  refine⟨zero_le _,fun wa Dn=>?_⟩
  have EG:x ≠ wa:=ah ac Dn
  refine⟨_,rfl,x,ys.zc,dx,_,rfl,by rw[ae EG];exact ac,Y.ct,Y.t6,by show 5 < 1000;decide,?_⟩
  have K2:H wa=none:=by
   rw[ae (Ne.symm EG),ae (Ne.symm EG),ae (Ne.symm EG),ae (Ne.symm EG),ae (Ne.symm EG)]at Dn
   exact Dn
  refine q wa _ K2 (fun z o nz e=>?_) ac (by rw[ae (Ne.symm EG)];exact ac)
  have nzw:z ≠ wa:=ah e K2
  rw[ae nz,ae nzw,ae nz,ae nz,ae nz,ae nz,ae nz]
  exact e
noncomputable def vI:V->Int
 | .int i=>i
 | _=>0
noncomputable def p9 (v:V):bU:=⟨vI v,0,none,[]⟩
noncomputable def Y0 (rooms:List V)(n:Nat):YS:=⟨rooms,rooms.map p9,[],List.replicate n [],[]⟩
noncomputable def Bb (H0 H:Hp)(C:Addr)(v:V)(s:bU):Prop:=∃ x dx pa,v = .ref x/\zw H C x dx pa s.r s.b s.h [] []/\s.qs=[]/\H0 x=none/\H0 pa=none
theorem Bb.same {H0 H H':Hp}{C:Addr}{v:V}{s:bU}(h:Bb H0 H C v s)(e:za H H'):Bb H0 H' C v s:=by
 obtain⟨x,dx,pa,h1,h2,h3⟩:=h
 exact⟨x,dx,pa,h1,h2.same e,h3⟩
noncomputable def zM (y:Addr)(ex:List Addr)(H:Hp)(C:Addr)(v:V)(s:bU):Prop:=∃ x dx pa,v = .ref x/\zw H C x dx pa s.r s.b s.h [] []/\s.qs=[]/\x ≠ y/\pa ≠ y/\pa ∉ ex
theorem Bb.K3 {H0 H:Hp}{C y:Addr}{v:V}{s:bU}{u:HO}(h:Bb H0 H C v s){ex:List Addr}(hy:H0 y=some u)(hx:∀ b ∈ ex,∃ o,H0 b=some o):zM y ex H C v s:=by
 obtain⟨x,dx,pa,h1,h2,h3,h4,h5⟩:=h
 exact⟨x,dx,pa,h1,h2,h3,(fun z=>by rw[z,hy]at h4;cases h4),(fun z=>by rw[z,hy]at h5;cases h5),fun z=>by obtain⟨o,ho⟩:=hx _ z;rw[h5]at ho;cases ho⟩
theorem zM.same {y:Addr}{ex:List Addr}{H H':Hp}{C:Addr}{v:V}{s:bU}(h:zM y ex H C v s)(e:za H H'):zM y ex H' C v s:=by
 obtain⟨x,dx,pa,h1,h2,h3⟩:=h
 exact⟨x,dx,pa,h1,h2.same e,h3⟩
theorem zM.upd {y:Addr}{ex:List Addr}{H:Hp}{C:Addr}{v:V}{s:bU}{o:HO}(h:zM y ex H C v s):zM y ex (upd H y o) C v s:=by
 obtain⟨x,dx,pa,h1,h2,h3,h4,h5,h6⟩:=h
 exact⟨x,dx,pa,h1,⟨by rw[ae h4];exact h2.ins,by rw[ae h5];exact h2.lst, .nil⟩,h3,h4,h5,h6⟩
theorem zM.new {y a:Addr}{ex:List Addr}{H:Hp}{C:Addr}{v:V}{s:bU}{o:HO}(h:zM y ex H C v s)(ha:H a=none):zM y (a :: ex) (L2.upd H a o) C v s:=by
 obtain⟨x,dx,pa,h1,h2,h3,h4,h5,h6⟩:=h
 exact⟨x,dx,pa,h1,h2.same ((za.refl H).new ha),h3,h4,h5,fun z=>(mem_cons.mp z).elim (fun z=>by rw[z]at h2;rw[h2.lst]at ha;cases ha) h6⟩
theorem zM.K4 {y:Addr}{ex HX:List Addr}{H:Hp}{C:Addr}{v:V}{s:bU}(h:zM y ex H C v s)(hs:∀ a ∈ HX,a ∈ ex):Bs H C HX v s:=by
 obtain⟨x,dx,pa,h1,h2,h3,h4,h5,h6⟩:=h
 exact⟨x,dx,pa,[],h1,by rw[h3];exact h2,fun z=>h6 (hs _ z)⟩
theorem oz {K:Frag}{ro C:Addr}{zq:List V}{g:TG}{te:TE}{σ0:St}{H:Hp}{Q:VK}(hn:zq.length < sizeLine)(ha:zh K H ro zq)(hint:∀ v ∈ zq,∃ r,v = .int r)
  (hs:∀ (r:Int)(H1:Hp)(N:V->Hp->Prop),za H H1->(∀ x dx pa H2,H1 x=none->H1 pa=none->za H1 H2->zw H2 C x dx pa r 0 none [] []->N (.ref x) H2)->g (.int r) σ0 H1 fun σ2 H2=>te σ2 H2 N)
  (hq:∀ D vs H1,za H H1->H1 D=none->Paired (Bb H H1 C) vs (zq.map p9)->Q (.ref D) (upd H1 D (.lst vs))):dz (MX K ro) g pZ te σ0 Q H:=by
 refine bT zq.length hn (fun i acc H'=>za H H'/\Paired (Bb H H' C) acc ((zq.take i).map p9)) ⟨za.refl _, .nil⟩ (fun i acc H' h=>by have:=Paired.length h.2;rw[this,length_map];exact length_take_le _ _) (fun i acc H' hi h=>?_) (fun acc H' h=>?_)
 ·obtain⟨s,hL⟩:=h
  refine⟨⟨zq,zq[i],b6 s ha,by simp[hi]⟩,fun v H2 y=>?_⟩
  obtain⟨e,y⟩:=y
  subst e
  have hv:=y _ (b6 s ha)
  obtain⟨r,rfl⟩:=hint v (mem_of_getElem? hv)
  refine hs r H2 (fun y H4=>za H H4/\Paired (Bb H H4 C) (acc ++ [y]) ((zq.take (i + 1)).map p9)) s fun x dx pa H3 nx EH s3 BL=>⟨s.trans s3,?_⟩
  rw[take_succ,hv,Option.toList_some,map_append]
  exact Paired.snoc (b:=p9 (.int r)) ⟨x,dx,pa,rfl,BL,rfl,s.free nx,s.free EH⟩ (Paired.mono (fun _ _ z=>z.same s3) hL)
 ·obtain⟨s,hL⟩:=h
  rw[take_length]at hL
  exact⟨⟨zq,b6 s ha,Nat.le_refl _⟩,fun D hD=>hq D acc H' s hD hL⟩
theorem qR {n:Nat}{g:TG}{te:TE}{σ0:St}{H:Hp}{Q:VK}(hn:n <= 1000)
  (hs:∀ (i:Nat)(H1:Hp)(N:V->Hp->Prop),za H H1->(∀ t,H1 t=none->N (.ref t) (upd H1 t (.tup [])))->g (.int (0 + i)) σ0 H1 fun σ2 H2=>te σ2 H2 N)
  (hq:∀ D vs H1,za H H1->H1 D=none->Paired (AA H1) vs (List.replicate n [])->Q (.ref D) (upd H1 D (.lst vs))):dz (w6 0 n) g pZ te σ0 Q H:=by
 refine bT n (by rw[sizeLine_eq];omega) (fun i acc H'=>za H H'/\Paired (AA H') acc (List.replicate i [])) ⟨za.refl _, .nil⟩ (fun i acc H' h=>by have:=Paired.length h.2;rw[this,length_replicate];exact Nat.le_refl _) (fun i acc H' hi h=>?_) (fun acc H' h=>?_)
 ·obtain⟨s,hL⟩:=h
  refine⟨hi,fun v H2 y=>?_⟩
  obtain⟨e1,e2⟩:=y
  subst e1 e2
  refine hs i H2 (fun y H4=>za H H4/\Paired (AA H4) (acc ++ [y]) (List.replicate (i + 1) [])) s fun t ht=>⟨s.new ht,?_⟩
  rw[List.replicate_succ']
  exact Paired.snoc ⟨t,[],rfl,ac, .nil⟩ (Paired.mono (fun _ _ z=>z.keep (za.zz ((za.refl H2).new ht))) hL)
 ·obtain⟨s,hL⟩:=h
  exact⟨Nat.le_refl n,fun D hD=>hq D acc H' s hD hL⟩
theorem fE {K:Frag}{H:Hp}{a y C d:Addr}{fs:Fs}{o:HO}{xs:List V}(hy:H y=some (.ins C d fs))(h:zh K H a xs):zh K (upd H y o) a xs:=by
 rcases h with h | h
 ·refine .inl ?_
  rcases h with h | ⟨u,h⟩
  ·exact .inl (by rw[ae (aY h hy (by intro z;cases z))];exact h)
  ·exact .inr ⟨u,by rw[ae (aY h hy (by intro z;cases z))];exact h⟩
 ·exact .inr h
theorem uN {K:Frag}{H:Hp}{a y C d:Addr}{fs:Fs}{o:HO}{xs:List V}(hy:H y=some (.ins C d fs))(h:zf K H a xs):zf K (upd H y o) a xs:=by
 rcases h with h | h
 ·refine .inl ?_
  rcases h with h | ⟨u,h⟩
  ·exact .inl (by rw[ae (aY h hy (by intro z;cases z))];exact h)
  ·exact .inr ⟨u,by rw[ae (aY h hy (by intro z;cases z))];exact h⟩
 ·exact .inr h
noncomputable def l9 (K:Frag)(c:Cs)(TC:Addr)(J:TJ)(ys:Ys)(nr:Addr):Sp:=fun vs H Q E=>∃ (y dy tb lx zD lt:Addr)(n:Nat)(zi:List V)(ps:List (Int × Int))(wy:Wf)(rv:V)(zq:List V),vs=[.ref y, .ref tb,rv]/\H y=some (.ins ys.zd dy [])/\AX c TC J H tb lx zD lt n zi ps wy/\(∀ b ∈ ys.ex,∃ xs,H b=some (.lst xs)) /\
 ((rv = .zt/\zq=List.replicate ps.length (.int 1))∨(∃ ra,rv = .ref ra/\Sq K H ra zq/\zq.length <= 1000/\(∀ v ∈ zq,qV v)/\(pz ps.length zq=false->∀ H',zk [y] H H'->E (.ref nr) none H'))) /\
 (pz ps.length zq=true->∀ (ro la le li dn:Addr)(H':Hp),zk [y] H H'->H la=none->H le=none->H li=none->H dn=none->zj K ys H' y dy tb ro la le li dn (Y0 zq n)->Q .zt H')
noncomputable def K5 (s:Stmt):Scope:=match s with
 | .Assign _ (.ListComp _ _ sc _) _=>sc
 | _=>{ kind := .function,names:=[],isGenerator:=false,isCoroutine:=false }
theorem iL {v:V}{a b:Int}(h:jK v a b=true):∃ r,v = .int r:=by
 cases v<;>first | exact⟨_,rfl⟩ | cases h
theorem Qa:ap ["self", "table", "rooms"] ["self", "table", "rooms"] (aj hW):=L2.zF
theorem K6:As ["self", "table", "rooms"] (aj hW) (K5 ((aJ hW).getD 2 (.Pass ⟨0,0,0,0⟩))) [] []:=L2.B3
theorem K7:As ["self", "table", "rooms"] (aj hW) (K5 ((aJ hW).getD 4 (.Pass ⟨0,0,0,0⟩))) [] []:=L2.B3
theorem K8:(["place"]:List Str).Nodup:=by decide +kernel
theorem xW {c:Cs}{ys:Ys}{J:TJ}{TC f N0 fr fl nr:Addr}{fd N1 dr dl:FuncData}(F:Di K "__init__" "Yard.__init__" hW f fd)(T:fB mg)(L:lw K c)(Y:i7 K ys)(W:Wy K TC N0 N1 J)
  (mr:mg "rooms_of" = some (.ref fr)) (kr:keepIn K (.ref fr)=true) (br:Binds K dr ["land", "rooms"] []) (Gr:zb P w K mg base (eE P w) 3 fr dr ["land", "rooms"] (oN K c nr))
  (ml:mg "Lane" = some (.ref ys.zB)) (Ml:Mk K ys.zB fl) (bl:Binds K dl ["self", "room"] []) (Gl:zb P w K mg base aG 1 fl dl ["self", "room"] (rG ys.zB)) :
  zb P w K mg base (eE P w) 4 f fd ["self", "table", "rooms"] (l9 K c TC J ys nr):=by
 refine F.Ej Qa (fun vs H Q E h=>?_) (fun cdv A outer s H vs Q E hr h=>?_)
 ·obtain⟨y,dy,tb,lx,zD,lt,n,zi,ps,wy,rv,zq,rfl,_⟩:=h
  rfl
 ·obtain⟨y,dy,tb,lx,zD,lt,n,zi,ps,wy,rv,zq,rfl,hy,hT,hex,hrv,q⟩:=h
  have F3:∀ b ∈ ys.ex,b ∉ [y]:=fun b hb z=>by obtain⟨xs,hz⟩:=hex b hb;rw[mem_singleton.mp z,hy]at hz;cases hz
  have Au:zm 2 _:=hr.mono (by decide)
  refine⟨_,af (aX (pv 0) (pv 1) rfl)
   (af (aX (pv 0) (kR (au Gr hr rfl mr kr br .nil (Ba.passes aN rfl) (aa (ao (pv 1) rfl) (aa (pv 2) ad)))) rfl)
   (af (aX (pv 0) (b5 (own:=["room"]) (capN:=[]) (cap:=[]) K6 rfl (kQ (ao (pv 0) rfl)) (fun C s' H' fp=>⟨ay (i:=0) Kx rfl (Or.inl rfl),dq,du Ml Gl Au rfl ml bl .nil aq (aa (pv 0) ad)⟩)) rfl)
   (af (aX (pv 0) (aU ad) rfl)
   (af (aX (pv 0) (b5 (own:=["place"]) (capN:=[]) (cap:=[]) K7 rfl (aR rfl T.range (aa (ao (ao (pv 1) rfl) rfl) ad)) (fun C s' H' fp=>⟨ay (i:=0) K8 rfl (Or.inl rfl),dq,bG ad⟩)) rfl)
   (ai (aX (pv 0) (aU ad) rfl)))))),?_⟩
  have hm40:=hT.Ad
  have Qb:=hT.PZ
  obtain⟨Cu,fst,Ca,zS,_⟩:=hT.i
  have kp:∀ {H':Hp},zk [y] H H'->zH H H':=fun o=>o.F2 fun b hb=>by rw[mem_singleton.mp hb];exact⟨_,hy,id⟩
  have Qc:tb ≠ y:=aY Ca hy (fun z=>by injection z with _ _ z3;rw[z3]at zS;cases zS)
  refine⟨_,rfl,_,rfl,y,ys.zd,dy,_,rfl,hy,Y.cl,Y.n1,by show 0 < 1000;decide,?_⟩
  have o1:zk [y] H (upd H y (.ins ys.zd dy (aL "table" (.ref tb) []))):=fun b o nb e=>by rw[ae (fun z=>nb (by rw[z];exact mem_singleton.mpr rfl))];exact e
  have g1:(upd H y (.ins ys.zd dy (aL "table" (.ref tb) []))) y=some (.ins ys.zd dy [("table", .ref tb)]):=ac
  have U8:∀ ra,Sq K H ra zq->Sq K (upd H y (.ins ys.zd dy (aL "table" (.ref tb) []))) ra zq:=fun ra h=>h.elim (fun h => .inl (uN hy h)) fun h => .inr (fE hy h)
  show _
  generalize upd H y (.ins ys.zd dy (aL "table" (.ref tb) []))=A1 at o1 g1 U8 ⊢
  have hT1:=hT.keep W (kp o1)
  have Im:∀ {Ha Hb:Hp}{o:HO},zk [y] Ha Hb->zk [y] Ha (upd Hb y o):=fun {Ha Hb o} h b u nb e=>by rw[ae (fun z=>nb (by rw[z];exact mem_singleton.mpr rfl))];exact h b u nb e
  refine⟨fun v A2=>∃ ro,v = .ref ro/\za A1 A2/\zh K A2 ro zq/\pz ps.length zq=true,?_,?_⟩
  ·refine⟨_,rfl,tb,TC,Cu,fst,_,rfl,o1 _ _ (fun z=>Qc (mem_singleton.mp z)) Ca,W.cl,W.nl,zS,_,rfl,lx,zD,lt,(n:Int),zi,ps,rv,rfl,hT1.l,by omega,?_⟩
   rcases hrv with ⟨rfl,rfl⟩ | ⟨ra,rfl,hR,CH,Ky,qE⟩
   ·refine .inl ⟨rfl,fun t A2 s2 ht=>⟨t,rfl,s2,zh.of ht,?_⟩⟩
    unfold pz
    rw[length_replicate,decide_eq_true rfl,Bool.true_and,all_eq_true]
    intro v hv
    rw[eq_of_mem_replicate hv];rfl
   ·have hR1:Sq K A1 ra zq:=U8 ra hR
    exact .inr ⟨ra,zq,rfl,hR1,CH,Ky,fun zg A2 s2=>qE zg A2 (o1.trans (za.zJ s2)),fun zg t A2 s2 ht=>⟨t,rfl,s2,ht,zg⟩⟩
  rintro v A2 ⟨ro,rfl,s2,Nz,zg⟩
  have Ak:zq.length=ps.length/\∀ v ∈ zq,∃ r,v = .int r:=by
   unfold pz at zg
   rw[Bool.and_eq_true,decide_eq_true_eq,all_eq_true]at zg
   exact⟨zg.1,fun v hv=>iL (zg.2 v hv)⟩
  have o2:zk [y] H A2:=o1.trans (za.zJ s2)
  have g2:=s2 _ _ g1
  refine⟨_,rfl,y,ys.zd,dy,_,rfl,g2,Y.cl,Y.n2,by show 1 < 1000;decide,?_⟩
  have o3:=Im (o := .ins ys.zd dy (aL "rooms" (.ref ro) [("table", .ref tb)])) o2
  have g3:(upd A2 y (.ins ys.zd dy (aL "rooms" (.ref ro) [("table", .ref tb)]))) y=some (.ins ys.zd dy [("table", .ref tb),("rooms", .ref ro)]):=ac
  have EI:zh K (upd A2 y (.ins ys.zd dy (aL "rooms" (.ref ro) [("table", .ref tb)]))) ro zq:=fE g2 Nz
  show _
  generalize upd A2 y (.ins ys.zd dy (aL "rooms" (.ref ro) [("table", .ref tb)]))=A3 at o3 g3 EI ⊢
  have Qd:∀ b ∈ ys.ex,∃ o,A3 b=some o:=fun b hb=>let ⟨xs,hz⟩:=hex b hb; ⟨_,o3 b _ (F3 b hb) hz⟩
  refine⟨_,rfl,y,ys.zd,dy,_,_,rfl,g3,Y.cl,Y.n2,rfl,ro,rfl,⟨_,EI⟩,?_⟩
  refine oz (C:=ys.zB) (by rw[sizeLine_eq];omega) EI Ak.2 (fun r B N sB hN=>?_) (fun la zo A4 s4 AJ EJ=>?_)
  ·refine⟨_,rfl,fun x dx nx KA F3=>⟨x,dx,r,rfl,ac,fun pa B2 Dk off hL=>⟨rfl,?_⟩⟩⟩
   have Cq:B pa=none:=by
    by_cases e1:pa=x
    ·rw[e1,ac]at Dk;cases Dk
    ·by_cases e2:pa=dx
     ·rw[e2,ae F3,ac]at Dk;cases Dk
     ·rw[ae e1,ae e2]at Dk;exact Dk
   refine hN x dx pa B2 nx Cq (fun b o e=>off b o (ah e nx) ?_) hL
   rw[ae (ah e nx),ae (ah e KA)]
   exact e
  have o4:zk [y] H A4:=o3.trans (za.zJ s4)
  have g4:=s4 _ _ g3
  have F4:la ≠ y:=Ne.symm (ah g4 AJ)
  have la0:H la=none:=by
   cases e:H la with
   | none=>rfl
   | some u=>rw[o4 _ _ (fun z=>F4 (mem_singleton.mp z)) e]at AJ;cases AJ
  have U9:Paired (zM y (la :: ys.ex) (upd A4 la (.lst zo)) ys.zB) zo (zq.map p9):=Paired.mono (fun _ _ z=>(z.K3 g3 Qd).new AJ) EJ
  have o5:zk [y] H (upd A4 la (.lst zo)):=o4.trans (za.zJ ((za.refl A4).new AJ))
  have g5:(upd A4 la (.lst zo)) y=some (.ins ys.zd dy [("table", .ref tb),("rooms", .ref ro)]):=by rw[ae (Ne.symm F4)];exact g4
  have KC:(upd A4 la (.lst zo)) la=some (.lst zo):=ac
  have KD:zh K (upd A4 la (.lst zo)) ro zq:=b6 ((za.refl A4).new AJ) (b6 s4 EI)
  refine⟨_,rfl,y,ys.zd,dy,_,rfl,g5,Y.cl,Y.n3,by show 2 < 1000;decide,?_⟩
  generalize upd A4 la (.lst zo)=A5 at U9 o5 g5 KC KD ⊢
  have UA:Paired (zM y (la :: ys.ex) (upd A5 y (.ins ys.zd dy (aL "lanes" (.ref la) [("table", .ref tb),("rooms", .ref ro)]))) ys.zB) zo (zq.map p9):=Paired.mono (fun _ _ z=>z.upd) U9
  have o6:=Im (o := .ins ys.zd dy (aL "lanes" (.ref la) [("table", .ref tb),("rooms", .ref ro)])) o5
  have g6:(upd A5 y (.ins ys.zd dy (aL "lanes" (.ref la) [("table", .ref tb),("rooms", .ref ro)]))) y=some (.ins ys.zd dy [("table", .ref tb),("rooms", .ref ro),("lanes", .ref la)]):=ac
  have GX:(upd A5 y (.ins ys.zd dy (aL "lanes" (.ref la) [("table", .ref tb),("rooms", .ref ro)]))) la=some (.lst zo):=by rw[ae F4];exact KC
  have KG:=fE (o := .ins ys.zd dy (aL "lanes" (.ref la) [("table", .ref tb),("rooms", .ref ro)])) g5 KD
  generalize upd A5 y (.ins ys.zd dy (aL "lanes" (.ref la) [("table", .ref tb),("rooms", .ref ro)]))=A6 at UA o6 g6 GX KG ⊢
  refine⟨zero_le _,fun le hle=>?_⟩
  have GZ:le ≠ y:=Ne.symm (ah g6 hle)
  have F5:la ≠ le:=ah GX hle
  have le0:H le=none:=by
   cases e:H le with
   | none=>rfl
   | some u=>rw[o6 _ _ (fun z=>GZ (mem_singleton.mp z)) e]at hle;cases hle
  have UB:Paired (zM y (le :: la :: ys.ex) (upd A6 le (.lst [])) ys.zB) zo (zq.map p9):=Paired.mono (fun _ _ z=>z.new hle) UA
  have o7:zk [y] H (upd A6 le (.lst [])):=o6.trans (za.zJ ((za.refl A6).new hle))
  have g7:(upd A6 le (.lst [])) y=some (.ins ys.zd dy [("table", .ref tb),("rooms", .ref ro),("lanes", .ref la)]):=by rw[ae (Ne.symm GZ)];exact g6
  have KH:(upd A6 le (.lst [])) la=some (.lst zo):=by rw[ae F5];exact GX
  have KI:(upd A6 le (.lst [])) le=some (.lst []):=ac
  have KJ:zh K (upd A6 le (.lst [])) ro zq:=b6 ((za.refl A6).new hle) KG
  refine⟨_,rfl,y,ys.zd,dy,_,rfl,g7,Y.cl,Y.n4,by show 3 < 1000;decide,?_⟩
  generalize upd A6 le (.lst [])=A7 at UB o7 g7 KH KI KJ ⊢
  have UC:Paired (zM y (le :: la :: ys.ex) (upd A7 y (.ins ys.zd dy (aL "letters" (.ref le) [("table", .ref tb),("rooms", .ref ro),("lanes", .ref la)]))) ys.zB) zo (zq.map p9):=Paired.mono (fun _ _ z=>z.upd) UB
  have o8:=Im (o := .ins ys.zd dy (aL "letters" (.ref le) [("table", .ref tb),("rooms", .ref ro),("lanes", .ref la)])) o7
  have g8:(upd A7 y (.ins ys.zd dy (aL "letters" (.ref le) [("table", .ref tb),("rooms", .ref ro),("lanes", .ref la)]))) y=some (.ins ys.zd dy [("table", .ref tb),("rooms", .ref ro),("lanes", .ref la),("letters", .ref le)]):=ac
  have Hj:(upd A7 y (.ins ys.zd dy (aL "letters" (.ref le) [("table", .ref tb),("rooms", .ref ro),("lanes", .ref la)]))) la=some (.lst zo):=by rw[ae F4];exact KH
  have Hl:(upd A7 y (.ins ys.zd dy (aL "letters" (.ref le) [("table", .ref tb),("rooms", .ref ro),("lanes", .ref la)]))) le=some (.lst []):=by rw[ae GZ];exact KI
  have KL:=fE (o := .ins ys.zd dy (aL "letters" (.ref le) [("table", .ref tb),("rooms", .ref ro),("lanes", .ref la)])) g7 KJ
  generalize upd A7 y (.ins ys.zd dy (aL "letters" (.ref le) [("table", .ref tb),("rooms", .ref ro),("lanes", .ref la)]))=A8 at UC o8 g8 Hj Hl KL ⊢
  have hT8:=hT.keep W (kp o8)
  refine⟨_,rfl,tb,TC,Cu,fst,_,rfl,o8 _ _ (fun z=>Qc (mem_singleton.mp z)) Ca,W.cl,W.nl,zS,lx,c.land,zD,_,_,rfl,hT8.l.1,L.cl,L.np,rfl,(n:Int),rfl,by omega,by omega,?_⟩
  rw[toNat_natCast]
  refine qR (by omega) (fun i B N sB hN=>⟨zero_le _,fun t ht=>hN t ht⟩) (fun li BO A9 s9 Cr hLi=>?_)
  have g9:=s9 _ _ g8
  have o9:zk [y] H A9:=o8.trans (za.zJ s9)
  have KN:li ≠ y:=Ne.symm (ah g9 Cr)
  have KO:la ≠ li:=ah (s9 _ _ Hj) Cr
  have KP:le ≠ li:=ah (s9 _ _ Hl) Cr
  have li0:H li=none:=by
   cases e:H li with
   | none=>rfl
   | some u=>rw[o9 _ _ (fun z=>KN (mem_singleton.mp z)) e]at Cr;cases Cr
  have Io:=(za.refl A9).new (o := .lst BO) Cr
  have KQ:Paired (zM y (li :: le :: la :: ys.ex) (upd A9 li (.lst BO)) ys.zB) zo (zq.map p9):=Paired.mono (fun _ _ z=>(z.same s9).new Cr) UC
  have F6:Paired (AA (upd A9 li (.lst BO))) BO (List.replicate n []):=Paired.mono (fun _ _ z=>z.keep (za.zz Io)) hLi
  have F7:(upd A9 li (.lst BO)) li=some (.lst BO):=ac
  have UD:zk [y] H (upd A9 li (.lst BO)):=o9.trans (za.zJ Io)
  have N3:=Io _ _ g9
  have F8:=Io _ _ (s9 _ _ Hj)
  have F9:=Io _ _ (s9 _ _ Hl)
  have FA:=b6 Io (b6 s9 KL)
  refine⟨_,rfl,y,ys.zd,dy,_,rfl,N3,Y.cl,Y.n5,by show 4 < 1000;decide,?_⟩
  generalize upd A9 li (.lst BO)=Hm at KQ F6 F7 UD N3 F8 F9 FA ⊢
  have KR:∀ {B:Hp}{o:HO}{C d:Addr}{fs:Fs}{v:V}{qs:List (Int × Int)},B y=some (.ins C d fs)->AA B v qs->AA (upd B y o) v qs:=fun {B o C d fs v qs} hB h=>by
   obtain⟨t,ws,e,h1,h2⟩:=h
   exact⟨t,ws,e,by rw[ae (aY h1 hB (by intro z;cases z))];exact h1,zy.imp (fun _ _ ⟨t',e',q'⟩=>⟨t',e',by rw[ae (aY q' hB (by intro z;cases z))];exact q'⟩) h2⟩
  have KS:Paired (zM y (li :: le :: la :: ys.ex) (upd Hm y (.ins ys.zd dy (aL "lies" (.ref li) [("table", .ref tb),("rooms", .ref ro),("lanes", .ref la),("letters", .ref le)]))) ys.zB) zo (zq.map p9):=Paired.mono (fun _ _ z=>z.upd) KQ
  have FC:Paired (AA (upd Hm y (.ins ys.zd dy (aL "lies" (.ref li) [("table", .ref tb),("rooms", .ref ro),("lanes", .ref la),("letters", .ref le)])))) BO (List.replicate n []):=Paired.mono (fun _ _ z=>KR N3 z) F6
  have N4:=Im (o := .ins ys.zd dy (aL "lies" (.ref li) [("table", .ref tb),("rooms", .ref ro),("lanes", .ref la),("letters", .ref le)])) UD
  have Qe:(upd Hm y (.ins ys.zd dy (aL "lies" (.ref li) [("table", .ref tb),("rooms", .ref ro),("lanes", .ref la),("letters", .ref le)]))) y=some (.ins ys.zd dy [("table", .ref tb),("rooms", .ref ro),("lanes", .ref la),("letters", .ref le),("lies", .ref li)]):=ac
  have DR:(upd Hm y (.ins ys.zd dy (aL "lies" (.ref li) [("table", .ref tb),("rooms", .ref ro),("lanes", .ref la),("letters", .ref le)]))) la=some (.lst zo):=by rw[ae F4];exact F8
  have DS:(upd Hm y (.ins ys.zd dy (aL "lies" (.ref li) [("table", .ref tb),("rooms", .ref ro),("lanes", .ref la),("letters", .ref le)]))) le=some (.lst []):=by rw[ae GZ];exact F9
  have DT:(upd Hm y (.ins ys.zd dy (aL "lies" (.ref li) [("table", .ref tb),("rooms", .ref ro),("lanes", .ref la),("letters", .ref le)]))) li=some (.lst BO):=by rw[ae KN];exact F7
  have FD:=fE (o := .ins ys.zd dy (aL "lies" (.ref li) [("table", .ref tb),("rooms", .ref ro),("lanes", .ref la),("letters", .ref le)])) N3 FA
  generalize upd Hm y (.ins ys.zd dy (aL "lies" (.ref li) [("table", .ref tb),("rooms", .ref ro),("lanes", .ref la),("letters", .ref le)]))=A11 at KS FC N4 Qe DR DS DT FD ⊢
  refine⟨zero_le _,fun dn BA=>?_⟩
  have N5:dn ≠ y:=Ne.symm (ah Qe BA)
  have KU:la ≠ dn:=ah DR BA
  have KW:le ≠ dn:=ah DS BA
  have KY:li ≠ dn:=ah DT BA
  have dn0:H dn=none:=by
   cases e:H dn with
   | none=>rfl
   | some u=>rw[N4 _ _ (fun z=>N5 (mem_singleton.mp z)) e]at BA;cases BA
  have FE:=(za.refl A11).new (o := .lst []) BA
  have Qf:=FE _ _ Qe
  refine⟨_,rfl,y,ys.zd,dy,_,rfl,Qf,Y.cl,Y.n6,by show 5 < 1000;decide,?_⟩
  refine q zg ro la le li dn _ (Im (N4.trans (za.zJ FE))) la0 le0 li0 dn0 ⟨ac,fE Qf (b6 FE FD),⟨zo,by rw[ae F4];exact FE _ _ DR,?_⟩,⟨[],by rw[ae GZ];exact FE _ _ DS, .nil⟩,⟨BO,by rw[ae KN];exact FE _ _ DT,Paired.mono (fun _ _ z=>KR Qf (z.keep (za.zz FE))) FC⟩,⟨[],by rw[ae N5];exact ac, .nil⟩,?_,(fun b hb=>let ⟨xs,hz⟩:=hex b hb; ⟨xs,(Im (N4.trans (za.zJ FE))) b _ (F3 b hb) hz⟩)⟩
  ·refine Paired.mono (fun _ _ z=>((z.new BA).upd).K4 fun a ha=>?_) KS
   simp only[mem_cons]at ha ⊢
   rcases ha with rfl | rfl | rfl | rfl | h
   ·exact .inr (.inr (.inr (.inl rfl)))
   ·exact .inr (.inr (.inl rfl))
   ·exact .inr (.inl rfl)
   ·exact .inl rfl
   ·exact .inr (.inr (.inr (.inr h)))
  ·simp only[nodup_cons,mem_cons,not_mem_nil,or_false,not_or,not_false_eq_true,and_true,nodup_nil]
   exact⟨⟨F5,KO,KU⟩,⟨KP,KW⟩,KY⟩
theorem zj.off {K:Frag}{ys:Ys}{H H':Hp}{y dy tb ro la le li dn:Addr}{s:YS}(h:zj K ys H y dy tb ro la le li dn s)(o:zk (la :: le :: li :: dn :: ys.ex) H H'):H' y=some (.ins ys.zd dy (Ny tb ro la le li dn))/\zh K H' ro s.rooms/\(∀ vs ss,Paired (Bs H ys.zB (la :: le :: li :: dn :: ys.ex)) vs ss->Paired (Bs H' ys.zB (la :: le :: li :: dn :: ys.ex)) vs ss)/\(∀ vs ss,Paired (BM H ys.zc (la :: le :: li :: dn :: ys.ex)) vs ss->Paired (BM H' ys.zc (la :: le :: li :: dn :: ys.ex)) vs ss)/\(∀ vs ss,Paired (AA H) vs ss->Paired (AA H') vs ss)/\∀ vs ss,Paired (AE H) vs ss->Paired (AE H') vs ss:=by
 have hx:=h.CQ
 have k:=o.zz hx
 refine⟨k _ _ h.ins True.intro,?_,fun vs ss=>Paired.mono fun _ _ z=>z.zJ hx o,fun vs ss=>Paired.mono fun _ _ z=>z.zJ hx o,fun vs ss=>Paired.mono fun _ _ z=>z.keep k,fun vs ss=>Paired.mono fun _ _ z=>z.keep k⟩
 rcases h.Nz with r | r
 ·refine .inl ?_
  rcases r with r | ⟨u,r⟩
  ·exact .inl (k _ _ r True.intro)
  ·exact .inr ⟨u,k _ _ r True.intro⟩
 ·exact .inr r
theorem cv {ex:List Addr}{a:Addr}{H:Hp}{o:HO}(ha:a ∈ ex):zk ex H (upd H a o):=fun b u nb e=>by rw[ae (fun z=>nb (by rw[z];exact ha))];exact e
theorem pH {H:Hp}{x b:Addr}{zs:List V}(h:∃ xs,H b=some (.lst xs)):∃ xs,(upd H x (.lst zs)) b=some (.lst xs):=by
 by_cases e:b=x
 ·exact⟨zs,by rw[e,ac]⟩
 ·obtain⟨xs,hz⟩:=h
  exact⟨xs,by rw[ae e];exact hz⟩
theorem zj.KZ {K:Frag}{ys:Ys}{H:Hp}{y dy tb ro la le li dn:Addr}{s:YS}(h:zj K ys H y dy tb ro la le li dn s){vs:List V}{v:V}{t:aW}(hv:H le=some (.lst vs))(hL:BM H ys.zc (la :: le :: li :: dn :: ys.ex) v t):zj K ys (upd H le (.lst (vs ++ [v]))) y dy tb ro la le li dn { s with yZ:=s.yZ ++ [t] }:=by
 obtain⟨h1,h2,f1,f2,f3,f4⟩:=h.off (cv (a:=le) (o := .lst (vs ++ [v])) (by simp))
 obtain⟨v1,a1,p1⟩:=h.AJ
 obtain⟨v2,a2,p2⟩:=h.hle
 obtain⟨v3,a3,p3⟩:=h.Cr
 obtain⟨v4,a4,p4⟩:=h.BA
 rw[hv]at a2
 cases a2
 have ne:=h.ne
 simp only[nodup_cons,mem_cons,not_mem_nil,or_false,not_or,not_false_eq_true,and_true,nodup_nil]at ne
 have Qg:Paired (BM (upd H le (.lst (vs ++ [v]))) ys.zc (la :: le :: li :: dn :: ys.ex)) [v] [t]:=f2 [v] [t] (.cons hL .nil)
 exact⟨h1,h2,⟨v1,by rw[ae ne.1.1];exact a1,f1 _ _ p1⟩,⟨vs ++ [v],ac,Paired.snoc (by cases Qg with | cons z _=>exact z) (f2 _ _ p2)⟩,⟨v3,by rw[ae (Ne.symm ne.2.1.1)];exact a3,f3 _ _ p3⟩,⟨v4,by rw[ae (Ne.symm ne.2.1.2)];exact a4,f4 _ _ p4⟩,h.ne,fun b hb=>pH (h.hex b hb)⟩
theorem zj.FF {K:Frag}{ys:Ys}{H:Hp}{y dy tb ro la le li dn:Addr}{s:YS}(h:zj K ys H y dy tb ro la le li dn s){vs:List V}{v:V}{t:List V}(hv:H dn=some (.lst vs))(hL:AE H v t):zj K ys (upd H dn (.lst (vs ++ [v]))) y dy tb ro la le li dn { s with done:=s.done ++ [t] }:=by
 obtain⟨h1,h2,f1,f2,f3,f4⟩:=h.off (cv (a:=dn) (o := .lst (vs ++ [v])) (by simp))
 obtain⟨v1,a1,p1⟩:=h.AJ
 obtain⟨v2,a2,p2⟩:=h.hle
 obtain⟨v3,a3,p3⟩:=h.Cr
 obtain⟨v4,a4,p4⟩:=h.BA
 rw[hv]at a4
 cases a4
 have ne:=h.ne
 simp only[nodup_cons,mem_cons,not_mem_nil,or_false,not_or,not_false_eq_true,and_true,nodup_nil]at ne
 have Qg:Paired (AE (upd H dn (.lst (vs ++ [v])))) [v] [t]:=f4 [v] [t] (.cons hL .nil)
 exact⟨h1,h2,⟨v1,by rw[ae ne.1.2.2];exact a1,f1 _ _ p1⟩,⟨v2,by rw[ae ne.2.1.2];exact a2,f2 _ _ p2⟩,⟨v3,by rw[ae ne.2.2];exact a3,f3 _ _ p3⟩,⟨vs ++ [v],ac,Paired.snoc (by cases Qg with | cons z _=>exact z) (f4 _ _ p4)⟩,h.ne,fun b hb=>pH (h.hex b hb)⟩
inductive Pd
 | place | length | word | way | full | good
noncomputable def kS (n:Nat)(wy:Wf)(m:Nat)(sv gv lv wv:V):Pd :=
 if (jK sv 0 ((n:Int) - 1) && jK gv 0 ((n:Int) - 1))=false then .place else if jK lv 1 60=false then .length else if Nx wv=false then .word
 else if vI sv=vI gv∨wy (vI sv).toNat (vI gv).toNat none=[] then .way else if 60 <= m then .full else .good
structure Xs where
 place:Addr
 length:Addr
 word:Addr
 way:Addr
 full:Addr
noncomputable def cI (s:YS)(a b l u:Int):YS:={ s with yZ:=s.yZ ++ [⟨a,b,l,u,0,[]⟩],done:=s.done ++ [[.str "post", .int a, .int b, .int l, .int u]] }
noncomputable def nu (K:Frag)(c:Cs)(TC:Addr)(J:TJ)(ys:Ys)(x:Xs):Sp:=fun vs H Q E=>∃ (y dy tb ro la le li dn lx zD lt:Addr)(n:Nat)(zi:List V)(ps:List (Int × Int))(wy:Wf)(s:YS)(sv gv lv wv:V),vs=[.ref y,sv,gv,lv,wv]/\zj K ys H y dy tb ro la le li dn s/\AX c TC J H tb lx zD lt n zi ps wy/\qV sv/\qV gv/\qV lv/\qV wv/\s.yZ.length <= 900/\s.done.length <= 10000 /\
 (kS n wy s.yZ.length sv gv lv wv = .place->∀ H',za H H'->E (.ref x.place) none H') /\
 (kS n wy s.yZ.length sv gv lv wv = .length->∀ H',za H H'->E (.ref x.length) none H') /\
 (kS n wy s.yZ.length sv gv lv wv = .word->∀ H',za H H'->E (.ref x.word) none H') /\
 (kS n wy s.yZ.length sv gv lv wv = .way->∀ H' d,za H H'->H' d=some (.xd [("start",sv),("goal",gv)])->E (.ref x.way) (some d) H') /\
 (kS n wy s.yZ.length sv gv lv wv = .full->∀ H',za H H'->E (.ref x.full) none H') /\
 (kS n wy s.yZ.length sv gv lv wv = .good->∀ H',zk [le,dn] H H'->zj K ys H' y dy tb ro la le li dn (cI s (vI sv) (vI gv) (vI lv) (vI wv))->Q (.int s.yZ.length) H')
structure UE (K:Frag)(mg:Str->Option Value)(C f:Addr)(d:FuncData):Prop where
 m:mg "NoWay" = some (.ref C)
 x:b0 K C (some (.ref f))=true
 k:keepIn K (.ref C)=true
 c:gs K C
 n1:findIn K (.ref C) "start" = some none
 n2:findIn K (.ref C) "goal" = some none
 i:isFn K (.ref f)=true
 F:zA K "__init__" "NoWay.__init__" uU f d
 b:Binds K d ["self", "start", "goal"] []
abbrev NPo:List Str:=["self", "start", "goal", "length", "word", "last_place"]
abbrev La:List Str:=["self", "start", "goal", "length", "word"]
theorem Lb:ap NPo La (aj gJ):=L2.zF
theorem vw {c:Cs}{ys:Ys}{x:Xs}{J:TJ}{TC f N0 fw Qh fl UG:Addr}{fd N1 dw UH dl UI:FuncData}{t1 t2:Tok}(F:Di K "post" "Yard.post" gJ f fd)(T:fB mg)(L:lw K c)(Y:i7 K ys)(W:Wy K TC N0 N1 J)(Hn:zb P w K mg base aG 3 N0 N1 ["self", "place", "goal", "came"] (dX J))
  (mw:mg "is_within" = some (.ref fw)) (kw:keepIn K (.ref fw)=true) (bw:Binds K dw ["value", "least", "most"] []) (Gw:zb P w K mg base aG 2 fw dw ["value", "least", "most"] fF)
  (mwo:mg "is_word" = some (.ref Qh)) (kwo:keepIn K (.ref Qh)=true) (bwo:Binds K UH ["word"] []) (Qi:zb P w K mg base aG 2 Qh UH ["word"] rn)
  (ml:mg "Letter" = some (.ref ys.zc)) (Ml:Mk K ys.zc fl) (bl:Binds K dl ["self", "start", "goal", "length", "word"] []) (Gl:zb P w K mg base aG 1 fl dl ["self", "start", "goal", "length", "word"] (rF ys.zc))
  (mL:mg "MOST_LENGTH" = some (.int 60 t1)) (mM:mg "MOST_LETTERS" = some (.int 60 t2)) (X1:uG K mg "NoPlace" x.place) (X2:uG K mg "NoLength" x.length) (X3:uG K mg "NoWord" x.word) (X4:UE K mg x.way UG UI) (X5:uG K mg "Full" x.full) :
  zb P w K mg base (eE P w) 4 f fd La (nu K c TC J ys x):=by
 have Gnw:zb P w K mg base aG 1 UG UI ["self", "start", "goal"] (wE K "start" "goal"):=K0 X4.F
 refine F.Ej Lb (fun vs H Q E h=>?_) (fun cdv A outer s H vs Q E hr h=>?_)
 ·obtain⟨y,dy,tb,ro,la,le,li,dn,lx,zD,lt,n,zi,ps,wy,s,sv,gv,lv,wv,rfl,_⟩:=h
  rfl
 ·obtain⟨y,dy,tb,ro,la,le,li,dn,lx,zD,lt,n,zi,ps,wy,st,sv,gv,lv,wv,rfl,hY,hT,cs,cg,cl,cw,hl9,hd9,e1,e2,e3,e4,e5,q⟩:=h
  have Au:zm 2 _:=hr.mono (by decide)
  refine⟨_,af (aD (i:=5) Lb.nd rfl (Or.inl rfl) (aC e9 (ao (ao (ao (pv 0) rfl) rfl) rfl) ak))
   (af (aO (PW.pt (i3 (bZ (bF (au Gw Au rfl mw kw bw .nil aq (aa (pv 1) (aa ak (aa (pv 5) ad)))))) (eP (bZ (bF (au Gw Au rfl mw kw bw .nil aq (aa (pv 2) (aa ak (aa (pv 5) ad)))))))))
    (ai (b8 rfl X1.x aN (cf X1.x X1.k rfl rfl X1.m (aa bu ad)))) aI)
   (af (aO (bZ (bF (au Gw Au rfl mw kw bw .nil aq (aa (pv 3) (aa ak (aa (e8 (v := .int 60) rfl mL ⟨_,rfl⟩) ad))))))
    (ai (b8 rfl X2.x aN (cf X2.x X2.k rfl rfl X2.m (aa bu ad)))) aI)
   (af (aO (bZ (bF (au Qi Au rfl mwo kwo bwo .nil aq (aa (pv 4) ad))))
    (ai (b8 rfl X3.x aN (cf X3.x X3.k rfl rfl X3.m (aa bu ad)))) aI)
   (af (aO (iH (PW.pt (i3 (av bz (pv 1) (pv 2) (az _)) (eP (bZ (jh (aB (ao (pv 0) rfl) W.cl W.m Hn hr W.b .nil aq (aa (pv 1) (aa (pv 2) (aa cx ad)))) (fun _=>rfl)))))))
    (ai (b8 rfl X4.x aN (iF X4.x X4.i X4.k Gnw Au X4.b rfl X4.m (aa (pv 1) (aa (pv 2) ad))))) aI)
   (af (aO (av wQ (aF ax rfl T.len PySem.boot_len (aa (ao (pv 0) rfl) ad)) (e8 (v := .int 60) rfl mM ⟨_,rfl⟩) (az _))
    (ai (b8 rfl X5.x aN (cf X5.x X5.k rfl rfl X5.m (aa bu ad)))) aI)
   (af (aQ (c4 plainAttrs_list PySem.F.slot_list_append PySem.F.type_list_append bN (ao (pv 0) rfl) (aa (du Ml Gl Au rfl ml bl .nil aq (aa (pv 1) (aa (pv 2) (aa (pv 3) (aa (pv 4) ad))))) ad)))
   (af (aQ (c4 plainAttrs_list PySem.F.slot_list_append PySem.F.type_list_append bN (ao (pv 0) rfl) (aa (bG (aa bu (aa (pv 1) (aa (pv 2) (aa (pv 3) (aa (pv 4) ad)))))) ad)))
   (ai (ar (aC e9 (aF ax rfl T.len PySem.boot_len (aa (ao (pv 0) rfl) ad)) ak)))))))))),?_⟩
  obtain⟨Cu,fst,Ca,zS,Bc⟩:=hT.i
  unfold kS at e1 e2 e3 e4 e5 q
  refine⟨_,rfl,y,ys.zd,dy,_,_,rfl,hY.ins,Y.cl,Y.n1,rfl,tb,TC,Cu,fst,_,rfl,Ca,W.cl,W.nl,zS,lx,c.land,zD,_,_,rfl,hT.l.1,L.cl,L.np,rfl,_,_,rfl,rfl,?_⟩
  refine⟨_,rfl,_,rfl,sv,0,(n:Int) - 1,rfl,cs,_,rfl,?_⟩
  cases h1:jK sv 0 ((n:Int) - 1) with
  | false =>
   refine aK (aK ⟨by show 1 <= sizeLine;decide,?_⟩)
   exact e1 (by rw[h1,Bool.false_and,if_pos rfl]) H (za.refl H)
  | true =>
  refine aH ⟨_,rfl,_,rfl,gv,0,(n:Int) - 1,rfl,cg,_,rfl,?_⟩
  cases h2:jK gv 0 ((n:Int) - 1) with
  | false =>
   refine aK ⟨by show 1 <= sizeLine;decide,?_⟩
   exact e1 (by rw[h1,h2,Bool.and_false,if_pos rfl]) H (za.refl H)
  | true =>
  rw[h1,h2,Bool.true_and,if_neg (by decide)]at e2 e3 e4 e5 q
  refine aH ⟨_,rfl,lv,1,60,rfl,cl,_,rfl,?_⟩
  cases h3:jK lv 1 60 with
  | false =>
   refine aK ⟨by show 1 <= sizeLine;decide,?_⟩
   exact e2 (by rw[h3,if_pos rfl]) H (za.refl H)
  | true =>
  rw[h3,if_neg (by decide)]at e3 e4 e5 q
  refine aH ⟨_,rfl,wv,rfl,cw,_,rfl,?_⟩
  cases h4:Nx wv with
  | false =>
   refine aK ⟨by show 1 <= sizeLine;decide,?_⟩
   exact e3 (by rw[h4,if_pos rfl]) H (za.refl H)
  | true =>
  rw[h4,if_neg (by decide)]at e4 e5 q
  refine aH ?_
  obtain⟨a,rfl⟩:=iL h1
  obtain⟨b,rfl⟩:=iL h2
  obtain⟨l,rfl⟩:=iL h3
  obtain⟨u,rfl⟩:∃ u,wv = .int u:=by
   cases wv<;>first | exact⟨_,rfl⟩ | cases h4
  have ha:0 <= a/\a <= (n:Int) - 1:=of_decide_eq_true h1
  have hb:0 <= b/\b <= (n:Int) - 1:=of_decide_eq_true h2
  obtain⟨a',rfl⟩:∃ a':Nat,a=(a':Int):=⟨a.toNat,by omega⟩
  obtain⟨b',rfl⟩:∃ b':Nat,b=(b':Int):=⟨b.toNat,by omega⟩
  have ev:∀ z:Int,vI (.int z)=z:=fun _=>rfl
  rw[ev,ev,toNat_natCast,toNat_natCast]at e4 e5 q
  refine⟨fun k H1=>za H H1/\k=decide ((a':Int)=(b':Int)∨wy a' b' none=[]),?_,?_⟩
  ·refine⟨_,rfl,_,rfl,rfl,_,rfl,?_⟩
   rw[bP]
   by_cases Ip:(a':Int)=(b':Int)
   ·rw[decide_eq_true Ip]
    exact aK ⟨za.refl H,by rw[decide_eq_true (Or.inl Ip)]⟩
   ·rw[decide_eq_false Ip]
    refine aH ⟨_,rfl,y,ys.zd,dy,_,_,rfl,hY.ins,Y.cl,Y.n1,rfl,tb,Cu,fst,rfl,Ca,Bc,_,rfl,_,rfl,tb,n,wy,a',b',none,rfl,hT.j,by omega,by omega,fun D H1 s1 hD gD=>⟨_, .inl ⟨_,zf.of gD,rfl⟩,s1,?_⟩⟩
    cases hw:wy a' b' none with
    | nil=>rw[decide_eq_true (Or.inr rfl)];rfl
    | cons z zs=>rw[decide_eq_false (fun z=>z.elim Ip fun z=>by cases z)];rfl
  rintro k H1 ⟨s1,rfl⟩
  have Bt:=hY.same s1
  by_cases EK:(a':Int)=(b':Int)∨wy a' b' none=[]
  ·rw[decide_eq_true EK]
   refine aK ⟨_,rfl,_,rfl,by show 2 <= sizeLine;decide,fun e tt he=>⟨e,_,tt,_,_,rfl,ac,X4.c,X4.n1,X4.n2,fun d H2 hd off Ek hd2=>⟨rfl,some d,Ek,?_⟩⟩⟩
   have Em:d ≠ e:=fun z=>by rw[z,ac]at hd;cases hd
   refine e4 (by rw[if_pos EK]) _ d (fun z o ez=>?_) (by rw[dE Em];exact hd2)
   have Qj:z ≠ e:=ah (s1 _ _ ez) he
   rw[dE Qj]
   exact off z o Qj (by rw[ae Qj];exact s1 _ _ ez)
  rw[decide_eq_false EK]
  rw[if_neg EK]at e5 q
  refine aH ?_
  obtain⟨Dp,Ax,pl⟩:=Bt.hle
  have En:Dp.length=st.yZ.length:=Paired.length pl
  refine⟨_,rfl,y,ys.zd,dy,_,_,rfl,Bt.ins,Y.cl,Y.n4,rfl,le,_,rfl, .inl (zf.of Ax),_,_,rfl,rfl,_,rfl,?_⟩
  by_cases FG:60 <= st.yZ.length
  ·rw[decide_eq_true (show (60:Int) <= (Dp.length:Nat) by omega)]
   refine aK ⟨by show 1 <= sizeLine;decide,?_⟩
   exact e5 (by rw[if_pos FG]) H1 s1
  rw[decide_eq_false (show ¬ (60:Int) <= (Dp.length:Nat) by omega)]
  rw[if_neg FG]at q
  refine aH ?_
  refine⟨_,rfl,y,ys.zd,dy,_,_,rfl,Bt.ins,Y.cl,Y.n4,rfl, .inl ⟨rfl,_,zf.of Ax⟩,_,rfl,_,rfl,_,rfl,_,rfl,fun xl Bj nx KA F3=>⟨xl,Bj,(a':Int),(b':Int),l,u,rfl,ac,fun wa H2 Dn off El EL=>⟨rfl,?_⟩⟩⟩
  have Qk:za H1 H2:=fun z o ez=>off z o (ah ez nx) (by rw[ae (ah ez nx),ae (ah ez KA)];exact ez)
  have Ql:H1 wa=none:=by
   by_cases z1:wa=xl
   ·rw[z1,ac]at Dn;cases Dn
   ·by_cases z2:wa=Bj
    ·rw[z2,ae F3,ac]at Dn;cases Dn
    ·rw[ae z1,ae z2]at Dn;exact Dn
  have C2:=Bt.same Qk
  have Lc:=Qk _ _ Ax
  have hlv:BM H2 ys.zc (la :: le :: li :: dn :: ys.ex) (.ref xl) ⟨(a':Int),(b':Int),l,u,0,[]⟩:=⟨xl,Bj,wa,rfl,El,EL,fun z=>by obtain⟨xs,hz⟩:=Bt.CQ wa z;rw[Ql]at hz;cases hz⟩
  refine⟨le,_,_,rfl,rfl,Lc,by rw[sizeLine_eq];omega,?_⟩
  have B4:=C2.KZ Lc hlv
  have o3:zk [le,dn] H (upd H2 le (.lst (Dp ++ [.ref xl]))):=(za.zJ (s1.trans Qk)).trans (cv (by simp))
  generalize upd H2 le (.lst (Dp ++ [.ref xl]))=H3 at B4 o3 ⊢
  obtain⟨Ai,FH,pd⟩:=B4.BA
  have Ii:Ai.length=st.done.length:=Paired.length pd
  refine⟨_,rfl,y,ys.zd,dy,_,_,rfl,B4.ins,Y.cl,Y.n6,rfl, .inl ⟨rfl,_,zf.of FH⟩,_,rfl,_,rfl,_,rfl,_,rfl,by show 5 <= sizeLine;decide,fun t ht=>?_⟩
  have N6:=(za.refl H3).new (o := .tup [.str "post", .int (a':Int), .int (b':Int), .int l, .int u]) ht
  have UJ:(upd H3 t (.tup [.str "post", .int (a':Int), .int (b':Int), .int l, .int u])) t=some (.tup [.str "post", .int (a':Int), .int (b':Int), .int l, .int u]):=ac
  generalize upd H3 t (.tup [.str "post", .int (a':Int), .int (b':Int), .int l, .int u])=H4 at N6 UJ ⊢
  have hY4:=B4.same N6
  have Ld:=N6 _ _ FH
  refine⟨dn,_,_,rfl,rfl,Ld,by rw[sizeLine_eq];omega,?_⟩
  have Ho:=hY4.FF Ld ⟨t,rfl,UJ⟩
  have o5:zk [le,dn] H (upd H4 dn (.lst (Ai ++ [.ref t]))):=(o3.trans (za.zJ N6)).trans (cv (by simp))
  generalize upd H4 dn (.lst (Ai ++ [.ref t]))=H5 at Ho o5 ⊢
  obtain⟨UK,Qm,pl5⟩:=Ho.hle
  have UL:UK.length=st.yZ.length + 1:=by rw[Paired.length pl5,length_append];rfl
  refine⟨_,rfl,y,ys.zd,dy,_,_,rfl,Ho.ins,Y.cl,Y.n4,rfl,le,_,rfl, .inl (zf.of Qm),_,_,rfl,rfl,?_⟩
  have er:((UK.length:Nat):Int) - 1=(st.yZ.length:Int):=by omega
  dsimp only
  rw[er]
  exact q rfl H5 o5 Ho
noncomputable def rJ (K:Frag)(ys:Ys):Sp:=fun vs H Q _=>∃ (y dy tb ro la le li dn:Addr)(s:YS)(k:Nat)(lt:aW),vs=[.ref y, .int k]/\zj K ys H y dy tb ro la le li dn s/\s.yZ[k]? = some lt/\∀ (t:Addr)(H':Hp),za H H'->H' t=some (.tup [.int lt.start, .int lt.goal, .int lt.len, .int lt.word])->Q (.ref t) H'
noncomputable def rp (K:Frag)(ys:Ys):Sp:=fun vs H Q _=>∃ (y dy tb ro la le li dn:Addr)(s:YS)(k:Nat)(lt:aW),vs=[.ref y, .int k]/\zj K ys H y dy tb ro la le li dn s/\s.yZ[k]? = some lt/\∀ (t:Addr)(H':Hp),za H H'->H t=none->H' t=some (.lst (nV lt.way))->Q (.ref t) H'
noncomputable def rN (K:Frag)(ys:Ys):Sp:=fun vs H Q _=>∃ (y dy tb ro la le li dn:Addr)(s:YS),vs=[.ref y]/\zj K ys H y dy tb ro la le li dn s/\∀ (t:Addr)(vs:List V)(H':Hp),za H H'->H t=none->H' t=some (.lst vs)->Paired (AE H') vs s.done->Q (.ref t) H'
theorem Le:ap ["self", "number", "letter"] ["self", "number"] (aj sw):=L2.zF
theorem vB {ys:Ys}{f:Addr}{fd:FuncData}(F:zA K "letter_told" "Yard.letter_told" sw f fd)(Y:i7 K ys):zb P w K mg base aG 1 f fd ["self", "number"] (rJ K ys):=by
 refine F.ok Le (fun vs H Q E h=>?_) (fun cdv A outer s H vs Q E hr h=>?_)
 ·obtain⟨y,dy,tb,ro,la,le,li,dn,st,k,ln,rfl,_⟩:=h
  rfl
 ·obtain⟨y,dy,tb,ro,la,le,li,dn,st,k,lt,rfl,hY,hk,q⟩:=h
  refine⟨_,af (aD (i:=2) Le.nd rfl (Or.inl rfl) (aw aM (ao (pv 0) rfl) (pv 1) (fun _ _=>rfl))) (ai (ar (bG (aa (ao (pv 2) rfl) (aa (ao (pv 2) rfl) (aa (ao (pv 2) rfl) (aa (ao (pv 2) rfl) ad))))))),?_⟩
  obtain⟨zi,Ax,pl⟩:=hY.hle
  obtain⟨v,hv,x,dx,wa,rfl,hx,_⟩:=Paired.at2 pl hk
  refine⟨_,rfl,y,ys.zd,dy,_,_,rfl,hY.ins,Y.cl,Y.n4,rfl,_,rfl,le,zi,(k:Int),_,rfl,rfl,zf.of Ax,al hv,?_⟩
  refine⟨_,rfl,x,ys.zc,dx,_,_,rfl,hx,Y.ct,Y.t1,rfl,_,rfl,x,ys.zc,dx,_,_,rfl,hx,Y.ct,Y.t2,rfl,_,rfl,x,ys.zc,dx,_,_,rfl,hx,Y.ct,Y.t3,rfl,_,rfl,x,ys.zc,dx,_,_,rfl,hx,Y.ct,Y.t4,rfl,by show 4 <= sizeLine;decide,fun t ht=>?_⟩
  exact q t _ ((za.refl H).new ht) ac
theorem Qn:ap ["self", "number"] ["self", "number"] (aj rW):=L2.zF
theorem vp {ys:Ys}{f:Addr}{fd:FuncData}(F:zA K "way_told" "Yard.way_told" rW f fd)(T:fB mg)(Y:i7 K ys):zb P w K mg base aG 1 f fd ["self", "number"] (rp K ys):=by
 refine F.ok Qn (fun vs H Q E h=>?_) (fun cdv A outer s H vs Q E hr h=>?_)
 ·obtain⟨y,dy,tb,ro,la,le,li,dn,st,k,ln,rfl,_⟩:=h
  rfl
 ·obtain⟨y,dy,tb,ro,la,le,li,dn,st,k,lt,rfl,hY,hk,q⟩:=h
  refine⟨_,ai (ar (bW bX rfl T.list PySem.Pv.boot_list (aa (ao (aw aM (ao (pv 0) rfl) (pv 1) (fun _ _=>rfl)) rfl) ad))),?_⟩
  obtain⟨zi,Ax,pl⟩:=hY.hle
  obtain⟨v,hv,x,dx,wa,rfl,hx,hw,_⟩:=Paired.at2 pl hk
  refine⟨_,rfl,y,ys.zd,dy,_,_,rfl,hY.ins,Y.cl,Y.n4,rfl,_,rfl,le,zi,(k:Int),_,rfl,rfl,zf.of Ax,al hv,x,ys.zc,dx,_,_,rfl,hx,Y.ct,Y.t6,rfl,wa,_,rfl, .inl (zf.of hw),fun t ht=>?_⟩
  exact q t _ ((za.refl H).new ht) ht ac
theorem Qo:ap ["self"] ["self"] (aj sC):=L2.zF
theorem vE {ys:Ys}{f:Addr}{fd:FuncData}(F:zA K "history" "Yard.history" sC f fd)(T:fB mg)(Y:i7 K ys):zb P w K mg base aG 1 f fd ["self"] (rN K ys):=by
 refine F.ok Qo (fun vs H Q E h=>?_) (fun cdv A outer s H vs Q E hr h=>?_)
 ·obtain⟨y,dy,tb,ro,la,le,li,dn,st,rfl,_⟩:=h
  rfl
 ·obtain⟨y,dy,tb,ro,la,le,li,dn,st,rfl,hY,q⟩:=h
  refine⟨_,ai (ar (bW bX rfl T.list PySem.Pv.boot_list (aa (ao (pv 0) rfl) ad))),?_⟩
  obtain⟨Ai,FH,pd⟩:=hY.BA
  refine⟨_,rfl,y,ys.zd,dy,_,_,rfl,hY.ins,Y.cl,Y.n6,rfl,dn,_,rfl, .inl (zf.of FH),fun t ht=>?_⟩
  exact q t Ai _ ((za.refl H).new ht) ht ac (Paired.mono (fun _ _ z=>z.keep (za.zz ((za.refl H).new ht))) pd)
theorem oB {K:Frag}{T:Addr}{o:Obj}{n:Nat}{kV doc pm cdv ct:Value}{an:Option Addr}(ho:K.lookup T=some o)(hs:o.data = .seq #[Value.none] n) :
  Binds K (fnOf "__init__" "Yard.__init__" (bI hW) (aJ hW) (aj hW) (.ref T) kV doc pm an cdv ct) ["self", "table", "rooms"] []:=fun s us Dv hl=>by
 match us,hl with
 | [a,b,c],_=>exact BindsTo.of_defaults rfl (Dv _ _ ho) hs rfl rfl
theorem mU {K:Frag}{T:Addr}{o:Obj}{n:Nat}{tk:Tok}{kV doc pm cdv ct:Value}{an:Option Addr}(ho:K.lookup T=some o)(hs:o.data = .seq #[Value.int 0 tk] n) :
  Binds K (fnOf "post" "Yard.post" (bI gJ) (aJ gJ) (aj gJ) (.ref T) kV doc pm an cdv ct) La [Value.int 0 tk]:=fun s us Dv hl=>by
 have hl:us.length=4:=by rw[length_append]at hl;exact Nat.succ.inj hl
 match us,hl with
 | [a,b,c,d],_=>exact BindsTo.of_defaults rfl (Dv _ _ ho) hs rfl rfl
noncomputable def wJ (C:Addr):Sp:=fun vs H Q _=>∃ (x dx pa:Addr)(r b:Int)(h:Option Int)(zx:List V)(qs:List (Int × Int)),vs=[.ref x]/\zw H C x dx pa r b h zx qs/\∀ (x' Dc D7:Addr)(H':Hp),za H H'->H x' = none->H D7 = none->zw H' C x' Dc D7 r b h zx qs->Q (.ref x') H'
noncomputable def wI (C:Addr):Sp:=fun vs H Q _=>∃ (x dx wa:Addr)(s:aW),vs=[.ref x]/\H x=some (.ins C dx (nZ s wa))/\H wa=some (.lst (nV s.way))/\∀ (x' Dc CS:Addr)(H':Hp),za H H'->H x' = none->H CS = none->H' x' = some (.ins C Dc (nZ s CS))->H' CS = some (.lst (nV s.way))->Q (.ref x') H'
theorem FI:ap ["self", "other"] ["self"] (aj x9):=L2.zF
theorem yi {C f fl:Addr}{fd dl:FuncData}(F:zA K "twin" "Lane.twin" x9 f fd)(T:fB mg)(L:wx K C)(ml:mg "Lane" = some (.ref C))(Ml:Mk K C fl)(bl:Binds K dl ["self", "room"] [])(Gl:zb P w K mg base aG 1 fl dl ["self", "room"] (rG C)) :
  zb P w K mg base aG 3 f fd ["self"] (wJ C):=by
 refine F.ok FI (fun vs H Q E h=>?_) (fun cdv A outer s H vs Q E hr h=>?_)
 ·obtain⟨x,dx,pa,r,b,h,zx,qs,rfl,_⟩:=h
  rfl
 ·obtain⟨x,dx,pa,r,b,h,zx,qs,rfl,hL,q⟩:=h
  refine⟨_,af (aD (i:=1) FI.nd rfl (Or.inl rfl) (du Ml Gl hr rfl ml bl .nil aq (aa (ao (pv 0) rfl) ad)))
   (af (aX (pv 1) (ao (pv 0) rfl) rfl)
   (af (aX (pv 1) (ao (pv 0) rfl) rfl)
   (af (aX (pv 1) (bW bX rfl T.list PySem.Pv.boot_list (aa (ao (pv 0) rfl) ad)) rfl)
   (ai (ar (pv 1)))))),?_⟩
  refine⟨_,rfl,x,C,dx,_,_,rfl,hL.ins,L.cl,L.n1,rfl,fun x' d' nx nd ne=>⟨x',d',r,rfl,ac,fun Hq H1 EF off FJ=>⟨rfl,?_⟩⟩⟩
  have s1:za H H1:=fun z o ez=>off z o (ah ez nx) (by rw[ae (ah ez nx),ae (ah ez nd)];exact ez)
  have hi1:=FJ.ins
  clear EF off FJ
  refine⟨_,rfl,x,C,dx,_,_,rfl,s1 _ _ hL.ins,L.cl,L.n2,rfl,_,rfl,x',C,d',_,rfl,hi1,L.cl,L.n2,by show 4 < 1000;decide,?_⟩
  have o2:∀ o',za H (upd H1 x' o'):=fun o' z o ez=>by rw[ae (ah ez nx)];exact s1 _ _ ez
  refine⟨_,rfl,x,C,dx,_,_,rfl,o2 _ _ _ hL.ins,L.cl,L.n3,rfl,_,rfl,x',C,d',_,rfl,ac,L.cl,L.n3,by show 4 < 1000;decide,?_⟩
  have o3:∀ o' UM,za H (upd (upd H1 x' o') x' UM):=fun o' UM z o ez=>by rw[ae (ah ez nx)];exact o2 _ _ _ ez
  have s3:=o3 (.ins C d' (aL "returning" (.int b) (i6 r 0 (hV none) Hq))) (.ins C d' (aL "holder" (hV h) (aL "returning" (.int b) (i6 r 0 (hV none) Hq))))
  have Hr:(upd (upd H1 x' (.ins C d' (aL "returning" (.int b) (i6 r 0 (hV none) Hq)))) x' (.ins C d' (aL "holder" (hV h) (aL "returning" (.int b) (i6 r 0 (hV none) Hq))))) x' = some (.ins C d' (i6 r b (hV h) Hq)):=ac
  generalize upd (upd H1 x' (.ins C d' (aL "returning" (.int b) (i6 r 0 (hV none) Hq)))) x' (.ins C d' (aL "holder" (hV h) (aL "returning" (.int b) (i6 r 0 (hV none) Hq))))=H3 at s3 Hr ⊢
  refine⟨_,rfl,x,C,dx,_,_,rfl,s3 _ _ hL.ins,L.cl,L.n4,rfl,pa,_,rfl, .inl (zf.of (s3 _ _ hL.lst)),fun D7 Hs=>?_⟩
  have Dk:H D7 = none:=by
   cases e:H D7 with
   | none=>rfl
   | some o=>rw[s3 _ _ e]at Hs;cases Hs
  have Lf:x' ≠ D7:=ah Hr Hs
  refine⟨_,rfl,x',C,d',_,rfl,by rw[ae Lf];exact Hr,L.cl,L.n4,by show 4 < 1000;decide,_,rfl,?_⟩
  have s4:∀ o',za H (upd (upd H3 D7 (.lst zx)) x' o'):=fun o' z o ez=>by rw[ae (ah ez nx),ae (ah ez Dk)];exact s3 _ _ ez
  exact q x' d' D7 _ (s4 _) nx Dk ⟨ac,by rw[ae (Ne.symm Lf)];exact ac,zy.same (s4 _) hL.Aq⟩
theorem FK:ap ["self", "other"] ["self"] (aj su):=L2.zF
theorem yg {ys:Ys}{f fl:Addr}{fd dl:FuncData}(F:zA K "twin" "Letter.twin" su f fd)(T:fB mg)(Y:i7 K ys)(ml:mg "Letter" = some (.ref ys.zc))(Ml:Mk K ys.zc fl)(bl:Binds K dl ["self", "start", "goal", "length", "word"] [])(Gl:zb P w K mg base aG 1 fl dl ["self", "start", "goal", "length", "word"] (rF ys.zc)) :
  zb P w K mg base aG 3 f fd ["self"] (wI ys.zc):=by
 refine F.ok FK (fun vs H Q E h=>?_) (fun cdv A outer s H vs Q E hr h=>?_)
 ·obtain⟨x,dx,wa,s,rfl,_⟩:=h
  rfl
 ·obtain⟨x,dx,wa,t,rfl,hx,hw,q⟩:=h
  refine⟨_,af (aD (i:=1) FK.nd rfl (Or.inl rfl) (du Ml Gl hr rfl ml bl .nil aq (aa (ao (pv 0) rfl) (aa (ao (pv 0) rfl) (aa (ao (pv 0) rfl) (aa (ao (pv 0) rfl) ad))))))
   (af (aX (pv 1) (ao (pv 0) rfl) rfl)
   (af (aX (pv 1) (bW bX rfl T.list PySem.Pv.boot_list (aa (ao (pv 0) rfl) ad)) rfl)
   (ai (ar (pv 1))))),?_⟩
  refine⟨_,rfl,x,ys.zc,dx,_,_,rfl,hx,Y.ct,Y.t1,rfl,_,rfl,x,ys.zc,dx,_,_,rfl,hx,Y.ct,Y.t2,rfl,_,rfl,x,ys.zc,dx,_,_,rfl,hx,Y.ct,Y.t3,rfl,_,rfl,x,ys.zc,dx,_,_,rfl,hx,Y.ct,Y.t4,rfl,fun x' d' nx nd ne=>⟨x',d',t.start,t.goal,t.len,t.word,rfl,ac,fun w0 H1 FL off AQ DU=>⟨rfl,?_⟩⟩⟩
  have s1:za H H1:=fun z o ez=>off z o (ah ez nx) (by rw[ae (ah ez nx),ae (ah ez nd)];exact ez)
  clear FL off DU
  refine⟨_,rfl,x,ys.zc,dx,_,_,rfl,s1 _ _ hx,Y.ct,Y.t5,rfl,_,rfl,x',ys.zc,d',_,rfl,AQ,Y.ct,Y.t5,by show 6 < 1000;decide,?_⟩
  have s3:za H (upd H1 x' (.ins ys.zc d' (aL "gone" (.int t.gone) (nZ ⟨t.start,t.goal,t.len,t.word,0,[]⟩ w0)))):=fun z o ez=>by rw[ae (ah ez nx)];exact s1 _ _ ez
  have Hr:(upd H1 x' (.ins ys.zc d' (aL "gone" (.int t.gone) (nZ ⟨t.start,t.goal,t.len,t.word,0,[]⟩ w0)))) x' = some (.ins ys.zc d' (nZ ⟨t.start,t.goal,t.len,t.word,t.gone,[]⟩ w0)):=ac
  show _
  generalize upd H1 x' (.ins ys.zc d' (aL "gone" (.int t.gone) (nZ ⟨t.start,t.goal,t.len,t.word,0,[]⟩ w0)))=H3 at s3 Hr ⊢
  refine⟨_,rfl,x,ys.zc,dx,_,_,rfl,s3 _ _ hx,Y.ct,Y.t6,rfl,wa,_,rfl, .inl (zf.of (s3 _ _ hw)),fun CS Ht=>?_⟩
  have Dn:H CS = none:=by
   cases e:H CS with
   | none=>rfl
   | some o=>rw[s3 _ _ e]at Ht;cases Ht
  have Lf:x' ≠ CS:=ah Hr Ht
  refine⟨_,rfl,x',ys.zc,d',_,rfl,by rw[ae Lf];exact Hr,Y.ct,Y.t6,by show 6 < 1000;decide,_,rfl,?_⟩
  have s4:∀ o',za H (upd (upd H3 CS (.lst (nV t.way))) x' o'):=fun o' z o ez=>by rw[ae (ah ez nx),ae (ah ez Dn)];exact s3 _ _ ez
  exact q x' d' CS _ (s4 _) nx Dn ac (by rw[ae (Ne.symm Lf)];exact ac)
structure YA where
 y:Addr
 dy:Addr
 tb:Addr
 ro:Addr
 la:Addr
 le:Addr
 li:Addr
 dn:Addr
 lx:Addr
 zD:Addr
 lt:Addr
 n:Nat
 zi:List V
 ps:List (Int × Int)
 wy:Wf
abbrev An (K:Frag)(ys:Ys)(H:Hp)(a:YA)(s:YS):Prop:=zj K ys H a.y a.dy a.tb a.ro a.la a.le a.li a.dn s
abbrev Lg (c:Cs)(TC:Addr)(J:TJ)(H:Hp)(a:YA):Prop:=AX c TC J H a.tb a.lx a.zD a.lt a.n a.zi a.ps a.wy
abbrev YA.four (a:YA):List Addr:=[a.la,a.le,a.li,a.dn]
theorem Paired.set {α β:Type}{R:α->β->Prop}{v:α}{r:β}(h:R v r):∀ {vs:List α}{rs:List β}(i:Nat),Paired R vs rs->Paired R (vs.set i v) (rs.set i r)
 | _,_,_, .nil => .nil
 | _,_,0, .cons _ t => .cons h t
 | _,_,i + 1, .cons x t => .cons x (Paired.set h i t)
theorem zk.mono {ex HX:List Addr}{H H':Hp}(h:∀ b ∈ ex,b ∈ HX)(o:zk ex H H'):zk HX H H':=fun b u nb e=>o b u (fun z=>nb (h b z)) e
theorem tK {K:Frag}{ys:Ys}{H:Hp}{a:YA}{s:YS}(h:An K ys H a s){p:Addr}(hp:H p=none):p ∉ a.four:=fun z=>by obtain⟨xs,hz⟩:=h.Ct p z;rw[hp]at hz;cases hz
theorem jN {K:Frag}{ys:Ys}{H:Hp}{a:YA}{s:YS}(h:An K ys H a s){p:Addr}(hp:H p=none):p ∉ a.la :: a.le :: a.li :: a.dn :: ys.ex:=fun z=>by obtain⟨xs,hz⟩:=zj.CQ h p z;rw[hp]at hz;cases hz
theorem lf {H H2:Hp}{x b:Addr}{zs:List V}(o:zk [x] H H2)(hx:H2 x=some (.lst zs))(h:∃ xs,H b=some (.lst xs)):∃ xs,H2 b=some (.lst xs):=by
 by_cases e:b=x
 ·exact⟨zs,by rw[e];exact hx⟩
 ·obtain⟨xs,hz⟩:=h
  exact⟨xs,o _ _ (by simpa using e) hz⟩
theorem An.BP {K:Frag}{ys:Ys}{H H2:Hp}{a:YA}{s:YS}(h:An K ys H a s){vs:List V}(hv:H a.la=some (.lst vs))(o:zk [a.la] H H2){k:Nat}{x dx pa:Addr}(hl:H2 a.la=some (.lst (vs.set k (.ref x)))){ln:bU}{zx:List V}
  (L:zw H2 ys.zB x dx pa ln.r ln.b ln.h zx ln.qs) (np:H pa=none):An K ys H2 a { s with lanes:=s.lanes.set k ln }:=by
 obtain⟨h1,h2,f1,f2,f3,f4⟩:=zj.off h (o.mono (by simp))
 obtain⟨v1,a1,p1⟩:=h.AJ
 obtain⟨v2,a2,p2⟩:=h.hle
 obtain⟨v3,a3,p3⟩:=h.Cr
 obtain⟨v4,a4,p4⟩:=h.BA
 rw[hv]at a1
 cases a1
 have ne:=h.ne
 simp only[nodup_cons,mem_cons,not_mem_nil,or_false,not_or,not_false_eq_true,and_true,nodup_nil]at ne
 exact⟨h1,h2,⟨_,hl,Paired.set ⟨x,dx,pa,zx,rfl,L,jN h np⟩ k (f1 _ _ p1)⟩,⟨v2,o _ _ (by simp;exact Ne.symm ne.1.1) a2,f2 _ _ p2⟩,⟨v3,o _ _ (by simp;exact Ne.symm ne.1.2.1) a3,f3 _ _ p3⟩,⟨v4,o _ _ (by simp;exact Ne.symm ne.1.2.2) a4,f4 _ _ p4⟩,h.ne,fun b hb=>lf o hl (h.hex b hb)⟩
theorem An.DV {K:Frag}{ys:Ys}{H H2:Hp}{a:YA}{s:YS}(h:An K ys H a s){vs:List V}(hv:H a.le=some (.lst vs))(o:zk [a.le] H H2){k:Nat}{x dx wa:Addr}(hl:H2 a.le=some (.lst (vs.set k (.ref x)))){t:aW}
  (hx:H2 x=some (.ins ys.zc dx (nZ t wa))) (hw:H2 wa=some (.lst (nV t.way))) (np:H wa=none):An K ys H2 a { s with yZ:=s.yZ.set k t }:=by
 obtain⟨h1,h2,f1,f2,f3,f4⟩:=zj.off h (o.mono (by simp))
 obtain⟨v1,a1,p1⟩:=h.AJ
 obtain⟨v2,a2,p2⟩:=h.hle
 obtain⟨v3,a3,p3⟩:=h.Cr
 obtain⟨v4,a4,p4⟩:=h.BA
 rw[hv]at a2
 cases a2
 have ne:=h.ne
 simp only[nodup_cons,mem_cons,not_mem_nil,or_false,not_or,not_false_eq_true,and_true,nodup_nil]at ne
 exact⟨h1,h2,⟨v1,o _ _ (by simp;exact ne.1.1) a1,f1 _ _ p1⟩,⟨_,hl,Paired.set ⟨x,dx,wa,rfl,hx,hw,jN h np⟩ k (f2 _ _ p2)⟩,⟨v3,o _ _ (by simp;exact Ne.symm ne.2.1.1) a3,f3 _ _ p3⟩,⟨v4,o _ _ (by simp;exact Ne.symm ne.2.1.2) a4,f4 _ _ p4⟩,h.ne,fun b hb=>lf o hl (h.hex b hb)⟩
theorem An.Hu {K:Frag}{ys:Ys}{H H2:Hp}{a:YA}{s:YS}(h:An K ys H a s){vs:List V}(hv:H a.li=some (.lst vs))(o:zk [a.li] H H2){k:Nat}{v:V}(hl:H2 a.li=some (.lst (vs.set k v))){qs:List (Int × Int)}
  (L:AA H2 v qs):An K ys H2 a { s with lies:=s.lies.set k qs }:=by
 obtain⟨h1,h2,f1,f2,f3,f4⟩:=zj.off h (o.mono (by simp))
 obtain⟨v1,a1,p1⟩:=h.AJ
 obtain⟨v2,a2,p2⟩:=h.hle
 obtain⟨v3,a3,p3⟩:=h.Cr
 obtain⟨v4,a4,p4⟩:=h.BA
 rw[hv]at a3
 cases a3
 have ne:=h.ne
 simp only[nodup_cons,mem_cons,not_mem_nil,or_false,not_or,not_false_eq_true,and_true,nodup_nil]at ne
 exact⟨h1,h2,⟨v1,o _ _ (by simp;exact ne.1.2.1) a1,f1 _ _ p1⟩,⟨v2,o _ _ (by simp;exact ne.2.1.1) a2,f2 _ _ p2⟩,⟨_,hl,Paired.set L k (f3 _ _ p3)⟩,⟨v4,o _ _ (by simp;exact Ne.symm ne.2.2) a4,f4 _ _ p4⟩,h.ne,fun b hb=>lf o hl (h.hex b hb)⟩
noncomputable def rC (K:Frag)(ys:Ys):Sp:=fun vs H Q _=>∃ (a:YA)(s:YS)(k:Nat)(ln:bU)(zo:List V),vs=[.ref a.y, .int k]/\An K ys H a s/\s.lanes[k]? = some ln/\H a.la=some (.lst zo) /\
 ∀ (x dx pa:Addr)(zx:List V)(H':Hp),zk [a.la] H H'->H x=none->H pa=none->H' a.la=some (.lst (zo.set k (.ref x)))->zw H' ys.zB x dx pa ln.r ln.b ln.h zx ln.qs->Q (.ref x) H'
noncomputable def rB (K:Frag)(ys:Ys):Sp:=fun vs H Q _=>∃ (a:YA)(s:YS)(k:Nat)(t:aW)(zi:List V),vs=[.ref a.y, .int k]/\An K ys H a s/\s.yZ[k]? = some t/\H a.le=some (.lst zi) /\
 ∀ (x dx wa:Addr)(H':Hp),zk [a.le] H H'->H x=none->H wa=none->H' a.le=some (.lst (zi.set k (.ref x)))->H' x=some (.ins ys.zc dx (nZ t wa))->H' wa=some (.lst (nV t.way))->Q (.ref x) H'
noncomputable def wK (K:Frag)(ys:Ys):Sp:=fun vs H Q _=>∃ (a:YA)(s:YS)(v:V)(q:Int × Int)(p:Nat)(qs:List (Int × Int)),vs=[.ref a.y,v, .int p]/\An K ys H a s/\wz H v q/\s.lies[p]? = some qs/\qs.length <= 100000 /\
 ∀ H',zk [a.li] H H'->An K ys H' a { s with lies:=s.lies.set p (qs ++ [q]) }->Q .zt H'
noncomputable def oR (K:Frag)(ys:Ys):Sp:=fun vs H Q _=>∃ (a:YA)(s:YS)(p:Nat)(qs:List (Int × Int)),vs=[.ref a.y, .int p]/\An K ys H a s/\s.lies[p]? = some qs /\
 ∀ (D:Addr)(zx:List V)(H':Hp),za H H'->H D=none->H' D=some (.lst zx)->zy H' zx qs->Q (.ref D) H'
theorem xq:ap ["self", "lane"] ["self", "lane"] (aj se):=L2.zF
theorem vy {ys:Ys}{f ft:Addr}{fd dt:FuncData}(F:zA K "own_lane" "Yard.own_lane" se f fd)(Y:i7 K ys)(mt:bA K ys.zB "twin" ft)(bt:Binds K dt ["self"] [])(Gt:zb P w K mg base aG 3 ft dt ["self"] (wJ ys.zB)) :
  zb P w K mg base aG 4 f fd ["self", "lane"] (rC K ys):=by
 refine F.ok xq (fun vs H Q E h=>?_) (fun cdv A outer s H vs Q E hr h=>?_)
 ·obtain⟨a,s,k,ln,zo,rfl,_⟩:=h
  rfl
 ·obtain⟨a,st,k,ln,zo,rfl,hY,hk,zX,q⟩:=h
  refine⟨_,af (kP (ci (aw aM (ao (pv 0) rfl) (pv 1) (fun _ _=>rfl)) Y.L.cl mt Gt hr bt .nil aq) (nN (ao (pv 0) rfl) (pv 1) jb))
   (ai (ar (aw aM (ao (pv 0) rfl) (pv 1) (fun _ _=>rfl)))),?_⟩
  obtain⟨lvs',Lh,pl⟩:=hY.AJ
  rw[zX]at Lh
  cases Lh
  obtain⟨v,hv,x,dx,pa,zx,rfl,hL,_⟩:=Paired.at2 pl hk
  have AY:k < zo.length:=(List.getElem?_eq_some_iff.mp hv).1
  refine⟨_,rfl,a.y,ys.zd,a.dy,_,_,rfl,hY.ins,Y.cl,Y.n3,rfl,_,rfl,a.la,zo,(k:Int),_,rfl,rfl,zf.of zX,al hv,x,dx,_,rfl,hL.ins,rfl,?_⟩
  refine⟨x,dx,pa,ln.r,ln.b,ln.h,zx,ln.qs,rfl,hL,fun x' Dc D7 H1 s1 nx EH FJ=>?_⟩
  refine⟨_,rfl,a.y,ys.zd,a.dy,_,_,rfl,s1 _ _ hY.ins,Y.cl,Y.n3,rfl,_,rfl,a.la,zo,(k:Int),k,rfl,rfl,s1 _ _ zX,iN AY,?_⟩
  have o1:zk [a.la] H (upd H1 a.la (.lst (zo.set k (.ref x')))):=(za.zJ s1).trans (cv (by simp))
  have g1:(upd H1 a.la (.lst (zo.set k (.ref x')))) a.la=some (.lst (zo.set k (.ref x'))):=ac
  have Bu:zw (upd H1 a.la (.lst (zo.set k (.ref x')))) ys.zB x' Dc D7 ln.r ln.b ln.h zx ln.qs:=by
   have n1:x' ≠ a.la:=aY FJ.ins (s1 _ _ zX) (by intro z;cases z)
   have n2:D7 ≠ a.la:=fun z=>by rw[z,zX]at EH;cases EH
   exact⟨by rw[ae n1];exact FJ.ins,by rw[ae n2];exact FJ.lst,zy.zJ (ex:=[a.la]) (fun b hb=>by simp at hb;subst hb;exact⟨_,s1 _ _ zX⟩) (cv (by simp)) FJ.Aq⟩
  generalize upd H1 a.la (.lst (zo.set k (.ref x')))=H2 at o1 g1 Bu ⊢
  have Qp:H2 a.y=some (.ins ys.zd a.dy (Ny a.tb a.ro a.la a.le a.li a.dn)):=o1 _ _ (by simp;exact aY hY.ins zX (by intro z;cases z)) hY.ins
  exact⟨_,rfl,a.y,ys.zd,a.dy,_,_,rfl,Qp,Y.cl,Y.n3,rfl,_,rfl,a.la,_,(k:Int), .ref x',rfl,rfl,zf.of g1,al (by simp[AY]),q x' Dc D7 zx H2 o1 nx EH g1 Bu⟩
theorem xp:ap ["self", "number"] ["self", "number"] (aj rZ):=L2.zF
theorem vx {ys:Ys}{f ft:Addr}{fd dt:FuncData}(F:zA K "own_letter" "Yard.own_letter" rZ f fd)(Y:i7 K ys)(mt:bA K ys.zc "twin" ft)(bt:Binds K dt ["self"] [])(Gt:zb P w K mg base aG 3 ft dt ["self"] (wI ys.zc)) :
  zb P w K mg base aG 4 f fd ["self", "number"] (rB K ys):=by
 refine F.ok xp (fun vs H Q E h=>?_) (fun cdv A outer s H vs Q E hr h=>?_)
 ·obtain⟨a,s,k,ln,zo,rfl,_⟩:=h
  rfl
 ·obtain⟨a,st,k,t,zi,rfl,hY,hk,Ax,q⟩:=h
  refine⟨_,af (kP (ci (aw aM (ao (pv 0) rfl) (pv 1) (fun _ _=>rfl)) Y.ct mt Gt hr bt .nil aq) (nN (ao (pv 0) rfl) (pv 1) jb))
   (ai (ar (aw aM (ao (pv 0) rfl) (pv 1) (fun _ _=>rfl)))),?_⟩
  obtain⟨Dp,Li,pl⟩:=hY.hle
  rw[Ax]at Li
  cases Li
  obtain⟨v,hv,x,dx,wa,rfl,hx,hw,_⟩:=Paired.at2 pl hk
  have AY:k < zi.length:=(List.getElem?_eq_some_iff.mp hv).1
  refine⟨_,rfl,a.y,ys.zd,a.dy,_,_,rfl,hY.ins,Y.cl,Y.n4,rfl,_,rfl,a.le,zi,(k:Int),_,rfl,rfl,zf.of Ax,al hv,x,dx,_,rfl,hx,rfl,?_⟩
  refine⟨x,dx,wa,t,rfl,hx,hw,fun x' Dc CS H1 s1 nx EH AQ DU=>?_⟩
  refine⟨_,rfl,a.y,ys.zd,a.dy,_,_,rfl,s1 _ _ hY.ins,Y.cl,Y.n4,rfl,_,rfl,a.le,zi,(k:Int),k,rfl,rfl,s1 _ _ Ax,iN AY,?_⟩
  have o1:zk [a.le] H (upd H1 a.le (.lst (zi.set k (.ref x')))):=(za.zJ s1).trans (cv (by simp))
  have g1:(upd H1 a.le (.lst (zi.set k (.ref x')))) a.le=some (.lst (zi.set k (.ref x'))):=ac
  have n1:x' ≠ a.le:=aY AQ (s1 _ _ Ax) (by intro z;cases z)
  have n2:CS ≠ a.le:=fun z=>by rw[z,Ax]at EH;cases EH
  have El:(upd H1 a.le (.lst (zi.set k (.ref x')))) x' = some (.ins ys.zc Dc (nZ t CS)):=by rw[ae n1];exact AQ
  have EL:(upd H1 a.le (.lst (zi.set k (.ref x')))) CS = some (.lst (nV t.way)):=by rw[ae n2];exact DU
  generalize upd H1 a.le (.lst (zi.set k (.ref x')))=H2 at o1 g1 El EL ⊢
  have Qp:H2 a.y=some (.ins ys.zd a.dy (Ny a.tb a.ro a.la a.le a.li a.dn)):=o1 _ _ (by simp;exact aY hY.ins Ax (by intro z;cases z)) hY.ins
  exact⟨_,rfl,a.y,ys.zd,a.dy,_,_,rfl,Qp,Y.cl,Y.n4,rfl,_,rfl,a.le,_,(k:Int), .ref x',rfl,rfl,zf.of g1,al (by simp[AY]),q x' Dc CS H2 o1 nx EH g1 El EL⟩
theorem Lj:ap ["self", "piece", "place"] ["self", "piece", "place"] (aj xC):=L2.zF
theorem yl {ys:Ys}{f:Addr}{fd:FuncData}(F:zA K "lay" "Yard.lay" xC f fd)(Y:i7 K ys):zb P w K mg base aG 1 f fd ["self", "piece", "place"] (wK K ys):=by
 refine F.ok Lj (fun vs H Q E h=>?_) (fun cdv A outer s H vs Q E hr h=>?_)
 ·obtain⟨a,s,v,q,p,qs,rfl,_⟩:=h
  rfl
 ·obtain⟨a,st,v,qp,p,qs,rfl,hY,hv,hp,hlen,q⟩:=h
  refine⟨_,ai (kP (aC vm (aw aM (ao (pv 0) rfl) (pv 2) (fun _ _=>rfl)) (bG (aa (pv 1) ad))) (nN (ao (pv 0) rfl) (pv 2) jb)),?_⟩
  obtain⟨zo,FN,pl⟩:=hY.Cr
  obtain⟨v0,N7,t0,D6,rfl,FO,Lk⟩:=Paired.at2 pl hp
  have AY:p < zo.length:=(List.getElem?_eq_some_iff.mp N7).1
  have hl0:D6.length=qs.length:=Paired.length Lk
  refine⟨_,rfl,a.y,ys.zd,a.dy,_,_,rfl,hY.ins,Y.cl,Y.n5,rfl,_,rfl,a.li,zo,(p:Int),_,rfl,rfl,zf.of FN,al N7,_,rfl,by show 1 <= sizeLine;decide,fun t ht=>?_⟩
  have s1:=(za.refl H).new (o := .tup [v]) ht
  have g1:(upd H t (.tup [v])) t=some (.tup [v]):=ac
  generalize upd H t (.tup [v])=H1 at s1 g1 ⊢
  have fin:∀ (z:Addr)(H2:Hp),za H H2->AA H2 (.ref z) (qs ++ [qp])->Q .zt (upd H2 a.li (.lst (zo.set p (.ref z)))):=fun z H2 s2 hz=>by
   have o2:zk [a.li] H (upd H2 a.li (.lst (zo.set p (.ref z)))):=(za.zJ s2).trans (cv (by simp))
   refine q _ o2 (An.Hu hY FN o2 ac ?_)
   obtain⟨tz,vz,ez,UN,hz2⟩:=hz
   cases ez
   have nz:z ≠ a.li:=aY UN (s2 _ _ FN) (by intro y;cases y)
   exact⟨z,vz,rfl,by rw[ae nz];exact UN,zy.zJ (ex:=[a.li]) (fun b hb=>by simp at hb;subst hb;exact⟨_,s2 _ _ FN⟩) (cv (by simp)) hz2⟩
  refine⟨t0,t,D6,[v],rfl,rfl,zh.of (s1 _ _ FO),zh.of g1,by simp,by rw[sizeLine_eq];simp;omega,fun e0=>?_,fun e0 p2 D5=>?_⟩
  ·subst e0
   cases Lk
   refine⟨_,rfl,a.y,ys.zd,a.dy,_,_,rfl,s1 _ _ hY.ins,Y.cl,Y.n5,rfl,_,rfl,a.li,zo,(p:Int),p,rfl,rfl,s1 _ _ FN,iN AY,?_⟩
   exact fin t H1 s1 ⟨t,[v],rfl,g1, .cons (let ⟨u,e,hu⟩:=hv; ⟨u,e,s1 _ _ hu⟩) .nil⟩
  ·have s2:=s1.new (o := .tup (D6 ++ [v])) D5
   have g2:(upd H1 p2 (.tup (D6 ++ [v]))) p2=some (.tup (D6 ++ [v])):=ac
   generalize upd H1 p2 (.tup (D6 ++ [v]))=H2 at s2 g2 ⊢
   refine⟨_,rfl,a.y,ys.zd,a.dy,_,_,rfl,s2 _ _ hY.ins,Y.cl,Y.n5,rfl,_,rfl,a.li,zo,(p:Int),p,rfl,rfl,s2 _ _ FN,iN AY,?_⟩
   exact fin p2 H2 s2 ⟨p2,_,rfl,g2,zy.snoc (let ⟨u,e,hu⟩:=hv; ⟨u,e,s2 _ _ hu⟩) (zy.same s2 Lk)⟩
theorem Ll:ap ["self", "place"] ["self", "place"] (aj nG):=L2.zF
theorem tD {ys:Ys}{f:Addr}{fd:FuncData}(F:zA K "lying" "Yard.lying" nG f fd)(T:fB mg)(Y:i7 K ys):zb P w K mg base aG 1 f fd ["self", "place"] (oR K ys):=by
 refine F.ok Ll (fun vs H Q E h=>?_) (fun cdv A outer s H vs Q E hr h=>?_)
 ·obtain⟨a,s,p,qs,rfl,_⟩:=h
  rfl
 ·obtain⟨a,st,p,qs,rfl,hY,hp,q⟩:=h
  refine⟨_,ai (ar (bW bX rfl T.list PySem.Pv.boot_list (aa (aw aM (ao (pv 0) rfl) (pv 1) (fun _ _=>rfl)) ad))),?_⟩
  obtain⟨zo,FN,pl⟩:=hY.Cr
  obtain⟨v0,N7,t0,D6,rfl,FO,Lk⟩:=Paired.at2 pl hp
  refine⟨_,rfl,a.y,ys.zd,a.dy,_,_,rfl,hY.ins,Y.cl,Y.n5,rfl,_,rfl,a.li,zo,(p:Int),_,rfl,rfl,zf.of FN,al N7,t0,_,rfl, .inr (zh.of FO),fun D hD=>?_⟩
  have s1:=(za.refl H).new (o := .lst D6) hD
  exact q D D6 _ s1 hD ac (zy.same s1 Lk)
noncomputable def gm (ln:bU)(m c len:Int):bU:={ ln with r:=ln.r - 1,h:=if decide (c=len - 1)=true then none else some m,qs:=ln.qs ++ [(m,c)] }
noncomputable def bH (s:YS)(m:Nat)(c:Int)(l:Nat)(t:aW)(ln:bU):YS:={ s with yZ:=if c=0 then s.yZ.set m { t with way:=t.way ++ [l] } else s.yZ,lanes:=s.lanes.set l (gm ln m c t.len) }
noncomputable def kD (K:Frag)(ys:Ys):Sp:=fun vs H Q _=>∃ (a:YA)(s:YS)(v:V)(m:Nat)(c:Int)(l:Nat)(t:aW)(ln:bU),vs=[.ref a.y,v, .int l]/\An K ys H a s/\wz H v ((m:Int),c)/\s.yZ[m]? = some t/\s.lanes[l]? = some ln/\bY ln.r ln.h m c=true/\t.way.length <= 1000/\ln.qs.length < 100000 /\
 ∀ H',zk [a.la,a.le] H H'->An K ys H' a (bH s m c l t ln)->Q .zt H'
noncomputable def dv (s:YS)(m:Nat)(t:aW):YS:={ s with yZ:=s.yZ.set m { t with gone:=t.gone + 1 } }
noncomputable def rP (K:Frag)(ys:Ys):Sp:=fun vs H Q _=>∃ (a:YA)(s:YS)(m l:Nat)(t:aW)(ln:bU),vs=[.ref a.y, .int m, .int l]/\An K ys H a s/\s.yZ[m]? = some t/\s.lanes[l]? = some ln/\bY ln.r ln.h m t.gone=true/\t.way.length <= 1000/\ln.qs.length < 100000 /\
 ∀ H',zk [a.la,a.le] H H'->An K ys H' a (bH (dv s m t) m t.gone l { t with gone:=t.gone + 1 } ln)->Q .zt H'
structure Own (P:Program)(w:World)(K:Frag)(mg:Str->Option Value)(base:Heap)(ys:Ys)(nm:Addr)(fl ft fp:Addr)(dl dt dp:FuncData):Prop where
 ml:bA K ys.zd "own_lane" fl
 bl:Binds K dl ["self", "lane"] []
 Gl:zb P w K mg base aG 4 fl dl ["self", "lane"] (rC K ys)
 mt:bA K ys.zd "own_letter" ft
 bt:Binds K dt ["self", "number"] []
 Gt:zb P w K mg base aG 4 ft dt ["self", "number"] (rB K ys)
 mp:bA K ys.zB "put" fp
 bp:Binds K dp ["self", "letter", "count", "last"] []
 Gp:zb P w K mg base (eE P w) 2 fp dp ["self", "letter", "count", "last"] (wF ys.zB nm)
abbrev UO:List Str:=["self", "piece", "lane", "last"]
abbrev NGi:List Str:=["self", "number", "lane", "letter"]
theorem Ln:ap UO ["self", "piece", "lane"] (aj nK):=L2.zF
theorem tH {ys:Ys}{nm f fl ft fp:Addr}{fd dl dt dp:FuncData}(F:zA K "enter" "Yard.enter" nK f fd)(Y:i7 K ys)(O:Own P w K mg base ys nm fl ft fp dl dt dp) :
  zb P w K mg base aG 5 f fd ["self", "piece", "lane"] (kD K ys):=by
 refine F.ok Ln (fun vs H Q E h=>?_) (fun cdv A outer s H vs Q E hr h=>?_)
 ·obtain⟨a,s,v,m,c,l,t,ln,rfl,_⟩:=h
  rfl
 ·obtain⟨a,st,v,m,c,l,t,ln,rfl,hY,⟨pt,rfl,Cv⟩,hm,hl,BF,Eh,Kv,q⟩:=h
  have Au:zm 2 _:=hr.mono (by decide)
  refine⟨_,af (pb (aO (av bz (aw aA (pv 1) ak (fun _ _=>rfl)) ak (az _))
    (ai (aQ (c4 plainAttrs_list PySem.F.slot_list_append PySem.F.type_list_append bN (ao (aB (pv 0) Y.cl O.mt O.Gt hr O.bt .nil aq (aa (aw aA (pv 1) ak (fun _ _=>rfl)) ad)) rfl) (aa (pv 2) ad)))) aI))
   (af (aD (i:=3) Ln.nd rfl (Or.inl rfl) (c8 bz (aw aA (pv 1) ak (fun _ _=>rfl)) (aC e9 (ao (aw aM (ao (pv 0) rfl) (aw aA (pv 1) ak (fun _ _=>rfl)) (fun _ _=>rfl)) rfl) ak) (az _)))
   (ai (aQ (aB (aB (pv 0) Y.cl O.ml O.Gl hr O.bl .nil aq (aa (pv 2) ad)) Y.L.cl O.mp O.Gp Au O.bp .nil ia (aa (aw aA (pv 1) ak (fun _ _=>rfl)) (aa (aw aA (pv 1) ak (fun _ _=>rfl)) (aa (pv 3) ad))))))),?_⟩
  refine⟨fun σ' H'=>σ' = start UO [.ref a.y, .ref pt, .int l]/\zk [a.le] H H'/\∃ t1:aW,t1.len=t.len/\An K ys H' a { st with yZ:=if c=0 then st.yZ.set m { t with way:=t.way ++ [l] } else st.yZ }/\(if c=0 then st.yZ.set m { t with way:=t.way ++ [l] } else st.yZ)[m]? = some t1,?_,?_⟩
  ·refine⟨_,rfl,pt,_,1,_,rfl,rfl,zh.of Cv,al (j:=1) rfl,rfl,_,rfl,?_⟩
   rw[bP]
   by_cases hc:c=0
   ·rw[decide_eq_true hc]
    obtain⟨zi,Ax,pl⟩:=hY.hle
    refine aK ⟨_,rfl,a.y,a.dy,_,rfl,hY.ins,rfl,_,rfl,pt,_,0,_,rfl,rfl,zh.of Cv,al (j:=0) rfl,a,st,m,t,zi,rfl,hY,hm,Ax,fun x dx wa H1 o1 nx nw g1 AQ DU=>?_⟩
    refine⟨x,ys.zc,dx,_,_,rfl,AQ,Y.ct,Y.t6,rfl, .inl ⟨rfl,_,zf.of DU⟩,_,rfl,wa,_,_,rfl,rfl,DU,by rw[cy,sizeLine_eq];omega,?_⟩
    have nxw:x ≠ wa:=aY AQ DU (by intro z;cases z)
    have nlw:a.le ≠ wa:=ah Ax nw
    have o2:zk [a.le] H (upd H1 wa (.lst (nV t.way ++ [.int l]))):=fun b o nb e=>by rw[ae (ah e nw)];exact o1 b o nb e
    have C2:=An.DV hY Ax o2 (k:=m) (x:=x) (dx:=dx) (wa:=wa) (by rw[ae nlw];exact g1) (t:={ t with way:=t.way ++ [l] }) (by rw[ae nxw];exact AQ) (by rw[ac,nR];rfl) nw
    have Qq:m < st.yZ.length:=(List.getElem?_eq_some_iff.mp hm).1
    refine⟨rfl,o2,{ t with way:=t.way ++ [l] },rfl,?_,?_⟩
    ·rw[if_pos hc];exact C2
    ·rw[if_pos hc];simp[Qq]
   ·rw[decide_eq_false hc]
    refine aH ⟨rfl,za.zJ (za.refl H),t,rfl,?_,?_⟩
    ·rw[if_neg hc];exact hY
    ·rw[if_neg hc];exact hm
  ·rintro σ' H1 ⟨rfl,o1,t1,hlen,Bt,hm1⟩
   have EM:H1 pt=some (.tup [.int m, .int c]):=by
    obtain⟨zi,Ax,_⟩:=hY.hle
    exact o1 _ _ (by simp;exact aY Cv Ax (by intro z;cases z)) Cv
   obtain⟨Qr,Qs,Qt⟩:=Bt.hle
   obtain⟨v1,Qu,x1,dx1,wa1,rfl,AQ,_⟩:=Paired.at2 Qt hm1
   refine⟨_,rfl,pt,_,1,_,rfl,rfl,zh.of EM,al (j:=1) rfl,_,rfl,a.y,ys.zd,a.dy,_,_,rfl,Bt.ins,Y.cl,Y.n4,rfl,_,rfl,pt,_,0,_,rfl,rfl,zh.of EM,al (j:=0) rfl,a.le,Qr,(m:Int),_,rfl,rfl,zf.of Qs,al Qu,x1,ys.zc,dx1,_,_,rfl,AQ,Y.ct,Y.t3,rfl,_,_,rfl,rfl,rfl,?_⟩
   obtain⟨zo,zX,D8⟩:=Bt.AJ
   refine⟨_,rfl,a.y,a.dy,_,rfl,Bt.ins,rfl,_,rfl,a,_,l,ln,zo,rfl,Bt,hl,zX,fun x dx pa zx H2 o2 nx np g2 Bu=>?_⟩
   have DW:H2 pt=some (.tup [.int m, .int c]):=o2 _ _ (by simp;exact aY EM zX (by intro z;cases z)) EM
   have Aj:zx.length=ln.qs.length:=Paired.length Bu.Aq
   refine⟨x,dx,_,rfl,Bu.ins,rfl,_,rfl,pt,_,0,_,rfl,rfl,zh.of DW,al (j:=0) rfl,_,rfl,pt,_,1,_,rfl,rfl,zh.of DW,al (j:=1) rfl,_,rfl,x,dx,pa,ln.r,ln.b,ln.h,zx,ln.qs,(m:Int),c,decide (c=t.len - 1),?_,Bu,by omega,(fun ho=>by rw[BF]at ho;cases ho),fun _ t3 H3 o3 BL=>?_⟩
   ·rw[bP,hlen];rfl
   have nxl:a.la ≠ x:=ah zX nx
   have npl:a.la ≠ pa:=ah zX np
   have o4:zk [a.la] H1 H3:=fun b o nb e=>o3 b o (ah e nx) (ah e np) (o2 b o nb e)
   have B4:=An.BP Bt zX o4 (k:=l) (x:=x) (dx:=dx) (pa:=pa) (o3 _ _ nxl npl g2) (ln:=gm ln m c t.len) BL np
   exact q H3 ((o1.mono (by simp)).trans (o4.mono (by simp))) B4
theorem Lo:ap NGi ["self", "number", "lane"] (aj sE):=L2.zF
theorem vG {ys:Ys}{nm f fl ft fp fe:Addr}{fd dl dt dp de:FuncData}(F:zA K "go_in" "Yard.go_in" sE f fd)(Y:i7 K ys)(O:Own P w K mg base ys nm fl ft fp dl dt dp)(me:bA K ys.zd "enter" fe)(be:Binds K de ["self", "piece", "lane"] [])(Ge:zb P w K mg base aG 5 fe de ["self", "piece", "lane"] (kD K ys)) :
  zb P w K mg base aG 6 f fd ["self", "number", "lane"] (rP K ys):=by
 refine F.ok Lo (fun vs H Q E h=>?_) (fun cdv A outer s H vs Q E hr h=>?_)
 ·obtain⟨a,s,m,l,t,ln,rfl,_⟩:=h
  rfl
 ·obtain⟨a,st,m,l,t,ln,rfl,hY,hm,hl,BF,Eh,Kv,q⟩:=h
  have BY:zm 4 _:=hr.mono (by decide)
  refine⟨_,af (aD (i:=3) Lo.nd rfl (Or.inl rfl) (aB (pv 0) Y.cl O.mt O.Gt BY O.bt .nil aq (aa (pv 1) ad)))
   (af (dL (pv 3) ak lc)
   (ai (aQ (aB (pv 0) Y.cl me Ge hr be .nil aq (aa (bG (aa (pv 1) (aa (aC e9 (ao (pv 3) rfl) ak) ad))) (aa (pv 2) ad)))))),?_⟩
  obtain⟨zi,Ax,pl⟩:=hY.hle
  refine⟨_,rfl,a.y,a.dy,_,rfl,hY.ins,rfl,_,rfl,a,st,m,t,zi,rfl,hY,hm,Ax,fun x dx wa H1 o1 nx nw g1 AQ DU=>?_⟩
  refine⟨_,rfl,x,ys.zc,dx,_,_,rfl,AQ,Y.ct,Y.t5,rfl,_,_,rfl,rfl,dx,_,AQ,by show 6 < 1000;decide,?_⟩
  have nlx:a.le ≠ x:=ah Ax nx
  have EG:wa ≠ x:=aY DU AQ (by intro z;cases z)
  have o2:zk [a.le] H (upd H1 x (.ins ys.zc dx (aL "gone" (.int (t.gone + 1)) (nZ t wa)))):=fun b o nb e=>by rw[ae (ah e nx)];exact o1 b o nb e
  have El:(upd H1 x (.ins ys.zc dx (aL "gone" (.int (t.gone + 1)) (nZ t wa)))) x=some (.ins ys.zc dx (nZ { t with gone:=t.gone + 1 } wa)):=ac
  have C2:=An.DV hY Ax o2 (k:=m) (x:=x) (dx:=dx) (wa:=wa) (by rw[ae nlx];exact g1) (t:={ t with gone:=t.gone + 1 }) El (by rw[ae EG];exact DU) nw
  show _
  generalize upd H1 x (.ins ys.zc dx (aL "gone" (.int (t.gone + 1)) (nZ t wa)))=H2 at o2 El C2 ⊢
  refine⟨_,rfl,a.y,a.dy,_,rfl,C2.ins,rfl,_,rfl,_,rfl,x,ys.zc,dx,_,_,rfl,El,Y.ct,Y.t5,rfl,_,_,rfl,rfl,by show 2 <= sizeLine;decide,fun pt Cv=>?_⟩
  have eg:t.gone + 1 - 1=t.gone:=by omega
  have s3:=(za.refl H2).new (o := .tup [.int m, .int t.gone]) Cv
  have g3:(upd H2 pt (.tup [.int m, .int t.gone])) pt=some (.tup [.int m, .int t.gone]):=ac
  dsimp only
  rw[eg]
  generalize upd H2 pt (.tup [.int m, .int t.gone])=H3 at s3 g3 ⊢
  have Qq:m < st.yZ.length:=(List.getElem?_eq_some_iff.mp hm).1
  refine⟨_,rfl,a,dv st m t,_,m,t.gone,l,{ t with gone:=t.gone + 1 },ln,rfl,zj.same C2 s3,⟨pt,rfl,g3⟩,by unfold dv;simp[Qq],hl,BF,Eh,Kv,fun H' o' Hv=>?_⟩
  exact q H' ((o2.mono (by simp)).trans ((za.zJ s3).trans o')) Hv
theorem yJ (us:List Nat)(i:Nat):gr (nV us) none (some (i:Int))=nV (us.take i):=by
 unfold gr
 have e0:HT.Bm (nV us).length 0 none=0:=rfl
 rw[e0,show HT.Bm (nV us).length (nV us).length (some (i:Int))=min i (nV us).length from HT.AH _ _ i,List.drop_zero,Nat.sub_zero]
 unfold nV
 rw[map_take,length_map]
 refine List.ext_getElem? fun j=>?_
 simp only[List.getElem?_take,List.getElem?_map]
 by_cases h1:j < i
 ·by_cases h2:j < us.length
  ·rw[if_pos (by omega),if_pos h1]
  ·rw[if_neg (by omega),if_pos h1,List.getElem?_eq_none (by omega)];rfl
 ·rw[if_neg (by omega),if_neg h1]
theorem wk (us:List Nat)(i:Nat):gr (nV us) (some (i:Int)) (some ((i:Int) + 1))=nV ((us.drop i).take 1):=by
 unfold gr
 rw[show HT.Bm (nV us).length 0 (some (i:Int))=min i (nV us).length from HT.AH _ _ i,show((i:Int) + 1)=((i + 1:Nat):Int) by omega,show HT.Bm (nV us).length (nV us).length (some ((i + 1:Nat):Int))=min (i + 1) (nV us).length from HT.AH _ _ (i + 1),cy]
 by_cases h:i < us.length
 ·rw[min_eq_left (by omega),min_eq_left (by omega),show i + 1 - i=1 by omega]
  unfold nV
  rw[map_take,List.map_drop]
 ·rw[min_eq_right (by omega),min_eq_right (by omega),Nat.sub_self,List.take_zero,List.drop_eq_nil_of_le (by omega)];rfl
theorem jP (us:List Nat):nV us=(iz us).map V.int:=(vV us).symm
theorem tY (k:Nat):∀ us:List Nat,(iz us).idxOf (k:Int)=us.idxOf k
 | []=>rfl
 | u :: us=>by
  have ih:=tY k us
  unfold iz at ih ⊢
  rw[map_cons,List.idxOf_cons,List.idxOf_cons,ih]
  by_cases h:u=k
  ·subst h;simp
  ·have h':((u:Int) == (k:Int))=false:=by simp;omega
   have h2:(u == k)=false:=by simp;exact h
   rw[h',h2]
inductive Mv
 | Aw (k l:Nat) | on (k l:Nat) | Ar (k:Nat) | back (k:Nat)
noncomputable def eG:Mv->List V
 | .Aw k l=>[.str "in", .int k, .int l]
 | .on k l=>[.str "on", .int k, .int l]
 | .Ar k=>[.str "lie", .int k]
 | .back k=>[.str "back", .int k]
noncomputable def fV (s:YS)(l:Nat)(m c:Int):Bool:=match s.lanes[l]? with
 | some ln=>bY ln.r ln.h m c
 | none=>false
noncomputable def bO (s:YS)(k:Nat):Option (Int × Int):=match s.lanes[k]? with
 | some ln=>ln.qs.head?
 | none=>none
noncomputable def pw (a:YA)(l g:Nat):List Nat:=if (a.ps.getD l (0,0)).2=(g:Int) then [] else a.wy (a.ps.getD l (0,0)).2.toNat g (some l)
noncomputable def c3 (a:YA)(s:YS)(k:Nat):List Nat:=match bO s k with
 | none=>[]
 | some q=>match s.yZ[q.1.toNat]? with
  | none=>[]
  | some t=>if q.2=0 then (pw a k t.goal.toNat).filter fun l=>!decide (l ∈ t.way) else (t.way.drop (t.way.idxOf k + 1)).take 1
noncomputable def cz (a:YA)(t:aW):List Nat:=if t.gone=0 then a.wy t.start.toNat t.goal.toNat none else t.way.take 1
noncomputable def ik (a:YA)(s:YS)(k:Nat):List Mv:=match s.yZ[k]? with
 | none=>[]
 | some t=>if t.gone=t.len then [] else ((cz a t).filter fun l=>fV s l k t.gone).map (Mv.Aw k)
noncomputable def i9 (a:YA)(s:YS)(k:Nat):List Mv:=match bO s k with
 | none=>[]
 | some q=>((c3 a s k).filter fun l=>fV s l q.1 q.2).map (Mv.on k)
noncomputable def eY (a:YA)(s:YS)(k:Nat):List Mv:=match bO s k with
 | none=>[]
 | some q=>match s.yZ[q.1.toNat]? with
  | none=>[]
  | some t=>if t.goal=(a.ps.getD k (0,0)).2 then [.Ar k] else []
noncomputable def dC (s:YS)(k:Nat):List Mv:=match s.lanes[k]? with
 | some ln=>if 0 < ln.b then [.back k] else []
 | none=>[]
structure Lp (a:YA):Prop where
 ends:∀ (l:Nat)(pr:Int × Int),a.ps[l]? = some pr->∃ e:Nat,pr.2=(e:Int)/\e < a.n
 Ad:∀ p g k,(a.wy p g k).length <= 400
structure Qv (a:YA)(s:YS):Prop where
 lanes:s.lanes.length=a.ps.length
 lies:s.lies.length=a.n
 lets:∀ (m:Nat)(t:aW),s.yZ[m]? = some t->∃ x y:Nat,t.start=(x:Int)/\t.goal=(y:Int)/\x < a.n/\y < a.n
 Ao:∀ (m:Nat)(t:aW),s.yZ[m]? = some t->(∀ l ∈ t.way,l < a.ps.length)/\t.way.length <= 1000
 Aq:∀ (k:Nat)(ln:bU),s.lanes[k]? = some ln->∀ q ∈ ln.qs,∃ (m:Nat)(t:aW),q.1=(m:Int)/\s.yZ[m]? = some t/\k ∈ t.way
 Ad:s.yZ.length <= 60
structure Eo (K:Frag)(c:Cs)(TC:Addr)(J:TJ)(ys:Ys)(H:Hp)(a:YA)(s:YS):Prop where
 Y:An K ys H a s
 T:Lg c TC J H a
 O:Lp a
 G:Qv a s
theorem Eo.same {K:Frag}{c:Cs}{TC fw:Addr}{dw:FuncData}{J:TJ}{ys:Ys}{H H':Hp}{a:YA}{s:YS}(W:Wy K TC fw dw J)(h:Eo K c TC J ys H a s)(e:za H H'):Eo K c TC J ys H' a s:=⟨zj.same h.Y e,AX.keep W h.T (za.zz e),h.O,h.G⟩
abbrev oO (K:Frag)(c:Cs)(TC:Addr)(J:TJ)(ys:Ys)(f:YA->YS->Nat->List Mv)(len:YS->Nat):Sp:=fun vs H Q _=>∃ (a:YA)(s:YS)(k:Nat),vs=[.ref a.y, .int k]/\Eo K c TC J ys H a s/\k < len s /\
 ∀ (D:Addr)(zN:List V)(H':Hp),za H H'->H D=none->H' D=some (.lst zN)->Paired (AE H') zN ((f a s k).map eG)->Q (.ref D) H'
noncomputable def n0 (K:Frag)(c:Cs)(TC:Addr)(J:TJ)(ys:Ys):Sp:=oO K c TC J ys ik (fun s=>s.yZ.length)
noncomputable def nv (K:Frag)(c:Cs)(TC:Addr)(J:TJ)(ys:Ys):Sp:=oO K c TC J ys i9 (fun s=>s.lanes.length)
noncomputable def oP (K:Frag)(c:Cs)(TC:Addr)(J:TJ)(ys:Ys):Sp:=oO K c TC J ys eY (fun s=>s.lanes.length)
noncomputable def iZ (K:Frag)(c:Cs)(TC:Addr)(J:TJ)(ys:Ys):Sp:=oO K c TC J ys (fun _ s k=>dC s k) (fun s=>s.lanes.length)
noncomputable def iY (K:Frag)(c:Cs)(TC:Addr)(J:TJ)(ys:Ys):Sp:=fun vs H Q _=>∃ (a:YA)(s:YS)(k:Nat),vs=[.ref a.y, .int k]/\Eo K c TC J ys H a s/\k < s.lanes.length /\
 ∀ (D:Addr)(H':Hp),za H H'->H D=none->H' D=some (.lst (nV (c3 a s k)))->Q (.ref D) H'
noncomputable def wH (c:Cs)(C:Addr)(J:TJ):Sp:=fun vs H Q _=>∃ (a:YA)(l g:Nat),vs=[.ref a.tb, .int l, .int g]/\Lg c C J H a/\Lp a/\l < a.ps.length/\g < a.n /\
 ∀ (D:Addr)(H':Hp),za H H'->H D=none->H' D=some (.lst (nV (pw a l g)))->Q (.ref D) H'
theorem lr {K:Frag}{p:Addr}{us:List Nat}{g:TG}{tt:TT}{te:TE}{σ0:St}{H:Hp}{Q:VK}(b:Nat->Bool)(f:Nat->Mv)(hn:us.length < sizeLine)(ha:H p=some (.lst (nV us)))
  (hs:∀ (u:Nat)(H1:Hp)(acc:List V)(N:List V->Hp->Prop),u ∈ us->za H H1->(b u=true->∀ v H2,za H1 H2->AE H2 v (eG (f u))->N (acc ++ [v]) H2)->(b u=false->N acc H1) ->
   g (.int u) σ0 H1 fun σ2 H2=>tt σ2 H2 fun b H3=>if b=true then te σ2 H3 fun y H4=>N (acc ++ [y]) H4 else N acc H3)
  (hq:∀ D vs H1,za H H1->H1 D=none->Paired (AE H1) vs (((us.filter b).map f).map eG)->Q (.ref D) (upd H1 D (.lst vs))):dz (uA K p) g tt te σ0 Q H:=by
 refine bT us.length hn (fun i acc H'=>za H H'/\Paired (AE H') acc ((((us.take i).filter b).map f).map eG)) ⟨za.refl _, .nil⟩ (fun i acc H' h=>by
   rw[Paired.length h.2,length_map,length_map]
   have h1:=length_filter_le b (us.take i)
   have h2:=length_take_le i us
   omega) (fun i acc H' hi h=>?_) (fun acc H' h=>?_)
 ·obtain⟨s,hL⟩:=h
  have hu:us[i]? = some us[i]:=List.getElem?_eq_getElem hi
  refine⟨⟨_,_,zf.of (s _ _ ha),ij hu⟩,fun v H2 y=>?_⟩
  obtain⟨rfl,y⟩:=y
  have hv:=y _ (zf.of (s _ _ ha))
  rw[ij hu]at hv
  cases hv
  refine hs us[i] H2 acc (fun zT H4=>za H H4/\Paired (AE H4) zT ((((us.take (i + 1)).filter b).map f).map eG)) (getElem_mem hi) s (fun hb v H3 s3 hv=>⟨s.trans s3,?_⟩) (fun hb=>⟨s,?_⟩)
  ·rw[take_succ,hu,filter_append]
   have e:(some us[i]).toList.filter b=[us[i]]:=by simp[hb]
   rw[e,map_append,map_append]
   exact Paired.snoc hv (Paired.mono (fun _ _ z=>z.keep (za.zz s3)) hL)
  ·rw[take_succ,hu,filter_append]
   have e:(some us[i]).toList.filter b=[]:=by simp[hb]
   rw[e,append_nil]
   exact hL
 ·obtain⟨s,hL⟩:=h
  rw[take_length]at hL
  exact⟨⟨_,zf.of (s _ _ ha),by rw[cy];exact Nat.le_refl _⟩,fun D hD=>hq D acc H' s hD hL⟩
noncomputable def uY (s:Stmt):Scope:=match s with
 | .Return (some (.ListComp _ _ sc _)) _=>sc
 | _=>{ kind := .function,names:=[],isGenerator:=false,isCoroutine:=false }
noncomputable def yB (s:Stmt):Scope:=match s with
 | .If _ [s'] _ _=>uY s'
 | _=>{ kind := .function,names:=[],isGenerator:=false,isCoroutine:=false }
abbrev UP:List Str:=["self", "number", "letter", "wanted"]
abbrev UQ:List Str:=["self", "lane", "piece", "letter", "behind"]
abbrev UR:List Str:=["self", "lane", "piece", "wanted"]
theorem Hw:ap UP ["self", "number"] (aj lH):=L2.zF
theorem Qw:As UP (aj lH) (uY ((aJ lH).getD 3 (.Pass ⟨0,0,0,0⟩))) ["self", "number", "letter"] [0,1,2]:=L2.B3
theorem Qx:(["lane", "self", "number", "letter"]:List Str).Nodup:=by decide +kernel
theorem v8 {c:Cs}{ys:Ys}{J:TJ}{TC f fw fo:Addr}{fd dw BZ:FuncData}(F:zA K "moves_in" "Yard.moves_in" lH f fd)(Y:i7 K ys)(W:Wy K TC fw dw J)(Hn:zb P w K mg base aG 3 fw dw ["self", "place", "goal", "came"] (dX J))
  (mo:bA K ys.zB "open_to" fo) (bo:Binds K BZ ["self", "letter", "count"] []) (Go:zb P w K mg base aG 1 fo BZ ["self", "letter", "count"] (kC ys.zB)) :
  zb P w K mg base aG 4 f fd ["self", "number"] (n0 K c TC J ys):=by
 refine F.ok Hw (fun vs H Q E h=>?_) (fun cdv A outer s H vs Q E hr h=>?_)
 ·obtain⟨a,s,k,rfl,_⟩:=h
  rfl
 ·obtain⟨a,st,k,rfl,hI,hk,q⟩:=h
  have zU:zm 1 _:=hr.mono (by decide)
  refine⟨_,af (aD (i:=2) Hw.nd rfl (Or.inr rfl) (aw aM (ao (pv 0) rfl) (pv 1) (fun _ _=>rfl)))
   (af (aO (av bz (ao (pv 2) rfl) (ao (pv 2) rfl) (az _)) (ai (ar (aU ad))) aI)
   (af (aD (i:=3) Hw.nd rfl (Or.inl rfl) (kR (cK (av bz (ao (pv 2) rfl) ak (az _)) (aB (ao (pv 0) rfl) W.cl W.m Hn hr W.b .nil aq (aa (ao (pv 2) rfl) (aa (ao (pv 2) rfl) (aa cx ad)))) (eU gG (ao (pv 2) rfl) iI (fG ak)))))
   (ai (ar (b5 (own:=["lane"]) (capN:=["self", "number", "letter"]) (cap:=[0,1,2]) Qw rfl (bC (pv 3)) (fun C s' H' fp=>⟨ay (i:=0) Qx rfl (Or.inl rfl),bV (bF (aB (aw (show oE _ (sK K) from aM) (show PE _ _ (rl K (qa 1) "lanes") from ao (pv 1) rfl) (pv 0) (fun _ _=>rfl)) Y.L.cl mo Go zU bo .nil aq (aa (pv 2) (aa (show PE _ _ (rl K (qa 3) "gone") from ao (pv 3) rfl) ad)))),bG (aa bu (aa (pv 2) (aa (pv 0) ad)))⟩)))))),?_⟩
  have hY:=hI.Y
  obtain⟨zi,Ax,pl⟩:=hY.hle
  obtain⟨t,ht⟩:∃ t,st.yZ[k]? = some t:=⟨_,List.getElem?_eq_getElem hk⟩
  obtain⟨v,hv,x,dx,wa,rfl,hx,hw,_⟩:=Paired.at2 pl ht
  obtain⟨x0,y0,e1,e2,N8,Iq⟩:=hI.G.lets k t ht
  obtain⟨Eh,hw9⟩:=hI.G.Ao k t ht
  unfold ik at q
  rw[ht]at q
  refine⟨_,rfl,a.y,ys.zd,a.dy,_,_,rfl,hY.ins,Y.cl,Y.n4,rfl,_,rfl,a.le,zi,(k:Int),_,rfl,rfl,zf.of Ax,al hv,?_⟩
  refine⟨_,rfl,x,ys.zc,dx,_,_,rfl,hx,Y.ct,Y.t5,rfl,_,rfl,x,ys.zc,dx,_,_,rfl,hx,Y.ct,Y.t3,rfl,rfl,_,rfl,?_⟩
  rw[bP]
  by_cases hg:t.gone=t.len
  ·rw[decide_eq_true hg]
   dsimp only at q
   rw[if_pos hg]at q
   exact aK ⟨zero_le _,fun D hD=>q D [] _ ((za.refl H).new hD) hD ac .nil⟩
  rw[decide_eq_false hg]
  dsimp only at q
  rw[if_neg hg]at q
  refine aH ⟨fun v H1=>∃ D,v = .ref D/\za H H1/\H1 D=some (.lst (nV (cz a t))),?_,?_⟩
  ·refine⟨_,rfl,x,ys.zc,dx,_,_,rfl,hx,Y.ct,Y.t5,rfl,rfl,_,rfl,?_⟩
   rw[bP]
   unfold cz
   by_cases h0:t.gone=0
   ·rw[decide_eq_true h0,if_pos h0]
    obtain⟨Cu,fst,Ca,zS,Bc⟩:=hI.T.i
    refine aK ⟨_,rfl,a.y,ys.zd,a.dy,_,_,rfl,hY.ins,Y.cl,Y.n1,rfl,a.tb,Cu,fst,rfl,Ca,Bc,_,rfl,x,ys.zc,dx,_,_,rfl,hx,Y.ct,Y.t1,rfl,_,rfl,x,ys.zc,dx,_,_,rfl,hx,Y.ct,Y.t2,rfl,?_⟩
    rw[e1,e2,toNat_natCast,toNat_natCast]
    exact⟨a.tb,a.n,a.wy,x0,y0,none,rfl,hI.T.j,N8,Iq,fun D H1 s1 hD gD=>⟨D,rfl,s1,gD⟩⟩
   ·rw[decide_eq_false h0,if_neg h0]
    refine aH ⟨_,rfl,x,ys.zc,dx,_,_,rfl,hx,Y.ct,Y.t6,rfl,_,rfl,wa,_,rfl,zf.of hw,fun D hD=>⟨D,rfl,(za.refl H).new hD,?_⟩⟩
    rw[ac,show((1:Int))=((1:Nat):Int) from rfl,yJ]
  rintro v H1 ⟨D,rfl,s1,gD⟩
  have Dq:=hI.same W s1
  have Bt:=Dq.Y
  have AQ:=s1 _ _ hx
  obtain⟨zo,zX,D8⟩:=Bt.AJ
  have hfl:(cz a t).length <= 1000:=by
   unfold cz
   by_cases h0:t.gone=0
   ·rw[if_pos h0];exact le_trans (hI.O.Ad _ _ _) (by decide)
   ·rw[if_neg h0];rw[length_take];omega
  have Hy:∀ u ∈ cz a t,u < a.ps.length:=fun u hu=>by
   unfold cz at hu
   by_cases h0:t.gone=0
   ·rw[if_pos h0,e1,e2,toNat_natCast,toNat_natCast]at hu;exact hI.T.ok _ _ _ N8 Iq u hu
   ·rw[if_neg h0]at hu;exact Eh u (mem_of_mem_take hu)
  refine⟨_,rfl,D,rfl,⟨_,zf.of gD⟩,?_⟩
  refine lr (fun l=>fV st l k t.gone) (Mv.Aw k) (by rw[sizeLine_eq];omega) gD (fun u H2 acc N hu s2 EN Ir=>?_) (fun D2 Hz H2 s2 B9 hp=>?_)
  ·have Cw:=Dq.same W s2
   obtain⟨HA,HB,HC⟩:=Cw.Y.AJ
   have Qy:u < st.lanes.length:=by rw[hI.G.lanes];exact Hy u hu
   obtain⟨ln,zE⟩:∃ ln,st.lanes[u]? = some ln:=⟨_,List.getElem?_eq_getElem Qy⟩
   obtain⟨vl,EO,xl,Bj,FP,HD,rfl,hL,_⟩:=Paired.at2 HC zE
   refine⟨_,rfl,a.y,ys.zd,a.dy,_,_,rfl,Cw.Y.ins,Y.cl,Y.n3,rfl,_,rfl,a.la,HA,(u:Int),_,rfl,rfl,zf.of HB,al EO,xl,Bj,_,rfl,hL.ins,rfl,_,rfl,_,rfl,x,ys.zc,dx,_,_,rfl,s2 _ _ AQ,Y.ct,Y.t5,rfl,xl,Bj,FP,ln.r,ln.b,ln.h,(k:Int),t.gone,rfl,hL.ins,_,rfl,?_⟩
   have eo:fV st u k t.gone=bY ln.r ln.h k t.gone:=by unfold fV;rw[zE]
   cases ho:bY ln.r ln.h k t.gone with
   | false=>exact aH (Ir (by rw[eo,ho]))
   | true=>exact aK ⟨_,rfl,_,rfl,by show 3 <= sizeLine;decide,fun z hz=>EN (by rw[eo,ho]) _ _ ((za.refl H2).new hz) ⟨z,rfl,ac⟩⟩
  ·exact q D2 Hz _ ((s1.trans s2).new B9) (s1.free (s2.free B9)) ac (Paired.mono (fun _ _ z=>z.keep (za.zz ((za.refl H2).new B9))) hp)
theorem jx {H:Hp}{zx:List V}{qs:List (Int × Int)}(h:zy H zx qs):(qs.head? = none/\ot zx = .zt)∨∃ q pt,qs.head? = some q/\ot zx = .ref pt/\H pt=some (.tup [.int q.1, .int q.2]):=by
 cases h with
 | nil=>exact .inl ⟨rfl,rfl⟩
 | cons x r=>obtain⟨t,rfl,ht⟩:=x;exact .inr ⟨_,t,rfl,rfl,ht⟩
theorem Lq:ap ["table", "lane", "goal", "end"] ["table", "lane", "goal"] (aj P7):=L2.zF
theorem yd {c:Cs}{J:TJ}{C f fw fe:Addr}{fd dw de:FuncData}(F:zA K "onward" "onward" P7 f fd)(L:lw K c)(W:Wy K C fw dw J)(Gw:zb P w K mg base aG 3 fw dw ["self", "place", "goal", "came"] (dX J))
  (M:w8 K c fe de) (Ge:zb P w K mg base aG 1 fe de ["self", "lane"] (n8 c Prod.snd)):zb P w K mg base aG 4 f fd ["table", "lane", "goal"] (wH c C J):=by
 refine F.ok Lq (fun vs H Q E h=>?_) (fun cdv A outer s H vs Q E hr h=>?_)
 ·obtain⟨a,l,g,rfl,_⟩:=h
  rfl
 ·obtain⟨a,l,g,rfl,hT,hO,hl,hg,q⟩:=h
  have zU:zm 1 _:=hr.mono (by decide)
  refine⟨_,af (aD (i:=3) Lq.nd rfl (Or.inl rfl) (aB (ao (pv 0) rfl) L.cl M.m Ge zU M.b .nil aq (aa (pv 1) ad)))
   (ai (ar (cK (av bz (pv 3) (pv 2) (az _)) (aU ad) (aB (pv 0) W.cl W.m Gw hr W.b .nil aq (aa (pv 3) (aa (pv 2) (aa (pv 1) ad))))))),?_⟩
  obtain⟨dx,fs,hx,hf,Ep⟩:=hT.i
  have he:=List.getElem?_eq_getElem hl
  have FQ:a.ps.getD l (0,0)=a.ps[l]:=by rw[getD_eq_getElem?_getD,he];rfl
  unfold pw at q
  rw[FQ]at q
  obtain⟨e,ee,Lr⟩:=hO.ends l _ he
  refine⟨_,rfl,a.tb,C,dx,fs,_,rfl,hx,W.cl,W.nl,hf,a.lx,a.zD,_,rfl,hT.l.1,rfl,_,rfl,a.lx,a.zD,a.lt,(a.n:Int),a.zi,a.ps,l,_,rfl,hT.l,he,?_⟩
  rw[ee]at q ⊢
  rw[toNat_natCast]at q
  refine⟨_,rfl,_,rfl,rfl,_,rfl,?_⟩
  rw[bP]
  by_cases h1:(e:Int)=(g:Int)
  ·rw[decide_eq_true h1]
   rw[if_pos h1]at q
   exact aK ⟨zero_le _,fun D hD=>q D _ ((za.refl H).new hD) hD ac⟩
  ·rw[decide_eq_false h1]
   rw[if_neg h1]at q
   exact aH ⟨_,rfl,a.tb,dx,fs,rfl,hx,Ep,_,rfl,_,rfl,_,rfl,a.tb,a.n,a.wy,e,g,some l,rfl,hT.j,Lr,hg,fun D H' s' hD gD=>q D _ s' hD gD⟩
theorem ER:ap UQ ["self", "lane"] (aj gH):=L2.zF
theorem Qz:As UQ (aj gH) (yB ((aJ gH).getD 3 (.Pass ⟨0,0,0,0⟩))) ["letter"] [3]:=L2.B3
theorem Q0:(["way", "letter"]:List Str).Nodup:=by decide +kernel
theorem qr {c:Cs}{ys:Ys}{J:TJ}{TC f fw ff fo:Addr}{fd dw df BZ:FuncData}(F:zA K "wanted" "Yard.wanted" gH f fd)(Y:i7 K ys)(W:Wy K TC fw dw J)
  (mf:bA K ys.zB "front" ff) (bf:Binds K df ["self"] []) (Gf:zb P w K mg base aG 1 ff df ["self"] (iC ys.zB))
  (mo:mg "onward" = some (.ref fo)) (ko:keepIn K (.ref fo)=true) (bo:Binds K BZ ["table", "lane", "goal"] []) (Go:zb P w K mg base aG 4 fo BZ ["table", "lane", "goal"] (wH c TC J)) :
  zb P w K mg base aG 5 f fd ["self", "lane"] (iY K c TC J ys):=by
 refine F.ok ER (fun vs H Q E h=>?_) (fun cdv A outer s H vs Q E hr h=>?_)
 ·obtain⟨a,s,k,rfl,_⟩:=h
  rfl
 ·obtain⟨a,st,k,rfl,hI,hk,q⟩:=h
  have zU:zm 1 _:=hr.mono (by decide)
  refine⟨_,af (aD (i:=2) ER.nd rfl (Or.inl rfl) (ci (aw aM (ao (pv 0) rfl) (pv 1) (fun _ _=>rfl)) Y.L.cl mf Gf zU bf .nil aq))
   (af (aO (av kW (pv 2) cx (az _)) (ai (ar (aU ad))) aI)
   (af (aD (i:=3) ER.nd rfl (Or.inr rfl) (aw aM (ao (pv 0) rfl) (aw aA (pv 2) ak (fun _ _=>rfl)) (fun _ _=>rfl)))
   (af (aO (av bz (aw aA (pv 2) ak (fun _ _=>rfl)) ak (az _))
    (ai (ar (b5 (own:=["way"]) (capN:=["letter"]) (cap:=[3]) Qz rfl (bC (au Go hr rfl mo ko bo .nil aq (aa (ao (pv 0) rfl) (aa (pv 1) (aa (ao (pv 3) rfl) ad))))) (fun C s' H' fp=>⟨ay (i:=0) Q0 rfl (Or.inl rfl),bV (av (show eD _ (compareOp .NotIn) (OO K true) from gM) (pv 0) (show PE _ _ (rl K (qa 1) "way") from ao (pv 1) rfl) (by with_unfolding_all rfl)),pv 0⟩)))) aI)
   (af (aD (i:=4) ER.nd rfl (Or.inl rfl) (aC bE (c4 plainAttrs_list PySem.F.slot_list_index PySem.F.type_list_index qz (ao (pv 3) rfl) (aa (pv 1) ad)) ak))
   (ai (ar (eU gG (ao (pv 3) rfl) (fG (pv 4)) (fG (aC bE (pv 4) ak))))))))),?_⟩
  have hY:=hI.Y
  obtain⟨zo,zX,D8⟩:=hY.AJ
  obtain⟨ln,zE⟩:∃ ln,st.lanes[k]? = some ln:=⟨_,List.getElem?_eq_getElem hk⟩
  obtain⟨vl,EO,xl,Bj,FP,HD,rfl,hL,_⟩:=Paired.at2 D8 zE
  refine⟨_,rfl,a.y,ys.zd,a.dy,_,_,rfl,hY.ins,Y.cl,Y.n3,rfl,_,rfl,a.la,zo,(k:Int),_,rfl,rfl,zf.of zX,al EO,xl,Bj,_,rfl,hL.ins,rfl,xl,Bj,FP,ln.r,ln.b,ln.h,HD,ln.qs,rfl,hL,?_⟩
  unfold c3 bO at q
  rw[zE]at q
  dsimp only at q
  rcases jx hL.Aq with ⟨hf,ef⟩ | ⟨pq,pt,hf,ef,Cv⟩
  ·rw[hf]at q
   rw[ef]
   exact⟨_,rfl,rfl,_,rfl,aK ⟨zero_le _,fun D hD=>q D _ ((za.refl H).new hD) hD ac⟩⟩
  rw[hf]at q
  rw[ef]
  have Q3:pq ∈ ln.qs:=mem_of_head? hf
  obtain⟨m,t,em,hm,ES⟩:=hI.G.Aq k ln zE pq Q3
  obtain⟨x0,y0,e1,e2,N8,Iq⟩:=hI.G.lets m t hm
  obtain⟨Eh,hw9⟩:=hI.G.Ao m t hm
  rw[em]at Cv
  dsimp only at q
  rw[em,toNat_natCast,hm]at q
  dsimp only at q
  refine⟨_,rfl,rfl,_,rfl,aH ?_⟩
  obtain⟨zi,Ax,pl⟩:=hY.hle
  obtain⟨v,hv,x,dx,wa,rfl,hx,hw,_⟩:=Paired.at2 pl hm
  refine⟨_,rfl,a.y,ys.zd,a.dy,_,_,rfl,hY.ins,Y.cl,Y.n4,rfl,_,rfl,pt,_,0,_,rfl,rfl,zh.of Cv,al (j:=0) rfl,a.le,zi,(m:Int),_,rfl,rfl,zf.of Ax,al hv,?_⟩
  refine⟨_,rfl,pt,_,1,_,rfl,rfl,zh.of Cv,al (j:=1) rfl,rfl,_,rfl,?_⟩
  rw[bP]
  by_cases h0:pq.2=0
  ·rw[decide_eq_true h0]
   rw[if_pos h0,e2,toNat_natCast]at q
   refine aK ⟨_,rfl,a.y,ys.zd,a.dy,_,_,rfl,hY.ins,Y.cl,Y.n1,rfl,_,rfl,_,rfl,x,ys.zc,dx,_,_,rfl,hx,Y.ct,Y.t2,rfl,?_⟩
   rw[e2]
   refine⟨a,k,y0,rfl,hI.T,hI.O,by rw[← hI.G.lanes];exact hk,Iq,fun D H1 s1 hD gD=>⟨D,rfl,⟨_,zf.of gD⟩,?_⟩⟩
   have EC:(pw a k y0).length <= 400:=by
    unfold pw
    by_cases z:(a.ps.getD k (0,0)).2=(y0:Int)
    ·rw[if_pos z];exact zero_le _
    ·rw[if_neg z];exact hI.O.Ad _ _ _
   refine fA (fun v=>match v with | .int i=>!decide (i ∈ iz t.way) | _=>false) (fun v=>v) (by rw[cy,sizeLine_eq];omega) (zf.of gD) (fun y acc N hy h=>?_) (fun D2 B9=>?_)
   ·obtain⟨u,hu,rfl⟩:=tM hy
    refine⟨_,rfl,_,rfl,x,ys.zc,dx,_,_,rfl,s1 _ _ hx,Y.ct,Y.t6,rfl,wa,_,rfl, .inl (zf.of (s1 _ _ hw)),rfl,by rw[jP];exact fM _,_,rfl,?_⟩
    rw[jP,iP]
    have h:N (if (!decide ((u:Int) ∈ iz t.way))=true then acc ++ [V.int u] else acc) H1:=h
    cases hb:decide ((u:Int) ∈ iz t.way) with
    | true =>
     rw[hb]at h
     exact aH h
    | false =>
     rw[hb]at h
     exact aK ⟨_,rfl,h⟩
   ·have e:((nV (pw a k y0)).filter (fun v=>match v with | .int i=>!decide (i ∈ iz t.way) | _=>false)).map (fun v=>v)=nV ((pw a k y0).filter fun l=>!decide (l ∈ t.way)):=by
     rw[List.map_id']
     unfold nV
     rw[List.filter_map]
     congr 1
     refine filter_congr fun u _=>?_
     show(!decide ((u:Int) ∈ iz t.way))=_
     rw[oi]
    rw[e]
    exact q D2 _ (s1.new B9) (s1.free B9) ac
  ·rw[decide_eq_false h0]
   rw[if_neg h0]at q
   refine aH ⟨_,rfl,x,ys.zc,dx,_,_,rfl,hx,Y.ct,Y.t6,rfl, .inl ⟨rfl,_,zf.of hw⟩,_,rfl,wa,iz t.way,(k:Int),rfl,rfl,by rw[← jP];exact hw,Am.mpr ⟨k,ES,rfl⟩,by unfold iz;rw[length_map];omega,_,_,rfl,rfl,?_⟩
   rw[tY]
   refine⟨_,rfl,x,ys.zc,dx,_,_,rfl,hx,Y.ct,Y.t6,rfl,_,rfl,_,rfl,_,rfl,_,_,rfl,rfl,_,rfl,wa,_,rfl,zf.of hw,fun D hD=>?_⟩
   have e:gr (nV t.way) (some (((t.way.idxOf k:Nat):Int) + 1)) (some (((t.way.idxOf k:Nat):Int) + 1 + 1))=nV ((t.way.drop (t.way.idxOf k + 1)).take 1):=by
    have:=wk t.way (t.way.idxOf k + 1)
    rw[← this]
    rfl
   dsimp only
   rw[e]
   exact q D _ ((za.refl H).new hD) hD ac
theorem HE:ap UR ["self", "lane"] (aj lG):=L2.zF
theorem Q4:As UR (aj lG) (uY ((aJ lG).getD 2 (.Pass ⟨0,0,0,0⟩))) ["self", "lane", "piece"] [0,1,2]:=L2.B3
theorem Q5:(["other", "self", "lane", "piece"]:List Str).Nodup:=by decide +kernel
theorem v7 {c:Cs}{ys:Ys}{J:TJ}{TC f fw ff fa fo:Addr}{fd dw df da BZ:FuncData}(F:zA K "moves_on" "Yard.moves_on" lG f fd)(Y:i7 K ys)(W:Wy K TC fw dw J)
  (mf:bA K ys.zB "front" ff) (bf:Binds K df ["self"] []) (Gf:zb P w K mg base aG 1 ff df ["self"] (iC ys.zB))
  (ma:bA K ys.zd "wanted" fa) (ba:Binds K da ["self", "lane"] []) (Ga:zb P w K mg base aG 5 fa da ["self", "lane"] (iY K c TC J ys))
  (mo:bA K ys.zB "open_to" fo) (bo:Binds K BZ ["self", "letter", "count"] []) (Go:zb P w K mg base aG 1 fo BZ ["self", "letter", "count"] (kC ys.zB)) :
  zb P w K mg base aG 6 f fd ["self", "lane"] (nv K c TC J ys):=by
 refine F.ok HE (fun vs H Q E h=>?_) (fun cdv A outer s H vs Q E hr h=>?_)
 ·obtain⟨a,s,k,rfl,_⟩:=h
  rfl
 ·obtain⟨a,st,k,rfl,hI,hk,q⟩:=h
  have zU:zm 1 _:=hr.mono (by decide)
  refine⟨_,af (aD (i:=2) HE.nd rfl (Or.inr rfl) (ci (aw aM (ao (pv 0) rfl) (pv 1) (fun _ _=>rfl)) Y.L.cl mf Gf zU bf .nil aq))
   (af (aD (i:=3) HE.nd rfl (Or.inl rfl) (aB (pv 0) Y.cl ma Ga hr ba .nil aq (aa (pv 1) ad)))
   (ai (ar (b5 (own:=["other"]) (capN:=["self", "lane", "piece"]) (cap:=[0,1,2]) Q4 rfl (bC (pv 3)) (fun C s' H' fp=>⟨ay (i:=0) Q5 rfl (Or.inl rfl),bV (bF (aB (aw (show oE _ (sK K) from aM) (show PE _ _ (rl K (qa 1) "lanes") from ao (pv 1) rfl) (pv 0) (fun _ _=>rfl)) Y.L.cl mo Go zU bo .nil aq (aa (aw (show oE _ (kM K) from aA) (pv 3) ak (fun _ _=>rfl)) (aa (aw (show oE _ (kM K) from aA) (pv 3) ak (fun _ _=>rfl)) ad)))),bG (aa bu (aa (pv 2) (aa (pv 0) ad)))⟩))))),?_⟩
  have hY:=hI.Y
  obtain⟨zo,zX,D8⟩:=hY.AJ
  obtain⟨ln,zE⟩:∃ ln,st.lanes[k]? = some ln:=⟨_,List.getElem?_eq_getElem hk⟩
  obtain⟨vl,EO,xl,Bj,FP,HD,rfl,hL,_⟩:=Paired.at2 D8 zE
  refine⟨_,rfl,a.y,ys.zd,a.dy,_,_,rfl,hY.ins,Y.cl,Y.n3,rfl,_,rfl,a.la,zo,(k:Int),_,rfl,rfl,zf.of zX,al EO,xl,Bj,_,rfl,hL.ins,rfl,xl,Bj,FP,ln.r,ln.b,ln.h,HD,ln.qs,rfl,hL,?_⟩
  refine⟨_,rfl,a.y,a.dy,_,rfl,hY.ins,rfl,_,rfl,a,st,k,rfl,hI,hk,fun D H1 s1 hD gD=>?_⟩
  refine⟨_,rfl,D,rfl,⟨_,zf.of gD⟩,?_⟩
  have Dq:=hI.same W s1
  have eF:bO st k=ln.qs.head?:=by unfold bO;rw[zE]
  have Hy:∀ u ∈ c3 a st k,u < a.ps.length:=fun u hu=>by
   unfold c3 at hu
   rw[eF]at hu
   cases hq:ln.qs.head? with
   | none=>rw[hq]at hu;cases hu
   | some pq =>
    rw[hq]at hu
    obtain⟨m,t,em,hm,ES⟩:=hI.G.Aq k ln zE pq (mem_of_head? hq)
    obtain⟨x0,y0,e1,e2,N8,Iq⟩:=hI.G.lets m t hm
    dsimp only at hu
    rw[em,toNat_natCast,hm]at hu
    dsimp only at hu
    by_cases h0:pq.2=0
    ·rw[if_pos h0,e2,toNat_natCast]at hu
     have hu:=(mem_filter.mp hu).1
     unfold pw at hu
     by_cases z:(a.ps.getD k (0,0)).2=(y0:Int)
     ·rw[if_pos z]at hu;cases hu
     ·rw[if_neg z]at hu
      have Iu:k < a.ps.length:=by rw[← hI.G.lanes];exact hk
      obtain⟨e,ee,Lr⟩:=hI.O.ends k _ (List.getElem?_eq_getElem Iu)
      have FQ:a.ps.getD k (0,0)=a.ps[k]:=by rw[getD_eq_getElem?_getD,List.getElem?_eq_getElem Iu];rfl
      rw[FQ,ee,toNat_natCast]at hu
      exact hI.T.ok _ _ _ Lr Iq u hu
    ·rw[if_neg h0]at hu
     exact(hI.G.Ao m t hm).1 u (List.mem_of_mem_drop (mem_of_mem_take hu))
  have Eh:(c3 a st k).length <= 1000:=by
   unfold c3
   cases bO st k with
   | none=>exact zero_le _
   | some pq =>
    dsimp only
    cases st.yZ[pq.1.toNat]? with
    | none=>exact zero_le _
    | some t =>
     dsimp only
     by_cases h0:pq.2=0
     ·rw[if_pos h0]
      refine le_trans (length_filter_le _ _) ?_
      unfold pw
      by_cases z:(a.ps.getD k (0,0)).2=((t.goal.toNat:Nat):Int)
      ·rw[if_pos z];exact zero_le _
      ·rw[if_neg z];exact le_trans (hI.O.Ad _ _ _) (by decide)
     ·rw[if_neg h0,length_take];omega
  unfold i9 at q
  rw[eF]at q
  rcases jx hL.Aq with ⟨hf,ef⟩ | ⟨pq,pt,hf,ef,Cv⟩
  ·have e0:c3 a st k=[]:=by unfold c3;rw[eF,hf]
   rw[hf]at q
   rw[e0]at gD
   refine lr (fun l=>false) (Mv.on k) (by rw[sizeLine_eq];decide) gD (fun u H2 acc N hu s2 EN Ir=>by cases hu) (fun D2 Hz H2 s2 B9 hp=>?_)
   exact q D2 Hz _ ((s1.trans s2).new B9) (s1.free (s2.free B9)) ac (Paired.mono (fun _ _ z=>z.keep (za.zz ((za.refl H2).new B9))) hp)
  rw[hf]at q
  dsimp only at q
  rw[ef]
  refine lr (fun l=>fV st l pq.1 pq.2) (Mv.on k) (by rw[sizeLine_eq];omega) gD (fun u H2 acc N hu s2 EN Ir=>?_) (fun D2 Hz H2 s2 B9 hp=>?_)
  ·have Cw:=Dq.same W s2
   obtain⟨HA,HB,HC⟩:=Cw.Y.AJ
   have Qy:u < st.lanes.length:=by rw[hI.G.lanes];exact Hy u hu
   obtain⟨zK,AB⟩:∃ ln,st.lanes[u]? = some ln:=⟨_,List.getElem?_eq_getElem Qy⟩
   obtain⟨vu,hvu,xu,US,pau,pvu,rfl,UT,_⟩:=Paired.at2 HC AB
   have DW:=s2 _ _ (s1 _ _ Cv)
   refine⟨_,rfl,a.y,ys.zd,a.dy,_,_,rfl,Cw.Y.ins,Y.cl,Y.n3,rfl,_,rfl,a.la,HA,(u:Int),_,rfl,rfl,zf.of HB,al hvu,xu,US,_,rfl,UT.ins,rfl,_,rfl,pt,_,0,_,rfl,rfl,zh.of DW,al (j:=0) rfl,_,rfl,pt,_,1,_,rfl,rfl,zh.of DW,al (j:=1) rfl,xu,US,pau,zK.r,zK.b,zK.h,pq.1,pq.2,rfl,UT.ins,_,rfl,?_⟩
   have eo:fV st u pq.1 pq.2=bY zK.r zK.h pq.1 pq.2:=by unfold fV;rw[AB]
   cases ho:bY zK.r zK.h pq.1 pq.2 with
   | false=>exact aH (Ir (by rw[eo,ho]))
   | true=>exact aK ⟨_,rfl,_,rfl,by show 3 <= sizeLine;decide,fun z hz=>EN (by rw[eo,ho]) _ _ ((za.refl H2).new hz) ⟨z,rfl,ac⟩⟩
  ·exact q D2 Hz _ ((s1.trans s2).new B9) (s1.free (s2.free B9)) ac (Paired.mono (fun _ _ z=>z.keep (za.zz ((za.refl H2).new B9))) hp)
theorem Ls:ap ["self", "lane", "piece"] ["self", "lane"] (aj nB):=L2.zF
theorem t7 {c:Cs}{ys:Ys}{J:TJ}{TC f fw ff fe:Addr}{fd dw df de:FuncData}(F:zA K "moves_lie" "Yard.moves_lie" nB f fd)(Y:i7 K ys)(L:lw K c)(W:Wy K TC fw dw J)
  (mf:bA K ys.zB "front" ff) (bf:Binds K df ["self"] []) (Gf:zb P w K mg base aG 1 ff df ["self"] (iC ys.zB)) (M:w8 K c fe de) (Ge:zb P w K mg base aG 1 fe de ["self", "lane"] (n8 c Prod.snd)) :
  zb P w K mg base aG 2 f fd ["self", "lane"] (oP K c TC J ys):=by
 refine F.ok Ls (fun vs H Q E h=>?_) (fun cdv A outer s H vs Q E hr h=>?_)
 ·obtain⟨a,s,k,rfl,_⟩:=h
  rfl
 ·obtain⟨a,st,k,rfl,hI,hk,q⟩:=h
  refine⟨_,af (aD (i:=2) Ls.nd rfl (Or.inl rfl) (ci (aw aM (ao (pv 0) rfl) (pv 1) (fun _ _=>rfl)) Y.L.cl mf Gf hr bf .nil aq))
   (af (aO (PW.pt (i3 (av kW (pv 2) cx (az _)) (eP (av jk (ao (aw aM (ao (pv 0) rfl) (aw aA (pv 2) ak (fun _ _=>rfl)) (fun _ _=>rfl)) rfl) (aB (ao (ao (pv 0) rfl) rfl) L.cl M.m Ge hr M.b .nil aq (aa (pv 1) ad)) (az _))))) (ai (ar (aU ad))) aI)
   (ai (ar (aU (aa (bG (aa bu (aa (pv 1) ad))) ad))))),?_⟩
  have hY:=hI.Y
  obtain⟨zo,zX,D8⟩:=hY.AJ
  obtain⟨ln,zE⟩:∃ ln,st.lanes[k]? = some ln:=⟨_,List.getElem?_eq_getElem hk⟩
  obtain⟨vl,EO,xl,Bj,FP,HD,rfl,hL,_⟩:=Paired.at2 D8 zE
  refine⟨_,rfl,a.y,ys.zd,a.dy,_,_,rfl,hY.ins,Y.cl,Y.n3,rfl,_,rfl,a.la,zo,(k:Int),_,rfl,rfl,zf.of zX,al EO,xl,Bj,_,rfl,hL.ins,rfl,xl,Bj,FP,ln.r,ln.b,ln.h,HD,ln.qs,rfl,hL,?_⟩
  have eF:bO st k=ln.qs.head?:=by unfold bO;rw[zE]
  unfold eY at q
  rw[eF]at q
  rcases jx hL.Aq with ⟨hf,ef⟩ | ⟨pq,pt,hf,ef,Cv⟩
  ·rw[hf]at q
   rw[ef]
   exact⟨_,rfl,rfl,_,rfl,aK (aK ⟨zero_le _,fun D hD=>q D [] _ ((za.refl H).new hD) hD ac .nil⟩)⟩
  rw[hf]at q
  rw[ef]
  obtain⟨m,t,em,hm,ES⟩:=hI.G.Aq k ln zE pq (mem_of_head? hf)
  rw[em]at Cv
  dsimp only at q
  rw[em,toNat_natCast,hm]at q
  dsimp only at q
  obtain⟨zi,Ax,pl⟩:=hY.hle
  obtain⟨v,hv,x,dx,wa,rfl,hx,hw,_⟩:=Paired.at2 pl hm
  obtain⟨Cu,fst,Ca,zS,Bc⟩:=hI.T.i
  have Iu:k < a.ps.length:=by rw[← hI.G.lanes];exact hk
  have he:=List.getElem?_eq_getElem Iu
  have FQ:a.ps.getD k (0,0)=a.ps[k]:=by rw[getD_eq_getElem?_getD,he];rfl
  rw[FQ]at q
  refine⟨_,rfl,rfl,_,rfl,aH ⟨_,rfl,a.y,ys.zd,a.dy,_,_,rfl,hY.ins,Y.cl,Y.n4,rfl,_,rfl,pt,_,0,_,rfl,rfl,zh.of Cv,al (j:=0) rfl,a.le,zi,(m:Int),_,rfl,rfl,zf.of Ax,al hv,x,ys.zc,dx,_,_,rfl,hx,Y.ct,Y.t2,rfl,_,rfl,a.y,ys.zd,a.dy,_,_,rfl,hY.ins,Y.cl,Y.n1,rfl,a.tb,TC,Cu,fst,_,rfl,Ca,W.cl,W.nl,zS,a.lx,a.zD,_,rfl,hI.T.l.1,rfl,_,rfl,a.lx,a.zD,a.lt,(a.n:Int),a.zi,a.ps,k,_,rfl,hI.T.l,he,rfl,_,rfl,?_⟩⟩
  rw[bP]
  by_cases hg:t.goal=a.ps[k].2
  ·rw[decide_eq_true hg]
   rw[if_pos hg]at q
   refine aH ⟨_,rfl,by show 2 <= sizeLine;decide,fun z hz=>⟨by show 1 <= sizeLine;decide,fun D hD=>?_⟩⟩
   have s2:=(za.refl H).new (o := .tup [.str "lie", .int k]) hz
   have gz:(upd H z (.tup [.str "lie", .int k])) z=some (.tup [.str "lie", .int k]):=ac
   exact q D [.ref z] _ (s2.new hD) (s2.free hD) ac (.cons ⟨z,rfl,by rw[ae (ah gz hD)];exact gz⟩ .nil)
  ·rw[decide_eq_false hg]
   rw[if_neg hg]at q
   exact aK ⟨zero_le _,fun D hD=>q D [] _ ((za.refl H).new hD) hD ac .nil⟩
theorem Q6:ap ["self", "lane"] ["self", "lane"] (aj kI):=L2.zF
theorem qt {c:Cs}{ys:Ys}{J:TJ}{TC f:Addr}{fd:FuncData}(F:zA K "moves_back" "Yard.moves_back" kI f fd)(Y:i7 K ys):zb P w K mg base aG 1 f fd ["self", "lane"] (iZ K c TC J ys):=by
 refine F.ok Q6 (fun vs H Q E h=>?_) (fun cdv A outer s H vs Q E hr h=>?_)
 ·obtain⟨a,s,k,rfl,_⟩:=h
  rfl
 ·obtain⟨a,st,k,rfl,hI,hk,q⟩:=h
  refine⟨_,ai (ar (cK (av wP (ao (aw aM (ao (pv 0) rfl) (pv 1) (fun _ _=>rfl)) rfl) ak (az _)) (aU (aa (bG (aa bu (aa (pv 1) ad))) ad)) (aU ad))),?_⟩
  have hY:=hI.Y
  obtain⟨zo,zX,D8⟩:=hY.AJ
  obtain⟨ln,zE⟩:∃ ln,st.lanes[k]? = some ln:=⟨_,List.getElem?_eq_getElem hk⟩
  obtain⟨vl,EO,xl,Bj,FP,HD,rfl,hL,_⟩:=Paired.at2 D8 zE
  unfold dC at q
  dsimp only at q
  rw[zE]at q
  dsimp only at q
  refine⟨_,rfl,a.y,ys.zd,a.dy,_,_,rfl,hY.ins,Y.cl,Y.n3,rfl,_,rfl,a.la,zo,(k:Int),_,rfl,rfl,zf.of zX,al EO,xl,ys.zB,Bj,_,_,rfl,hL.ins,Y.L.cl,Y.L.n2,rfl,_,_,rfl,rfl,_,rfl,?_⟩
  by_cases hb:0 < ln.b
  ·rw[decide_eq_true hb]
   rw[if_pos hb]at q
   refine aK ⟨_,rfl,by show 2 <= sizeLine;decide,fun z hz=>⟨by show 1 <= sizeLine;decide,fun D hD=>?_⟩⟩
   have s2:=(za.refl H).new (o := .tup [.str "back", .int k]) hz
   have gz:(upd H z (.tup [.str "back", .int k])) z=some (.tup [.str "back", .int k]):=ac
   exact q D [.ref z] _ (s2.new hD) (s2.free hD) ac (.cons ⟨z,rfl,by rw[ae (ah gz hD)];exact gz⟩ .nil)
  ·rw[decide_eq_false hb]
   rw[if_neg hb]at q
   exact aH ⟨zero_le _,fun D hD=>q D [] _ ((za.refl H).new hD) hD ac .nil⟩
theorem jo {H:Hp}{F:Addr}{xs:List V}{o:HO}(h:H F=some (.lst xs)):zH H (upd H F o):=fun b u e n=>by
 have nb:b ≠ F:=fun z=>by rw[z,h]at e;cases e;exact n
 rw[ae nb];exact e
theorem dR {α:Type}(f:Nat->List α)(i:Nat):(List.range (i + 1)).flatMap f=(List.range i).flatMap f ++ f i:=by
 rw[range_succ,List.flatMap_append];simp
theorem bj {α:Type}{f:Nat->List α}(h:∀ i,(f i).length <= 1000):∀ i,((List.range i).flatMap f).length <= 1000 * i
 | 0=>by simp
 | i + 1=>by rw[dR,length_append];have:=bj h i;have:=h i;omega
theorem dP {a:YA}{s:YS}(O:Lp a)(G:Qv a s)(k:Nat):(ik a s k).length <= 1000:=by
 unfold ik
 cases ht:s.yZ[k]? with
 | none=>exact zero_le _
 | some t =>
  dsimp only
  by_cases hg:t.gone=t.len
  ·rw[if_pos hg];exact zero_le _
  rw[if_neg hg,length_map]
  refine le_trans (length_filter_le _ _) ?_
  unfold cz
  by_cases h0:t.gone=0
  ·rw[if_pos h0];exact le_trans (O.Ad _ _ _) (by decide)
  ·rw[if_neg h0,length_take];omega
theorem dO {a:YA}{s:YS}(O:Lp a)(k:Nat):(i9 a s k).length <= 1000:=by
 unfold i9
 cases hq:bO s k with
 | none=>exact zero_le _
 | some pq =>
  dsimp only
  rw[length_map]
  refine le_trans (length_filter_le _ _) ?_
  unfold c3
  rw[hq]
  dsimp only
  cases s.yZ[pq.1.toNat]? with
  | none=>exact zero_le _
  | some t =>
   dsimp only
   by_cases h0:pq.2=0
   ·rw[if_pos h0]
    refine le_trans (length_filter_le _ _) ?_
    unfold pw
    by_cases z:(a.ps.getD k (0,0)).2=((t.goal.toNat:Nat):Int)
    ·rw[if_pos z];exact zero_le _
    ·rw[if_neg z];exact le_trans (O.Ad _ _ _) (by decide)
   ·rw[if_neg h0,length_take];omega
theorem c9 (a:YA)(s:YS)(k:Nat):(eY a s k).length <= 1000:=by
 unfold eY
 cases bO s k with
 | none=>exact zero_le _
 | some pq =>
  dsimp only
  cases s.yZ[pq.1.toNat]? with
  | none=>exact zero_le _
  | some t =>
   dsimp only
   by_cases h0:t.goal=(a.ps.getD k (0,0)).2
   ·rw[if_pos h0];show 1 <= 1000;decide
   ·rw[if_neg h0];exact zero_le _
theorem jn (s:YS)(k:Nat):(dC s k).length <= 1000:=by
 unfold dC
 cases s.lanes[k]? with
 | none=>exact zero_le _
 | some ln =>
  dsimp only
  by_cases h0:0 < ln.b
  ·rw[if_pos h0];show 1 <= 1000;decide
  ·rw[if_neg h0];exact zero_le _
noncomputable def dD (a:YA)(s:YS):List Mv:=(List.range s.yZ.length).flatMap (ik a s) ++ (List.range s.lanes.length).flatMap (i9 a s) ++ (List.range s.lanes.length).flatMap (eY a s) ++ (List.range s.lanes.length).flatMap (dC s)
noncomputable def oQ (K:Frag)(c:Cs)(TC:Addr)(J:TJ)(ys:Ys):Sp:=fun vs H Q _=>∃ (a:YA)(s:YS),vs=[.ref a.y]/\Eo K c TC J ys H a s /\
 ∀ (D:Addr)(zN:List V)(H':Hp),za H H'->H D=none->H' D=some (.lst zN)->Paired (AE H') zN ((dD a s).map eG)->Q (.ref D) H'
theorem Paired.app {α β:Type}{R:α->β->Prop}{cs:List α}{ds:List β}(h:Paired R cs ds):∀ {as:List α}{bs:List β},Paired R as bs->Paired R (as ++ cs) (bs ++ ds)
 | _,_, .nil=>h
 | _,_, .cons x r => .cons x (Paired.app h r)
theorem iM {H H2 H3:Hp}{F:Addr}{vs zN:List V}{xs ys:List Mv}(nF:H F=none)(s2:za H H2)(g2:H2 F=some (.lst vs))(p2:Paired (AE H2) vs (xs.map eG))(s3:za H2 H3)(p3:Paired (AE H3) zN (ys.map eG)) :
  za H (upd H3 F (.lst (vs ++ zN)))/\(upd H3 F (.lst (vs ++ zN))) F=some (.lst (vs ++ zN))/\Paired (AE (upd H3 F (.lst (vs ++ zN)))) (vs ++ zN) ((xs ++ ys).map eG):=by
 refine⟨fun b o e=>by rw[ae (ah e nF)];exact s3 _ _ (s2 _ _ e),ac,?_⟩
 have kk:zH H3 (upd H3 F (.lst (vs ++ zN))):=jo (s3 _ _ g2)
 rw[map_append]
 have q2:=Paired.mono (fun _ _ z=>z.keep (zH.trans (za.zz s3) kk)) p2
 have q3:=Paired.mono (fun _ _ z=>z.keep kk) p3
 exact Paired.app q3 q2
abbrev NMs:List Str:=["self", "found", "number", "lane"]
theorem Dr:ap NMs ["self"] (aj nD):=L2.zF
structure Q7 (P:Program)(w:World)(K:Frag)(mg:Str->Option Value)(base:Heap)(c:Cs)(TC:Addr)(J:TJ)(ys:Ys)(fi fo fl fb:Addr)(di BZ dl db:FuncData):Prop where
 mi:bA K ys.zd "moves_in" fi
 bi:Binds K di ["self", "number"] []
 Gi:zb P w K mg base aG 4 fi di ["self", "number"] (n0 K c TC J ys)
 mo:bA K ys.zd "moves_on" fo
 bo:Binds K BZ ["self", "lane"] []
 Go:zb P w K mg base aG 6 fo BZ ["self", "lane"] (nv K c TC J ys)
 ml:bA K ys.zd "moves_lie" fl
 bl:Binds K dl ["self", "lane"] []
 Gl:zb P w K mg base aG 2 fl dl ["self", "lane"] (oP K c TC J ys)
 mb:bA K ys.zd "moves_back" fb
 bb:Binds K db ["self", "lane"] []
 Gb:zb P w K mg base aG 1 fb db ["self", "lane"] (iZ K c TC J ys)
theorem t8 {c:Cs}{ys:Ys}{J:TJ}{TC f fw fi fo fl fb:Addr}{fd dw di BZ dl db:FuncData}(F:zA K "moves" "Yard.moves" nD f fd)(T:fB mg)(Y:i7 K ys)(W:Wy K TC fw dw J)(M:Q7 P w K mg base c TC J ys fi fo fl fb di BZ dl db) :
  zb P w K mg base aG 7 f fd ["self"] (oQ K c TC J ys):=by
 refine F.ok Dr (fun vs H Q E h=>?_) (fun cdv A outer s H vs Q E hr h=>?_)
 ·obtain⟨a,s,rfl,_⟩:=h
  rfl
 ·obtain⟨a,st,rfl,hI,q⟩:=h
  have zU:zm 1 _:=hr.mono (by decide)
  have Au:zm 2 _:=hr.mono (by decide)
  have BY:zm 4 _:=hr.mono (by decide)
  refine⟨_,af (aD (i:=1) Dr.nd rfl (Or.inl rfl) (aU ad))
   (af (bD PassesOwn.never rfl (aR rfl T.range (aa (aF ax rfl T.len PySem.boot_len (aa (ao (pv 0) rfl) ad)) ad)) (ay (i:=2) Dr.nd rfl (Or.inl rfl)) (ai (aQ (c4 plainAttrs_list slot_list_extend type_list_extend fL (pv 1) (aa (aB (pv 0) Y.cl M.mi M.Gi BY M.bi .nil aq (aa (pv 2) ad)) ad)))))
   (af (bD PassesOwn.never rfl (aR rfl T.range (aa (aF ax rfl T.len PySem.boot_len (aa (ao (pv 0) rfl) ad)) ad)) (ay (i:=3) Dr.nd rfl (Or.inl rfl)) (ai (aQ (c4 plainAttrs_list slot_list_extend type_list_extend fL (pv 1) (aa (aB (pv 0) Y.cl M.mo M.Go hr M.bo .nil aq (aa (pv 3) ad)) ad)))))
   (af (bD PassesOwn.never rfl (aR rfl T.range (aa (aF ax rfl T.len PySem.boot_len (aa (ao (pv 0) rfl) ad)) ad)) (ay (i:=3) Dr.nd rfl (Or.inl rfl)) (ai (aQ (c4 plainAttrs_list slot_list_extend type_list_extend fL (pv 1) (aa (aB (pv 0) Y.cl M.ml M.Gl Au M.bl .nil aq (aa (pv 3) ad)) ad)))))
   (af (bD PassesOwn.never rfl (aR rfl T.range (aa (aF ax rfl T.len PySem.boot_len (aa (ao (pv 0) rfl) ad)) ad)) (ay (i:=3) Dr.nd rfl (Or.inl rfl)) (ai (aQ (c4 plainAttrs_list slot_list_extend type_list_extend fL (pv 1) (aa (aB (pv 0) Y.cl M.mb M.Gb zU M.bb .nil aq (aa (pv 3) ad)) ad)))))
   (ai (ar (pv 1))))))),?_⟩
  have hlet:=hI.G.Ad
  have ET:st.lanes.length <= 40:=by rw[hI.G.lanes];exact hI.T.Ad
  refine⟨zero_le _,fun Fd Iv=>?_⟩
  have s0:=(za.refl H).new (o := .lst []) Iv
  have g0:(upd H Fd (.lst [])) Fd=some (.lst []):=ac
  show cU 1 (V.ref Fd) _ _ _
  generalize upd H Fd (.lst [])=H0 at s0 g0 ⊢
  have Q8:∃ vs,za H H0/\H0 Fd=some (.lst vs)/\Paired (AE H0) vs (([]:List Mv).map eG):=⟨[],s0,g0, .nil⟩
  obtain⟨D6,UU,g0',p0'⟩:=Q8
  have UW:=(hI.same W UU).Y
  obtain⟨UX,gl0,pl0⟩:=UW.hle
  have Q9:UX.length=st.yZ.length:=Paired.length pl0
  refine⟨_,rfl,a.y,ys.zd,a.dy,_,_,rfl,UW.ins,Y.cl,Y.n4,rfl,a.le,_,rfl, .inl (zf.of gl0),((UX.length:Nat):Int),rfl,by omega,by omega,?_⟩
  rw[toNat_natCast,Q9]
  refine b7 (n:=st.yZ.length) (fun i σ H2=>∃ a2 a3:Option V,(∃ vs,za H H2/\H2 Fd=some (.lst vs)/\Paired (AE H2) vs (((List.range i).flatMap (ik a st)).map eG))/\σ=[some (.ref a.y),some (.ref Fd),a2,a3]) ?_ ?_ ?_
  ·exact⟨_,_,⟨D6,UU,g0',by simpa using p0'⟩,rfl⟩
  ·rintro i σ H2 hi ⟨a2,a3,⟨vs,s2,g2,p2⟩,rfl⟩
   rw[zero_add]
   have Cw:=hI.same W s2
   refine⟨_,rfl, .inl ⟨rfl,_,zf.of g2⟩,_,rfl,a.y,a.dy,_,rfl,Cw.Y.ins,rfl,_,rfl,a,st,i,rfl,Cw,hi,fun D zN H3 s3 hD gD hp=>?_⟩
   have l1:vs.length <= 1000000:=by
    rw[Paired.length p2,length_map]
    have h0:=bj (dP hI.O hI.G) st.yZ.length
    have h1:=bj (dO (s:=st) hI.O) st.lanes.length
    have h2:=bj (c9 a st) st.lanes.length
    have hh:=bj (dP hI.O hI.G) i
    try simp only[length_append]
    omega
   have l2:zN.length <= 1000:=by rw[Paired.length hp,length_map];exact(dP hI.O hI.G) i
   obtain⟨q1,q2,q3⟩:=iM Iv s2 g2 p2 s3 hp
   refine⟨Fd,D,vs,zN,rfl,rfl,s3 _ _ g2,gD,by rw[sizeLine_eq];omega,?_⟩
   refine⟨_,_,⟨vs ++ zN,q1,q2,?_⟩,rfl⟩
   rw[dR]
   exact q3
  rintro σ0 H1 ⟨a20,a30,inv1,rfl⟩
  obtain⟨vs1,UY,g1',p1'⟩:=inv1
  have Bt:=(hI.same W UY).Y
  obtain⟨UZ,N9,Qt⟩:=Bt.AJ
  have QA:UZ.length=st.lanes.length:=Paired.length Qt
  refine⟨_,rfl,a.y,ys.zd,a.dy,_,_,rfl,Bt.ins,Y.cl,Y.n3,rfl,a.la,_,rfl, .inl (zf.of N9),((UZ.length:Nat):Int),rfl,by omega,by omega,?_⟩
  rw[toNat_natCast,QA]
  refine b7 (n:=st.lanes.length) (fun i σ H2=>∃ a2 a3:Option V,(∃ vs,za H H2/\H2 Fd=some (.lst vs)/\Paired (AE H2) vs ((((List.range st.yZ.length).flatMap (ik a st)) ++ (List.range i).flatMap (i9 a st)).map eG))/\σ=[some (.ref a.y),some (.ref Fd),a2,a3]) ?_ ?_ ?_
  ·exact⟨_,_,⟨vs1,UY,g1',by simpa using p1'⟩,rfl⟩
  ·rintro i σ H2 hi ⟨a2,a3,⟨vs,s2,g2,p2⟩,rfl⟩
   rw[zero_add]
   have Cw:=hI.same W s2
   refine⟨_,rfl, .inl ⟨rfl,_,zf.of g2⟩,_,rfl,a.y,a.dy,_,rfl,Cw.Y.ins,rfl,_,rfl,a,st,i,rfl,Cw,hi,fun D zN H3 s3 hD gD hp=>?_⟩
   have l1:vs.length <= 1000000:=by
    rw[Paired.length p2,length_map]
    have h0:=bj (dP hI.O hI.G) st.yZ.length
    have h1:=bj (dO (s:=st) hI.O) st.lanes.length
    have h2:=bj (c9 a st) st.lanes.length
    have hh:=bj (dO (s:=st) hI.O) i
    try simp only[length_append]
    omega
   have l2:zN.length <= 1000:=by rw[Paired.length hp,length_map];exact(dO (s:=st) hI.O) i
   obtain⟨q1,q2,q3⟩:=iM Iv s2 g2 p2 s3 hp
   refine⟨Fd,D,vs,zN,rfl,rfl,s3 _ _ g2,gD,by rw[sizeLine_eq];omega,?_⟩
   refine⟨_,_,⟨vs ++ zN,q1,q2,?_⟩,rfl⟩
   rw[dR]
   rw[← append_assoc];exact q3
  rintro σ1 H2 ⟨a21,a31,inv2,rfl⟩
  obtain⟨Hz,Va,g2',p2'⟩:=inv2
  have C2:=(hI.same W Va).Y
  obtain⟨Vb,gl2,pl2⟩:=C2.AJ
  have QB:Vb.length=st.lanes.length:=Paired.length pl2
  refine⟨_,rfl,a.y,ys.zd,a.dy,_,_,rfl,C2.ins,Y.cl,Y.n3,rfl,a.la,_,rfl, .inl (zf.of gl2),((Vb.length:Nat):Int),rfl,by omega,by omega,?_⟩
  rw[toNat_natCast,QB]
  refine b7 (n:=st.lanes.length) (fun i σ H2=>∃ a2 a3:Option V,(∃ vs,za H H2/\H2 Fd=some (.lst vs)/\Paired (AE H2) vs ((((List.range st.yZ.length).flatMap (ik a st) ++ (List.range st.lanes.length).flatMap (i9 a st)) ++ (List.range i).flatMap (eY a st)).map eG))/\σ=[some (.ref a.y),some (.ref Fd),a2,a3]) ?_ ?_ ?_
  ·exact⟨_,_,⟨Hz,Va,g2',by simpa using p2'⟩,rfl⟩
  ·rintro i σ H2 hi ⟨a2,a3,⟨vs,s2,g2,p2⟩,rfl⟩
   rw[zero_add]
   have Cw:=hI.same W s2
   refine⟨_,rfl, .inl ⟨rfl,_,zf.of g2⟩,_,rfl,a.y,a.dy,_,rfl,Cw.Y.ins,rfl,_,rfl,a,st,i,rfl,Cw,hi,fun D zN H3 s3 hD gD hp=>?_⟩
   have l1:vs.length <= 1000000:=by
    rw[Paired.length p2,length_map]
    have h0:=bj (dP hI.O hI.G) st.yZ.length
    have h1:=bj (dO (s:=st) hI.O) st.lanes.length
    have h2:=bj (c9 a st) st.lanes.length
    have hh:=bj (c9 a st) i
    try simp only[length_append]
    omega
   have l2:zN.length <= 1000:=by rw[Paired.length hp,length_map];exact(c9 a st) i
   obtain⟨q1,q2,q3⟩:=iM Iv s2 g2 p2 s3 hp
   refine⟨Fd,D,vs,zN,rfl,rfl,s3 _ _ g2,gD,by rw[sizeLine_eq];omega,?_⟩
   refine⟨_,_,⟨vs ++ zN,q1,q2,?_⟩,rfl⟩
   rw[dR]
   rw[← append_assoc];exact q3
  rintro σ2 H3 ⟨a22,a32,QC,rfl⟩
  obtain⟨vs3,Vc,g3',p3'⟩:=QC
  have B4:=(hI.same W Vc).Y
  obtain⟨Vd,gl3,pl3⟩:=B4.AJ
  have QD:Vd.length=st.lanes.length:=Paired.length pl3
  refine⟨_,rfl,a.y,ys.zd,a.dy,_,_,rfl,B4.ins,Y.cl,Y.n3,rfl,a.la,_,rfl, .inl (zf.of gl3),((Vd.length:Nat):Int),rfl,by omega,by omega,?_⟩
  rw[toNat_natCast,QD]
  refine b7 (n:=st.lanes.length) (fun i σ H2=>∃ a2 a3:Option V,(∃ vs,za H H2/\H2 Fd=some (.lst vs)/\Paired (AE H2) vs ((((List.range st.yZ.length).flatMap (ik a st) ++ (List.range st.lanes.length).flatMap (i9 a st) ++ (List.range st.lanes.length).flatMap (eY a st)) ++ (List.range i).flatMap (dC st)).map eG))/\σ=[some (.ref a.y),some (.ref Fd),a2,a3]) ?_ ?_ ?_
  ·exact⟨_,_,⟨vs3,Vc,g3',by simpa using p3'⟩,rfl⟩
  ·rintro i σ H2 hi ⟨a2,a3,⟨vs,s2,g2,p2⟩,rfl⟩
   rw[zero_add]
   have Cw:=hI.same W s2
   refine⟨_,rfl, .inl ⟨rfl,_,zf.of g2⟩,_,rfl,a.y,a.dy,_,rfl,Cw.Y.ins,rfl,_,rfl,a,st,i,rfl,Cw,hi,fun D zN H3 s3 hD gD hp=>?_⟩
   have l1:vs.length <= 1000000:=by
    rw[Paired.length p2,length_map]
    have h0:=bj (dP hI.O hI.G) st.yZ.length
    have h1:=bj (dO (s:=st) hI.O) st.lanes.length
    have h2:=bj (c9 a st) st.lanes.length
    have hh:=bj (jn st) i
    try simp only[length_append]
    omega
   have l2:zN.length <= 1000:=by rw[Paired.length hp,length_map];exact(jn st) i
   obtain⟨q1,q2,q3⟩:=iM Iv s2 g2 p2 s3 hp
   refine⟨Fd,D,vs,zN,rfl,rfl,s3 _ _ g2,gD,by rw[sizeLine_eq];omega,?_⟩
   refine⟨_,_,⟨vs ++ zN,q1,q2,?_⟩,rfl⟩
   rw[dR]
   rw[← append_assoc];exact q3
  rintro σ3 H4 ⟨a23,a33,QE,rfl⟩
  obtain⟨vs,s2,g2,p2⟩:=QE
  exact⟨_,rfl,q Fd vs _ s2 Iv g2 p2⟩
structure Lu (K:Frag):Prop where
 ss:kitOne K (.type "str") (.type "str")=some true
 ns:kitOne K (.type "int") (.type "str")=some false
 tt:kitOne K (.type "tuple") (.type "tuple")=some true
theorem fS {a b:Str}(h:a ≠ b):decide (V.str a=V.str b)=false:=decide_eq_false fun z=>h (by injection z)
theorem iw (a:Str):decide (V.str a=V.str a)=true:=decide_eq_true rfl
noncomputable def rL:Sp:=fun vs H Q _=>∃ (p:Addr)(xs:List V),vs=[.ref p]/\H p=some (.tup xs)/\xs.length <= 100/\(∀ x ∈ xs,(∃ t,x = .str t)∨∃ i,x = .int i)/\∀ H',za H H'->Q (.bl true) H'
noncomputable def wo (s:Stmt):Scope:=match s with
 | .Return (some (.BoolOp _ [_, .Call _ [.ListComp _ _ sc _] _ _] _)) _=>sc
 | _=>{ kind := .function,names:=[],isGenerator:=false,isCoroutine:=false }
theorem lX (m:Mv):(eG m).length <= 100/\∀ x ∈ eG m,(∃ t,x=V.str t)∨∃ i,x=V.int i:=by
 cases m<;>refine⟨by simp[eG],fun x hx=>?_⟩<;>simp only[eG,mem_cons,not_mem_nil,or_false]at hx
 ·rcases hx with rfl | rfl | rfl
  ·exact .inl ⟨_,rfl⟩
  ·exact .inr ⟨_,rfl⟩
  ·exact .inr ⟨_,rfl⟩
 ·rcases hx with rfl | rfl | rfl
  ·exact .inl ⟨_,rfl⟩
  ·exact .inr ⟨_,rfl⟩
  ·exact .inr ⟨_,rfl⟩
 ·rcases hx with rfl | rfl
  ·exact .inl ⟨_,rfl⟩
  ·exact .inr ⟨_,rfl⟩
 ·rcases hx with rfl | rfl
  ·exact .inl ⟨_,rfl⟩
  ·exact .inr ⟨_,rfl⟩
noncomputable def pA (a:YA)(s:YS):Mv->List Mv
 | .Aw k _=>ik a s k
 | .on k _=>i9 a s k
 | .Ar k=>eY a s k
 | .back k=>dC s k
noncomputable def wT (s:YS):Mv->Prop
 | .Aw k _=>k < s.yZ.length
 | .on k _=>k < s.lanes.length
 | .Ar k=>k < s.lanes.length
 | .back k=>k < s.lanes.length
noncomputable def rH (K:Frag)(c:Cs)(TC:Addr)(J:TJ)(ys:Ys):Sp:=fun vs H Q _=>∃ (a:YA)(s:YS)(p:Addr)(m:Mv),vs=[.ref a.y, .ref p]/\Eo K c TC J ys H a s/\H p=some (.tup (eG m))/\wT s m /\
 ∀ (D:Addr)(zN:List V)(H':Hp),za H H'->H D=none->H' D=some (.lst zN)->Paired (AE H') zN ((pA a s m).map eG)->Q (.ref D) H'
theorem QF:ap ["move"] ["move"] (aj lI):=L2.zF
theorem QG:As ["move"] (aj lI) (wo ((aJ lI).getD 0 (.Pass ⟨0,0,0,0⟩))) [] []:=L2.B3
theorem QH:(["thing"]:List Str).Nodup:=by decide +kernel
theorem vC {f fh:Addr}{fd dh:FuncData}(F:zA K "is_move" "is_move" lI f fd)(T:fB mg)(Z:Lu K)(mh:mg "is_whole" = some (.ref fh))(kh:keepIn K (.ref fh)=true)(bh:Binds K dh ["value"] [])(G:zb P w K mg base aG 1 fh dh ["value"] gF) :
  zb P w K mg base aG 2 f fd ["move"] rL:=by
 refine F.ok QF (fun vs H Q E h=>?_) (fun cdv A outer s H vs Q E hr h=>?_)
 ·obtain⟨p,xs,rfl,_⟩:=h
  rfl
 ·obtain⟨p,xs,rfl,hp,hl,hx,q⟩:=h
  refine⟨_,ai (ar (dB (aF gY rfl T.Ik PyProof.Rows.boot_isinstance (aa (pv 0) (aa (fJ (v := .ty "tuple") rfl T.tuple PySem.Pv.boot_tuple rfl) ad)))
   (dA (aF (j3 rfl) rfl T.all PyProof.Rows.boot_all (aa (b5 (own:=["thing"]) (capN:=[]) (cap:=[]) QG rfl (kQ (pv 0)) (fun C s' H' fp=>⟨ay (i:=0) QH rfl (Or.inl rfl),dq,
    IU (aF (show fD _ (.builtin "isinstance") (JN K) from gY) rfl T.Ik PyProof.Rows.boot_isinstance (aa (pv 0) (aa (fJ (v := .ty "str") rfl T.str PySem.Pv.boot_str rfl) ad))) (dA (au G hr rfl mh kh bh .nil aq (aa (pv 0) ad)))⟩)) ad))))),?_⟩
  refine⟨_,rfl, .ref p,_, "tuple",true,rfl, .tup hp,Z.tt,true,rfl,aK ⟨_,rfl,p,rfl,⟨_,zh.of hp⟩,?_⟩⟩
  refine bT xs.length (by rw[sizeLine_eq];omega) (fun i acc H'=>H' = H/\acc=(List.replicate i true).map V.bl) ⟨rfl,rfl⟩ (fun i acc H' h=>by rw[h.2];simp) (fun i acc H' hi h=>?_) (fun acc H' h=>?_)
  ·obtain⟨rfl,rfl⟩:=h
   refine⟨⟨xs,xs[i],zh.of hp,List.getElem?_eq_getElem hi⟩,fun v H2 y=>?_⟩
   obtain⟨rfl,y⟩:=y
   have hv:=y xs (zh.of hp)
   have e:(List.replicate i true).map V.bl ++ [V.bl true]=(List.replicate (i + 1) true).map V.bl:=by rw[List.replicate_succ',map_append];rfl
   rcases hx v (mem_of_getElem? hv) with ⟨t,rfl⟩ | ⟨z,rfl⟩
   ·exact⟨_,rfl, .str t,_, "str",true,rfl, .str t,Z.ss,true,rfl,aK ⟨rfl,e⟩⟩
   ·exact⟨_,rfl, .int z,_, "str",false,rfl, .int z,Z.ns,false,rfl,aH ⟨_,rfl, .int z,rfl, .int z,rfl,e⟩⟩
  ·obtain⟨rfl,rfl⟩:=h
   refine⟨⟨xs,zh.of hp,Nat.le_refl _⟩,fun D hD=>⟨D,List.replicate xs.length true,rfl,zf.of ac,?_⟩⟩
   have e:(List.replicate xs.length true).all id=true:=by rw[all_eq_true];intro b hb;rw[eq_of_mem_replicate hb];rfl
   rw[e]
   exact q _ ((za.refl H').new hD)
theorem QI:ap ["self", "move"] ["self", "move"] (aj sr):=L2.zF
theorem vA {c:Cs}{ys:Ys}{J:TJ}{TC f fw fi fo fl fb fm fn:Addr}{fd dw di BZ dl db dm dn:FuncData}(F:zA K "moves_like" "Yard.moves_like" sr f fd)(T:fB mg)(Y:i7 K ys)(W:Wy K TC fw dw J)(M:Q7 P w K mg base c TC J ys fi fo fl fb di BZ dl db)
  (mm:mg "is_move" = some (.ref fm)) (km:keepIn K (.ref fm)=true) (bm:Binds K dm ["move"] []) (Gm:zb P w K mg base aG 2 fm dm ["move"] rL)
  (mn:mg "is_within" = some (.ref fn)) (kn:keepIn K (.ref fn)=true) (bn:Binds K dn ["value", "least", "most"] []) (Gn:zb P w K mg base aG 2 fn dn ["value", "least", "most"] fF) :
  zb P w K mg base aG 7 f fd ["self", "move"] (rH K c TC J ys):=by
 refine F.ok QI (fun vs H Q E h=>?_) (fun cdv A outer s H vs Q E hr h=>?_)
 ·obtain⟨a,s,p,m,rfl,_⟩:=h
  rfl
 ·obtain⟨a,st,p,m,rfl,hI,hp,zg,q⟩:=h
  have zU:zm 1 _:=hr.mono (by decide)
  have Au:zm 2 _:=hr.mono (by decide)
  have BY:zm 4 _:=hr.mono (by decide)
  refine⟨_,af (aO (iH (PW.pt (i3 (bZ (bF (au Gm Au rfl mm km bm .nil aq (aa (pv 1) ad)))) (eP (av lT (aF ax rfl T.len PySem.boot_len (aa (pv 1) ad)) ak (az _)))))) (ai (ar (aU ad))) aI)
   (af (aO (av bz (aw aA (pv 1) ak (fun _ _=>rfl)) bu (az _))
    (ai (ar (cK (bF (au Gn Au rfl mn kn bn .nil aq (aa (aw aA (pv 1) ak (fun _ _=>rfl)) (aa ak (aa (aC e9 (aF ax rfl T.len PySem.boot_len (aa (ao (pv 0) rfl) ad)) ak) ad)))))
     (aB (pv 0) Y.cl M.mi M.Gi BY M.bi .nil aq (aa (aw aA (pv 1) ak (fun _ _=>rfl)) ad)) (aU ad)))) aI)
   (af (aO (bZ (bF (au Gn Au rfl mn kn bn .nil aq (aa (aw aA (pv 1) ak (fun _ _=>rfl)) (aa ak (aa (aC e9 (aF ax rfl T.len PySem.boot_len (aa (ao (pv 0) rfl) ad)) ak) ad)))))) (ai (ar (aU ad))) aI)
   (af (aO (av bz (aw aA (pv 1) ak (fun _ _=>rfl)) bu (az _)) (ai (ar (aB (pv 0) Y.cl M.mo M.Go hr M.bo .nil aq (aa (aw aA (pv 1) ak (fun _ _=>rfl)) ad)))) aI)
   (af (aO (av bz (aw aA (pv 1) ak (fun _ _=>rfl)) bu (az _)) (ai (ar (aB (pv 0) Y.cl M.ml M.Gl Au M.bl .nil aq (aa (aw aA (pv 1) ak (fun _ _=>rfl)) ad)))) aI)
   (ai (ar (cK (av bz (aw aA (pv 1) ak (fun _ _=>rfl)) bu (az _)) (aB (pv 0) Y.cl M.mb M.Gb zU M.bb .nil aq (aa (aw aA (pv 1) ak (fun _ _=>rfl)) ad)) (aU ad)))))))),?_⟩
  refine⟨fun b H1=>b=false/\za H H1,?_,?_⟩
  ·refine⟨_,rfl,p,eG m,rfl,hp,(lX m).1,(lX m).2,fun H1 s1=>⟨_,rfl,aH ?_⟩⟩
   refine⟨_,rfl,p,_,rfl, .inr (zh.of (s1 _ _ hp)),_,_,rfl,rfl,_,rfl,?_,s1⟩
   cases m<;>rfl
  rintro b H1 ⟨rfl,s1⟩
  refine aH ?_
  have Dq:=hI.same W s1
  have zG:=s1 _ _ hp
  have q1:∀ (D:Addr)(zN:List V)(H':Hp),za H1 H'->H1 D=none->H' D=some (.lst zN)->Paired (AE H') zN ((pA a st m).map eG)->Q (.ref D) H':=fun D zN H' s' hD g' BI=>q D zN H' (s1.trans s') (s1.free hD) g' BI
  have hY:=Dq.Y
  obtain⟨zi,Ax,ple⟩:=hY.hle
  have hle:zi.length=st.yZ.length:=Paired.length ple
  obtain⟨zo,zX,D8⟩:=hY.AJ
  have AJ:zo.length=st.lanes.length:=Paired.length D8
  clear s1 q hp hI
  have inl:∀ k:Nat,k < st.lanes.length->jK (.int k) 0 (((zo.length:Nat):Int) - 1)=true:=fun k hk=>decide_eq_true (by omega)
  cases m with
  | Aw k l =>
   have zG:H1 p=some (.tup [.str "in", .int k, .int l]):=zG
   have zg:k < st.yZ.length:=zg
   refine⟨_,rfl,p,_,0,_,rfl,rfl,zh.of zG,al (j:=0) rfl,rfl,_,rfl,?_⟩
   rw[iw]
   refine aK ⟨_,rfl,p,_,1,_,rfl,rfl,zh.of zG,al (j:=1) rfl,_,rfl,a.y,ys.zd,a.dy,_,_,rfl,hY.ins,Y.cl,Y.n4,rfl,a.le,_,rfl, .inl (zf.of Ax),_,_,rfl,rfl, .int k,0,((zi.length:Nat):Int) - 1,rfl, .int _,_,rfl,?_⟩
   rw[show jK (.int k) 0 (((zi.length:Nat):Int) - 1)=true from decide_eq_true (by omega)]
   exact aK ⟨_,rfl,a.y,a.dy,_,rfl,hY.ins,rfl,_,rfl,p,_,1,_,rfl,rfl,zh.of zG,al (j:=1) rfl,a,st,k,rfl,Dq,zg,fun D zN H' s' hD g' BI=>q1 D zN H' s' hD g' BI⟩
  | on k l =>
   have zG:H1 p=some (.tup [.str "on", .int k, .int l]):=zG
   have zg:k < st.lanes.length:=zg
   refine⟨_,rfl,p,_,0,_,rfl,rfl,zh.of zG,al (j:=0) rfl,rfl,_,rfl,?_⟩
   rw[fS (by decide +kernel)]
   refine aH ⟨_,rfl,p,_,1,_,rfl,rfl,zh.of zG,al (j:=1) rfl,_,rfl,a.y,ys.zd,a.dy,_,_,rfl,hY.ins,Y.cl,Y.n3,rfl,a.la,_,rfl, .inl (zf.of zX),_,_,rfl,rfl, .int k,0,((zo.length:Nat):Int) - 1,rfl, .int _,_,rfl,?_⟩
   rw[inl k zg]
   refine aH ⟨_,rfl,p,_,0,_,rfl,rfl,zh.of zG,al (j:=0) rfl,rfl,_,rfl,?_⟩
   rw[iw]
   exact aK ⟨_,rfl,a.y,a.dy,_,rfl,hY.ins,rfl,_,rfl,p,_,1,_,rfl,rfl,zh.of zG,al (j:=1) rfl,a,st,k,rfl,Dq,zg,fun D zN H' s' hD g' BI=>q1 D zN H' s' hD g' BI⟩
  | Ar k =>
   have zG:H1 p=some (.tup [.str "lie", .int k]):=zG
   have zg:k < st.lanes.length:=zg
   refine⟨_,rfl,p,_,0,_,rfl,rfl,zh.of zG,al (j:=0) rfl,rfl,_,rfl,?_⟩
   rw[fS (by decide +kernel)]
   refine aH ⟨_,rfl,p,_,1,_,rfl,rfl,zh.of zG,al (j:=1) rfl,_,rfl,a.y,ys.zd,a.dy,_,_,rfl,hY.ins,Y.cl,Y.n3,rfl,a.la,_,rfl, .inl (zf.of zX),_,_,rfl,rfl, .int k,0,((zo.length:Nat):Int) - 1,rfl, .int _,_,rfl,?_⟩
   rw[inl k zg]
   refine aH ⟨_,rfl,p,_,0,_,rfl,rfl,zh.of zG,al (j:=0) rfl,rfl,_,rfl,?_⟩
   rw[fS (by decide +kernel)]
   refine aH ⟨_,rfl,p,_,0,_,rfl,rfl,zh.of zG,al (j:=0) rfl,rfl,_,rfl,?_⟩
   rw[iw]
   exact aK ⟨_,rfl,a.y,a.dy,_,rfl,hY.ins,rfl,_,rfl,p,_,1,_,rfl,rfl,zh.of zG,al (j:=1) rfl,a,st,k,rfl,Dq,zg,fun D zN H' s' hD g' BI=>q1 D zN H' s' hD g' BI⟩
  | back k =>
   have zG:H1 p=some (.tup [.str "back", .int k]):=zG
   have zg:k < st.lanes.length:=zg
   refine⟨_,rfl,p,_,0,_,rfl,rfl,zh.of zG,al (j:=0) rfl,rfl,_,rfl,?_⟩
   rw[fS (by decide +kernel)]
   refine aH ⟨_,rfl,p,_,1,_,rfl,rfl,zh.of zG,al (j:=1) rfl,_,rfl,a.y,ys.zd,a.dy,_,_,rfl,hY.ins,Y.cl,Y.n3,rfl,a.la,_,rfl, .inl (zf.of zX),_,_,rfl,rfl, .int k,0,((zo.length:Nat):Int) - 1,rfl, .int _,_,rfl,?_⟩
   rw[inl k zg]
   refine aH ⟨_,rfl,p,_,0,_,rfl,rfl,zh.of zG,al (j:=0) rfl,rfl,_,rfl,?_⟩
   rw[fS (by decide +kernel)]
   refine aH ⟨_,rfl,p,_,0,_,rfl,rfl,zh.of zG,al (j:=0) rfl,rfl,_,rfl,?_⟩
   rw[fS (by decide +kernel)]
   refine aH ⟨_,rfl,p,_,0,_,rfl,rfl,zh.of zG,al (j:=0) rfl,rfl,_,rfl,?_⟩
   rw[iw]
   exact aK ⟨_,rfl,a.y,a.dy,_,rfl,hY.ins,rfl,_,rfl,p,_,1,_,rfl,rfl,zh.of zG,al (j:=1) rfl,a,st,k,rfl,Dq,zg,fun D zN H' s' hD g' BI=>q1 D zN H' s' hD g' BI⟩
noncomputable def ck (ln:bU):bU:={ ln with b:=ln.b + 1,qs:=ln.qs.tail }
noncomputable def m7 (ln:bU):bU:={ ln with r:=ln.r + 1,b:=ln.b - 1 }
inductive Cy (a:YA)(s:YS):Mv->YS->Prop
 | Aw {k l:Nat} {t:aW} {ln:bU} (ht:s.yZ[k]? = some t) (hg:t.gone ≠ t.len) (hl:l ∈ cz a t) (zE:s.lanes[l]? = some ln) (ho:bY ln.r ln.h k t.gone=true) :
  Cy a s (.Aw k l) (bH (dv s k t) k t.gone l { t with gone:=t.gone + 1 } ln)
 | on {k l m:Nat} {c:Int} {lk ln:bU} {t:aW} (hk:s.lanes[k]? = some lk) (hq:lk.qs.head? = some ((m:Int),c)) (ht:s.yZ[m]? = some t) (hl:l ∈ c3 a s k) (zE:(s.lanes.set k (ck lk))[l]? = some ln) (ho:bY ln.r ln.h m c=true) :
  Cy a s (.on k l) (bH { s with lanes:=s.lanes.set k (ck lk) } m c l t ln)
 | Ar {k m e:Nat} {c:Int} {lk:bU} {t:aW} {qs:List (Int × Int)} (hk:s.lanes[k]? = some lk) (hq:lk.qs.head? = some ((m:Int),c)) (ht:s.yZ[m]? = some t) (hg:t.goal=(e:Int)) (he:(a.ps.getD k (0,0)).2=(e:Int)) (AS:s.lies[e]? = some qs) :
  Cy a s (.Ar k) { s with lanes:=s.lanes.set k (ck lk),lies:=s.lies.set e (qs ++ [((m:Int),c)]) }
 | back {k:Nat} {lk:bU} (hk:s.lanes[k]? = some lk) (hb:0 < lk.b):Cy a s (.back k) { s with lanes:=s.lanes.set k (m7 lk) }
theorem Cy.done {a:YA}{s s':YS}{m:Mv}(h:Cy a s m s'):s'.done=s.done:=by
 cases h<;>rfl
structure Ve (s:YS):Prop where
 q:∀ (k:Nat)(ln:bU),s.lanes[k]? = some ln->ln.qs.length <= 10000
 l:∀ (p:Nat)(qs:List (Int × Int)),s.lies[p]? = some qs->qs.length <= 10000
 d:s.done.length <= 100000
theorem jj {s:YS}{l:Nat}{m c:Int}(h:fV s l m c=true):∃ ln,s.lanes[l]? = some ln/\bY ln.r ln.h m c=true:=by
 unfold fV at h
 cases hl:s.lanes[l]? with
 | none=>rw[hl]at h;cases h
 | some ln=>rw[hl]at h;exact⟨ln,rfl,h⟩
theorem tS {a:YA}{s:YS}{k:Nat}{m:Mv}(h:m ∈ ik a s k):∃ l t ln,m = .Aw k l/\s.yZ[k]? = some t/\t.gone ≠ t.len/\l ∈ cz a t/\s.lanes[l]? = some ln/\bY ln.r ln.h k t.gone=true:=by
 unfold ik at h
 cases ht:s.yZ[k]? with
 | none=>rw[ht]at h;cases h
 | some t =>
  rw[ht]at h
  dsimp only at h
  by_cases hg:t.gone=t.len
  ·rw[if_pos hg]at h;cases h
  rw[if_neg hg]at h
  obtain⟨l,hl,rfl⟩:=mem_map.mp h
  obtain⟨h1,h2⟩:=mem_filter.mp hl
  obtain⟨ln,h3,h4⟩:=jj h2
  exact⟨l,t,ln,rfl,rfl,hg,h1,h3,h4⟩
theorem tR {a:YA}{s:YS}{k:Nat}{m:Mv}(h:m ∈ i9 a s k):∃ l q lk ln,m = .on k l/\s.lanes[k]? = some lk/\lk.qs.head? = some q/\l ∈ c3 a s k/\s.lanes[l]? = some ln/\bY ln.r ln.h q.1 q.2=true:=by
 unfold i9 at h
 cases hq:bO s k with
 | none=>rw[hq]at h;cases h
 | some q =>
  rw[hq]at h
  dsimp only at h
  obtain⟨l,hl,rfl⟩:=mem_map.mp h
  obtain⟨h1,h2⟩:=mem_filter.mp hl
  obtain⟨ln,h3,h4⟩:=jj h2
  unfold bO at hq
  cases hk:s.lanes[k]? with
  | none=>rw[hk]at hq;cases hq
  | some lk=>rw[hk]at hq;exact⟨l,q,lk,ln,rfl,rfl,hq,h1,h3,h4⟩
theorem p6 {a:YA}{s:YS}{k:Nat}{m:Mv}(h:m ∈ eY a s k):∃ q lk t,m = .Ar k/\s.lanes[k]? = some lk/\lk.qs.head? = some q/\s.yZ[q.1.toNat]? = some t/\t.goal=(a.ps.getD k (0,0)).2:=by
 unfold eY at h
 cases hq:bO s k with
 | none=>rw[hq]at h;cases h
 | some q =>
  rw[hq]at h
  dsimp only at h
  cases ht:s.yZ[q.1.toNat]? with
  | none=>rw[ht]at h;cases h
  | some t =>
   rw[ht]at h
   dsimp only at h
   by_cases hg:t.goal=(a.ps.getD k (0,0)).2
   ·rw[if_pos hg]at h
    have hm:m = .Ar k:=by simpa using h
    unfold bO at hq
    cases hk:s.lanes[k]? with
    | none=>rw[hk]at hq;cases hq
    | some lk=>rw[hk]at hq;exact⟨q,lk,t,hm,rfl,hq,ht,hg⟩
   ·rw[if_neg hg]at h;cases h
theorem mz {s:YS}{k:Nat}{m:Mv}(h:m ∈ dC s k):∃ lk,m = .back k/\s.lanes[k]? = some lk/\0 < lk.b:=by
 unfold dC at h
 cases hk:s.lanes[k]? with
 | none=>rw[hk]at h;cases h
 | some lk =>
  rw[hk]at h
  dsimp only at h
  by_cases hb:0 < lk.b
  ·rw[if_pos hb]at h;exact⟨lk,by simpa using h,rfl,hb⟩
  ·rw[if_neg hb]at h;cases h
theorem q5 {a:YA}{s:YS}{m:Mv}(h:m ∈ dD a s):wT s m/\m ∈ pA a s m:=by
 unfold dD at h
 rw[mem_append,mem_append,mem_append]at h
 rcases h with ((h | h) | h) | h
 ·obtain⟨k,hk,h⟩:=mem_flatMap.mp h
  obtain⟨l,t,ln,rfl,_⟩:=tS h
  exact⟨mem_range.mp hk,h⟩
 ·obtain⟨k,hk,h⟩:=mem_flatMap.mp h
  obtain⟨l,q,lk,ln,rfl,_⟩:=tR h
  exact⟨mem_range.mp hk,h⟩
 ·obtain⟨k,hk,h⟩:=mem_flatMap.mp h
  obtain⟨q,lk,t,rfl,_⟩:=p6 h
  exact⟨mem_range.mp hk,h⟩
 ·obtain⟨k,hk,h⟩:=mem_flatMap.mp h
  obtain⟨lk,rfl,_⟩:=mz h
  exact⟨mem_range.mp hk,h⟩
noncomputable def uD:Mv->PyData
 | .Aw k l => .tuple [.str "in", .int k, .int l]
 | .on k l => .tuple [.str "on", .int k, .int l]
 | .Ar k => .tuple [.str "lie", .int k]
 | .back k => .tuple [.str "back", .int k]
theorem iD {x:Str}(h:PyData.strOk x=true):By (.str x) 0:=⟨by simp[PyData.canLay0,h],by simp[PyData.depth]⟩
theorem kG (m:Mv):By (uD m) 1:=by
 cases m<;>refine jI (m:=0) fun y hy=>?_<;>simp only[mem_cons,not_mem_nil,or_false]at hy
 ·rcases hy with rfl | rfl | rfl
  ·exact iD (by decide +kernel)
  ·exact c5 _
  ·exact c5 _
 ·rcases hy with rfl | rfl | rfl
  ·exact iD (by decide +kernel)
  ·exact c5 _
  ·exact c5 _
 ·rcases hy with rfl | rfl
  ·exact iD (by decide +kernel)
  ·exact c5 _
 ·rcases hy with rfl | rfl
  ·exact iD (by decide +kernel)
  ·exact c5 _
theorem uo {K:Frag}{H:Hp}{p:Addr}(m:Mv)(h:H p=some (.tup (eG m))):lu K H (.ref p) (uD m):=by
 cases m<;>refine .tup (zh.of h) ?_
 ·exact .cons (.str _) (.cons (.int _) (.cons (.int _) .nil))
 ·exact .cons (.str _) (.cons (.int _) (.cons (.int _) .nil))
 ·exact .cons (.str _) (.cons (.int _) .nil)
 ·exact .cons (.str _) (.cons (.int _) .nil)
theorem lp {K:Frag}{H:Hp}:∀ {vs:List V}{ms:List Mv},Paired (AE H) vs (ms.map eG)->j7 K H vs (ms.map uD)
 | [],[],_ => .nil
 | _ :: _,m :: ms, .cons ⟨t,e,h⟩ r=>by subst e;exact .cons (uo m h) (lp r)
 | [],_ :: _,h=>by cases h
 | _ :: _,[],h=>by cases h
theorem yS {m:Mv}{ms:List Mv}(h:m ∈ ms):((ms.map uD).any fun y=>PyData.eqv y (uD m))=true:=by
 rw[List.any_eq_true]
 exact⟨uD m,mem_map.mpr ⟨m,h,rfl⟩,SeqAt.eqv_refl _ (kG m).1⟩
noncomputable def Lv (K:Frag)(c:Cs)(TC:Addr)(J:TJ)(ys:Ys):Sp:=fun vs H Q _=>∃ (a:YA)(s:YS)(p:Addr)(m:Mv),vs=[.ref a.y, .ref p]/\Eo K c TC J ys H a s/\H p=some (.tup (eG m))/\m ∈ dD a s/\Ve s /\
 ∀ (H':Hp)(s':YS),Cy a s m s'->zk a.four H H'->An K ys H' a { s' with done:=s.done ++ [eG m] }->Q .zt H'
structure Vf (P:Program)(w:World)(K:Frag)(mg:Str->Option Value)(base:Heap)(c:Cs)(TC:Addr)(J:TJ)(ys:Ys)(nm:Addr)(fk fg fe fp fb fy:Addr)(dk dg de dp db dy:FuncData):Prop where
 mk':bA K ys.zd "moves_like" fk
 bk:Binds K dk ["self", "move"] []
 Gk:zb P w K mg base aG 7 fk dk ["self", "move"] (rH K c TC J ys)
 mg':bA K ys.zd "go_in" fg
 bg:Binds K dg ["self", "number", "lane"] []
 Gg:zb P w K mg base aG 6 fg dg ["self", "number", "lane"] (rP K ys)
 me:bA K ys.zd "enter" fe
 be:Binds K de ["self", "piece", "lane"] []
 Ge:zb P w K mg base aG 5 fe de ["self", "piece", "lane"] (kD K ys)
 mp:bA K ys.zB "pull" fp
 bp:Binds K dp ["self"] []
 Gp:zb P w K mg base (eE P w) 1 fp dp ["self"] (nq ys.zB nm)
 mb:bA K ys.zB "bring" fb
 bb:Binds K db ["self"] []
 Gb:zb P w K mg base (eE P w) 1 fb db ["self"] (oW ys.zB nm)
 my:bA K ys.zd "lay" fy
 QJ:Binds K dy ["self", "piece", "place"] []
 Gy:zb P w K mg base aG 1 fy dy ["self", "piece", "place"] (wK K ys)
theorem QK:ap ["self", "move"] ["self", "move"] (aj P8):=L2.zF
theorem Lw {c:Cs}{ys:Ys}{J:TJ}{TC nm f fw fl ft fpu fk fg fe fp fb fy Vg:Addr}{fd dw dl dt dpu dk dg de dp db dy den:FuncData}(F:zA K "do" "Yard.do" P8 f fd)(Y:i7 K ys)(L:lw K c)(W:Wy K TC fw dw J)(Ex:Kp K mg nm)(O:Own P w K mg base ys nm fl ft fpu dl dt dpu)
  (D:Vf P w K mg base c TC J ys nm fk fg fe fp fb fy dk dg de dp db dy) (Me:w8 K c Vg den) (Gen:zb P w K mg base aG 1 Vg den ["self", "lane"] (n8 c Prod.snd)) :
  zb P w K mg base (eE P w) 8 f fd ["self", "move"] (Lv K c TC J ys):=by
 refine F.Ej QK (fun vs H Q E h=>?_) (fun cdv A outer s H vs Q E hr h=>?_)
 ·obtain⟨a,s,p,m,rfl,_⟩:=h
  rfl
 ·obtain⟨a,st,p,m,rfl,hI,hp,hm,hS,q⟩:=h
  have hu:=hr.units
  have zU:zm 1 _:=hr.mono (by decide)
  have BY:zm 4 _:=hr.mono (by decide)
  have Lx:zm 5 _:=hr.mono (by decide)
  have hr6:zm 6 _:=hr.mono (by decide)
  refine⟨_,af (aO (av (qk hu) (pv 1) (aB (pv 0) Y.cl D.mk' D.Gk hr D.bk .nil aq (aa (pv 1) ad)) (by with_unfolding_all rfl)) (ai (b8 rfl Ex.x aN (cf Ex.x Ex.k rfl rfl Ex.m (aa bu ad)))) aI)
   (af (pb (aO (av bz (aw aA (pv 1) ak (fun _ _=>rfl)) bu (az _))
    (ai (aQ (aB (pv 0) Y.cl D.mg' D.Gg hr6 D.bg .nil aq (aa (aw aA (pv 1) ak (fun _ _=>rfl)) (aa (aw aA (pv 1) ak (fun _ _=>rfl)) ad)))))
    (ai (aO (av bz (aw aA (pv 1) ak (fun _ _=>rfl)) bu (az _))
     (ai (aQ (aB (pv 0) Y.cl D.me D.Ge Lx D.be .nil aq (aa (ci (aB (pv 0) Y.cl O.ml O.Gl BY O.bl .nil aq (aa (aw aA (pv 1) ak (fun _ _=>rfl)) ad)) Y.L.cl D.mp D.Gp zU D.bp .nil (Ba.passes aN rfl)) (aa (aw aA (pv 1) ak (fun _ _=>rfl)) ad)))))
     (ai (aO (av bz (aw aA (pv 1) ak (fun _ _=>rfl)) bu (az _))
      (ai (aQ (aB (pv 0) Y.cl D.my D.Gy zU D.QJ .nil aq (aa (ci (aB (pv 0) Y.cl O.ml O.Gl BY O.bl .nil aq (aa (aw aA (pv 1) ak (fun _ _=>rfl)) ad)) Y.L.cl D.mp D.Gp zU D.bp .nil (Ba.passes aN rfl)) (aa (aB (ao (ao (pv 0) rfl) rfl) L.cl Me.m Gen zU Me.b .nil aq (aa (aw aA (pv 1) ak (fun _ _=>rfl)) ad)) ad)))))
      (ai (aQ (ci (aB (pv 0) Y.cl O.ml O.Gl BY O.bl .nil aq (aa (aw aA (pv 1) ak (fun _ _=>rfl)) ad)) Y.L.cl D.mb D.Gb zU D.bb .nil (Ba.passes aN rfl))))))))))
   (ai (aQ (c4 plainAttrs_list PySem.F.slot_list_append PySem.F.type_list_append bN (ao (pv 0) rfl) (aa (pv 1) ad))))),?_⟩
  obtain⟨zg,CI⟩:=q5 hm
  refine⟨_,rfl,_,rfl,a.y,a.dy,_,rfl,hI.Y.ins,rfl,_,rfl,a,st,p,m,rfl,hI,hp,zg,fun Dl zN H1 s1 hDl gDl hpr=>?_⟩
  refine⟨Dl,zN,uD m,(pA a st m).map uD,rfl,uo m (s1 _ _ hp),zf.of gDl,lp hpr,(kG m).le (by decide),fun z hz=>by obtain⟨m',_,rfl⟩:=mem_map.mp hz;exact(kG m').le (by decide),_,rfl,?_⟩
  rw[yS CI]
  refine aH ?_
  have Dq:=hI.same W s1
  have zG:=s1 _ _ hp
  have hY:=Dq.Y
  refine⟨fun σ' H'=>σ' = start ["self", "move"] [.ref a.y, .ref p]/\∃ s',Cy a st m s'/\zk a.four H1 H'/\An K ys H' a s',?_,?_⟩
  ·
   have DX:∀ (k:Nat)(lk:bU)(pq:Int × Int),st.lanes[k]? = some lk->lk.qs.head? = some pq->∀ (zo:List V),H1 a.la=some (.lst zo)->∀ (x dx pa:Addr)(zx:List V)(H2:Hp),zk [a.la] H1 H2->H1 x=none->H1 pa=none->H2 a.la=some (.lst (zo.set k (.ref x)))->zw H2 ys.zB x dx pa lk.r lk.b lk.h zx lk.qs ->
     ∀ (Q':VK)(E':XK),(∀ (v:V)(H3:Hp),wz H3 v pq->zk [a.la] H1 H3->An K ys H3 a { st with lanes:=st.lanes.set k (ck lk) }->Q' v H3)->nq ys.zB nm [.ref x] H2 Q' E':=by
    intro k lk pq hk hq zo zX x dx pa zx H2 o2 nx np g2 Bu Q' E' hQ
    refine⟨x,dx,pa,lk.r,lk.b,lk.h,zx,lk.qs,rfl,Bu,fun e0=>?_,fun v rest ev H3 o3 BL=>?_⟩
    ·exfalso
     have hl:=Paired.length Bu.Aq
     rw[e0]at hl
     cases AS:lk.qs with
     | nil=>rw[AS]at hq;cases hq
     | cons _ _=>rw[AS]at hl;cases hl
    ·have o4:zk [a.la] H1 H3:=fun b o nb e=>o3 b o (ah e nx) (ah e np) (o2 b o nb e)
     refine hQ v H3 ?_ o4 (An.BP hY zX o4 (k:=k) (x:=x) (dx:=dx) (pa:=pa) (o3 _ _ (ah zX nx) (ah zX np) g2) (ln:=ck lk) BL np)
     have hz:=Av.Dj o3 Bu.ins Bu.lst Bu.Aq
     rw[ev]at hz
     cases AS:lk.qs with
     | nil=>rw[AS]at hq;cases hq
     | cons q0 r0 =>
      rw[AS]at hq hz
      cases hq
      cases hz with
      | cons z _=>exact z
   obtain⟨zo,zX,D8⟩:=hY.AJ
   have p3:∀ {H3:Hp}{ex:List Addr}{xs:List V},H1 p=some (.tup xs)->zk ex H1 H3->(∀ b ∈ ex,b ∈ a.four)->H3 p=some (.tup xs):=fun h o he=>o _ _ (fun z=>by obtain⟨xs,hz⟩:=hY.Ct _ (he _ z);rw[h]at hz;cases hz) h
   cases m with
   | Aw k l =>
    have zG:H1 p=some (.tup [.str "in", .int k, .int l]):=zG
    obtain⟨l',t,ln,e0,ht,hg,hl,zE,ho⟩:=tS (show Mv.Aw k l ∈ ik a st k from CI)
    cases e0
    refine⟨_,rfl,p,_,0,_,rfl,rfl,zh.of zG,al (j:=0) rfl,rfl,_,rfl,?_⟩
    rw[iw]
    refine aK ⟨_,rfl,a.y,a.dy,_,rfl,hY.ins,rfl,_,rfl,p,_,1,_,rfl,rfl,zh.of zG,al (j:=1) rfl,_,rfl,p,_,2,_,rfl,rfl,zh.of zG,al (j:=2) rfl,a,st,k,l,t,ln,rfl,hY,ht,zE,ho,(hI.G.Ao k t ht).2,lt_of_le_of_lt (hS.q l ln zE) (by decide),fun H' o' Hv=>⟨rfl,_,Cy.Aw ht hg hl zE ho,o'.mono (by simp),Hv⟩⟩
   | on k l =>
    have zG:H1 p=some (.tup [.str "on", .int k, .int l]):=zG
    obtain⟨l',pq,lk,ln,e0,hk,hq,hl,zE,ho⟩:=tR (show Mv.on k l ∈ i9 a st k from CI)
    cases e0
    obtain⟨m,t,em,ht,ES⟩:=hI.G.Aq k lk hk pq (mem_of_head? hq)
    obtain⟨m0,cq⟩:=pq
    have em:m0=(m:Int):=em
    subst em
    refine⟨_,rfl,p,_,0,_,rfl,rfl,zh.of zG,al (j:=0) rfl,rfl,_,rfl,?_⟩
    rw[fS (by decide +kernel)]
    refine aH ⟨_,rfl,p,_,0,_,rfl,rfl,zh.of zG,al (j:=0) rfl,rfl,_,rfl,?_⟩
    rw[iw]
    refine aK ⟨_,rfl,a.y,a.dy,_,rfl,hY.ins,rfl,_,rfl,a.y,a.dy,_,rfl,hY.ins,rfl,_,rfl,p,_,1,_,rfl,rfl,zh.of zG,al (j:=1) rfl,a,st,k,lk,zo,rfl,hY,hk,zX,fun x dx pa zx H2 o2 nx np g2 Bu=>⟨x,dx,_,rfl,Bu.ins,rfl,DX k lk _ hk hq zo zX x dx pa zx H2 o2 nx np g2 Bu _ _ fun v H3 hv o3 B4=>?_⟩⟩
    have Il:=p3 zG o3 (by simp)
    have AY:k < st.lanes.length:=(List.getElem?_eq_some_iff.mp hk).1
    obtain⟨ln2,Ly,er,eh,eq⟩:∃ ln2,(st.lanes.set k (ck lk))[l]? = some ln2/\ln2.r=ln.r/\ln2.h=ln.h/\ln2.qs.length <= 10000:=by
     by_cases Lz:k=l
     ·subst Lz
      rw[hk]at zE
      cases zE
      refine⟨ck lk,by simp[AY],rfl,rfl,?_⟩
      have:=hS.q k lk hk
      show lk.qs.tail.length <= 10000
      rw[List.length_tail];omega
     ·exact⟨ln,by rw[List.getElem?_set_ne Lz];exact zE,rfl,rfl,hS.q l ln zE⟩
    have AG:bY ln2.r ln2.h m cq=true:=by rw[er,eh];exact ho
    refine⟨_,rfl,p,_,2,_,rfl,rfl,zh.of Il,al (j:=2) rfl,a,{ st with lanes:=st.lanes.set k (ck lk) },v,m,cq,l,t,ln2,rfl,B4,hv,ht,Ly,AG,(hI.G.Ao m t ht).2,lt_of_le_of_lt eq (by decide),fun H' o' Hv=>⟨rfl,_,Cy.on hk hq ht hl Ly AG,(o3.mono (by simp)).trans (o'.mono (by simp)),Hv⟩⟩
   | Ar k =>
    have zG:H1 p=some (.tup [.str "lie", .int k]):=zG
    obtain⟨pq,lk,t0,e0,hk,hq,FO,hg⟩:=p6 (show Mv.Ar k ∈ eY a st k from CI)
    obtain⟨m,t,em,ht,ES⟩:=hI.G.Aq k lk hk pq (mem_of_head? hq)
    obtain⟨m0,cq⟩:=pq
    have em:m0=(m:Int):=em
    subst em
    have FO:st.yZ[m]? = some t0:=by rw[← FO];rfl
    rw[ht]at FO
    cases FO
    have AY:k < st.lanes.length:=(List.getElem?_eq_some_iff.mp hk).1
    have Iu:k < a.ps.length:=by rw[← hI.G.lanes];exact AY
    have he:=List.getElem?_eq_getElem Iu
    have FQ:a.ps.getD k (0,0)=a.ps[k]:=by rw[getD_eq_getElem?_getD,he];rfl
    obtain⟨e,ee,Lr⟩:=hI.O.ends k _ he
    rw[FQ,ee]at hg
    have FR:e < st.lies.length:=by rw[hI.G.lies];exact Lr
    have AS:=List.getElem?_eq_getElem FR
    refine⟨_,rfl,p,_,0,_,rfl,rfl,zh.of zG,al (j:=0) rfl,rfl,_,rfl,?_⟩
    rw[fS (by decide +kernel)]
    refine aH ⟨_,rfl,p,_,0,_,rfl,rfl,zh.of zG,al (j:=0) rfl,rfl,_,rfl,?_⟩
    rw[fS (by decide +kernel)]
    refine aH ⟨_,rfl,p,_,0,_,rfl,rfl,zh.of zG,al (j:=0) rfl,rfl,_,rfl,?_⟩
    rw[iw]
    refine aK ⟨_,rfl,a.y,a.dy,_,rfl,hY.ins,rfl,_,rfl,a.y,a.dy,_,rfl,hY.ins,rfl,_,rfl,p,_,1,_,rfl,rfl,zh.of zG,al (j:=1) rfl,a,st,k,lk,zo,rfl,hY,hk,zX,fun x dx pa zx H2 o2 nx np g2 Bu=>⟨x,dx,_,rfl,Bu.ins,rfl,DX k lk _ hk hq zo zX x dx pa zx H2 o2 nx np g2 Bu _ _ fun v H3 hv o3 B4=>?_⟩⟩
    have Il:=p3 zG o3 (by simp)
    have DQ:Lg c TC J H3 a:=AX.keep W Dq.T (zk.zz (fun b hb=>by simp at hb;subst hb;exact⟨_,zX⟩) o3)
    obtain⟨Cu,fst,Ca,zS,Bc⟩:=DQ.i
    refine⟨_,rfl,a.y,ys.zd,a.dy,_,_,rfl,B4.ins,Y.cl,Y.n1,rfl,a.tb,TC,Cu,fst,_,rfl,Ca,W.cl,W.nl,zS,a.lx,a.zD,_,rfl,DQ.l.1,rfl,_,rfl,p,_,1,_,rfl,rfl,zh.of Il,al (j:=1) rfl,a.lx,a.zD,a.lt,(a.n:Int),a.zi,a.ps,k,_,rfl,DQ.l,he,?_⟩
    rw[ee]
    exact⟨a,{ st with lanes:=st.lanes.set k (ck lk) },v,((m:Int),cq),e,_,rfl,B4,hv,AS,le_trans (hS.l e _ AS) (by decide),fun H' o' Hv=>⟨rfl,_,Cy.Ar hk hq ht hg (by rw[FQ,ee]) AS,(o3.mono (by simp)).trans (o'.mono (by simp)),Hv⟩⟩
   | back k =>
    have zG:H1 p=some (.tup [.str "back", .int k]):=zG
    obtain⟨lk,e0,hk,hb⟩:=mz (show Mv.back k ∈ dC st k from CI)
    refine⟨_,rfl,p,_,0,_,rfl,rfl,zh.of zG,al (j:=0) rfl,rfl,_,rfl,?_⟩
    rw[fS (by decide +kernel)]
    refine aH ⟨_,rfl,p,_,0,_,rfl,rfl,zh.of zG,al (j:=0) rfl,rfl,_,rfl,?_⟩
    rw[fS (by decide +kernel)]
    refine aH ⟨_,rfl,p,_,0,_,rfl,rfl,zh.of zG,al (j:=0) rfl,rfl,_,rfl,?_⟩
    rw[fS (by decide +kernel)]
    refine aH ⟨_,rfl,a.y,a.dy,_,rfl,hY.ins,rfl,_,rfl,p,_,1,_,rfl,rfl,zh.of zG,al (j:=1) rfl,a,st,k,lk,zo,rfl,hY,hk,zX,fun x dx pa zx H2 o2 nx np g2 Bu=>⟨x,dx,_,rfl,Bu.ins,rfl,x,dx,pa,lk.r,lk.b,lk.h,zx,lk.qs,rfl,Bu,(fun e0=>by rw[e0]at hb;exact absurd hb (by decide)),fun _ H3 o3 BL=>?_⟩⟩
    have o4:zk [a.la] H1 H3:=fun b o nb e=>o3 b o (ah e nx) (ah e np) (o2 b o nb e)
    exact⟨rfl,_,Cy.back hk hb,o4.mono (by simp),An.BP hY zX o4 (k:=k) (x:=x) (dx:=dx) (pa:=pa) (o3 _ _ (ah zX nx) (ah zX np) g2) (ln:=m7 lk) BL np⟩
  ·rintro σ' H2 ⟨rfl,s',hs,o2,C2⟩
   obtain⟨Ai,FH,pd⟩:=C2.BA
   have Ii:Ai.length=st.done.length:=by rw[Paired.length pd,hs.done]
   have D5:H2 p=some (.tup (eG m)):=o2 _ _ (fun z=>by obtain⟨xs,hz⟩:=hY.Ct _ z;rw[zG]at hz;cases hz) zG
   have hd:=hS.d
   refine⟨_,rfl,a.y,ys.zd,a.dy,_,_,rfl,C2.ins,Y.cl,Y.n6,rfl, .inl ⟨rfl,_,zf.of FH⟩,_,rfl,a.dn,_,_,rfl,rfl,FH,by rw[sizeLine_eq];omega,?_⟩
   have B4:=C2.FF FH ⟨p,rfl,D5⟩
   rw[hs.done]at B4
   exact q _ s' hs ((za.zJ s1).trans (o2.trans (cv (by simp)))) B4
theorem aV {α:Type}{L:List α}{k j:Nat}{y z:α}(h:(L.set k y)[j]? = some z):(j=k/\z=y)∨(j ≠ k/\L[j]? = some z):=by
 by_cases e:k=j
 ·subst e
  rw[List.getElem?_set_self']at h
  cases hk:L[k]? with
  | none=>rw[hk]at h;cases h
  | some x=>rw[hk]at h;cases h;exact .inl ⟨rfl,rfl⟩
 ·rw[List.getElem?_set_ne e]at h
  exact .inr ⟨Ne.symm e,h⟩
theorem dj {α:Type}{L:List α}{k:Nat}{x y:α}(h:L[k]? = some x):(L.set k y)[k]? = some y:=by
 have:=(List.getElem?_eq_some_iff.mp h).1
 simp[this]
theorem eL {α:Type}(f:α->Nat):∀ {L:List α}{k:Nat}{x y:α},L[k]? = some x->((L.set k y).map f).sum + f x=(L.map f).sum + f y
 | [],_,_,_,h=>by cases h
 | z :: L,0,x,y,h=>by cases h;simp only[List.set_cons_zero,map_cons,sum_cons];omega
 | z :: L,k + 1,x,y,h=>by
  have:=eL f (L:=L) (k:=k) (x:=x) (y:=y) h
  simp only[List.set_cons_succ,map_cons,sum_cons];omega
theorem iV {α:Type}(f:α->Int):∀ {L:List α}{k:Nat}{x y:α},L[k]? = some x->((L.set k y).map f).sum + f x=(L.map f).sum + f y
 | [],_,_,_,h=>by cases h
 | z :: L,0,x,y,h=>by cases h;simp only[List.set_cons_zero,map_cons,sum_cons];omega
 | z :: L,k + 1,x,y,h=>by
  have:=iV f (L:=L) (k:=k) (x:=x) (y:=y) h
  simp only[List.set_cons_succ,map_cons,sum_cons];omega
noncomputable def mB (a:YA)(l:Nat):Int:=(a.ps.getD l (0,0)).2
noncomputable def j9 (s:YS):Nat:=(s.lanes.map fun ln=>ln.qs.length).sum
noncomputable def i8 (s:YS):Nat:=(s.lies.map fun qs=>qs.length).sum
noncomputable def gh (s:YS):Int:=(s.yZ.map fun t=>t.gone).sum
structure NA (a:YA)(s:YS)(m:Nat)(c:Int):Prop where
 lanes:s.lanes.length=a.ps.length
 lies:s.lies.length=a.n
 Ad:s.yZ.length <= 60
 DY:a.ps.length <= 40
 lets:∀ (m:Nat)(t:aW),s.yZ[m]? = some t->∃ x y:Nat,t.start=(x:Int)/\t.goal=(y:Int)/\x < a.n/\y < a.n
 Ao:∀ (m:Nat)(t:aW),s.yZ[m]? = some t->(∀ l ∈ t.way,l < a.ps.length)/\t.way.Nodup
 Aq:∀ (k:Nat)(ln:bU),s.lanes[k]? = some ln->∀ q ∈ ln.qs,∃ (m:Nat)(t:aW),q.1=(m:Int)/\s.yZ[m]? = some t/\k ∈ t.way
 Bk:∀ (m:Nat)(t:aW),s.yZ[m]? = some t->0 <= t.gone/\t.gone <= t.len/\t.len <= 60
 Aa:∀ (m':Nat)(t:aW),s.yZ[m']? = some t->t.gone=0->t.way=[]/\m' ≠ m
 last:∀ (m:Nat)(t:aW),s.yZ[m]? = some t->∀ (i l:Nat),t.way[i]? = some l->mB a l=t.goal->i + 1=t.way.length
 head:∀ (m':Nat)(t:aW),s.yZ[m']? = some t->∀ (l:Nat)(ln:bU),t.way.getLast? = some l->s.lanes[l]? = some ln->(m' = m/\c=0)∨((m':Int),(0:Int)) ∈ ln.qs∨mB a l=t.goal
 first:∀ (k:Nat)(ln:bU),s.lanes[k]? = some ln->∀ (i j:Nat)(z:Int)(q:Int × Int),ln.qs[i]? = some (z,0)->j < i->ln.qs[j]? = some q->q.1 ≠ z
 D9:∀ (k:Nat)(ln:bU),s.lanes[k]? = some ln->∀ (m':Nat)(t:aW),((m':Int),(0:Int)) ∈ ln.qs->s.yZ[m']? = some t->t.way.getLast? = some k
 gone:c=0->∀ (k:Nat)(ln:bU),s.lanes[k]? = some ln->((m:Int),(0:Int)) ∉ ln.qs
 sum:(j9 s:Int) + (i8 s:Int) + 1=gh s
structure AK (a:YA)(s:YS):Prop where
 lanes:s.lanes.length=a.ps.length
 lies:s.lies.length=a.n
 Ad:s.yZ.length <= 60
 DY:a.ps.length <= 40
 lets:∀ (m:Nat)(t:aW),s.yZ[m]? = some t->∃ x y:Nat,t.start=(x:Int)/\t.goal=(y:Int)/\x < a.n/\y < a.n
 Ao:∀ (m:Nat)(t:aW),s.yZ[m]? = some t->(∀ l ∈ t.way,l < a.ps.length)/\t.way.Nodup
 Aq:∀ (k:Nat)(ln:bU),s.lanes[k]? = some ln->∀ q ∈ ln.qs,∃ (m:Nat)(t:aW),q.1=(m:Int)/\s.yZ[m]? = some t/\k ∈ t.way
 Bk:∀ (m:Nat)(t:aW),s.yZ[m]? = some t->0 <= t.gone/\t.gone <= t.len/\t.len <= 60
 Aa:∀ (m':Nat)(t:aW),s.yZ[m']? = some t->t.gone=0->t.way=[]
 last:∀ (m:Nat)(t:aW),s.yZ[m]? = some t->∀ (i l:Nat),t.way[i]? = some l->mB a l=t.goal->i + 1=t.way.length
 head:∀ (m':Nat)(t:aW),s.yZ[m']? = some t->∀ (l:Nat)(ln:bU),t.way.getLast? = some l->s.lanes[l]? = some ln->((m':Int),(0:Int)) ∈ ln.qs∨mB a l=t.goal
 first:∀ (k:Nat)(ln:bU),s.lanes[k]? = some ln->∀ (i j:Nat)(z:Int)(q:Int × Int),ln.qs[i]? = some (z,0)->j < i->ln.qs[j]? = some q->q.1 ≠ z
 D9:∀ (k:Nat)(ln:bU),s.lanes[k]? = some ln->∀ (m':Nat)(t:aW),((m':Int),(0:Int)) ∈ ln.qs->s.yZ[m']? = some t->t.way.getLast? = some k
 sum:(j9 s:Int) + (i8 s:Int)=gh s
theorem dN:∀ (n:Nat)(l:List Nat),l.Nodup->(∀ x ∈ l,x < n)->l.length <= n
 | 0,l,_,h=>by
  cases l with
  | nil=>exact Nat.le_refl _
  | cons x _=>exact absurd (h x mem_cons_self) (by omega)
 | n + 1,l,hn,h=>by
  have h1:=dN n (l.filter fun x=>decide (x ≠ n)) (hn.filter _) fun x hx=>by
   obtain⟨a,b⟩:=mem_filter.mp hx
   have:=h x a
   have:=of_decide_eq_true b
   omega
  have h2:l.length <= (l.filter fun x=>decide (x ≠ n)).length + 1:=by
   clear h1 h
   induction l with
   | nil=>exact zero_le _
   | cons x l ih =>
    rw[nodup_cons]at hn
    by_cases e:x=n
    ·subst e
     have:(l.filter fun y=>decide (y ≠ x))=l:=List.filter_eq_self.mpr fun y hy=>decide_eq_true fun z=>hn.1 (z ▸ hy)
     rw[filter_cons_of_neg (by simp),this]
     exact Nat.le_refl _
    ·rw[filter_cons_of_pos (by simpa using e)]
     have:=ih hn.2
     simp only[length_cons]
     omega
  omega
theorem AK.ok {a:YA}{s:YS}(h:AK a s):Qv a s:=⟨h.lanes,h.lies,h.lets,fun m t ht=>⟨(h.Ao m t ht).1,by have:=dN _ _ (h.Ao m t ht).2 (h.Ao m t ht).1;have:=h.DY;omega⟩,h.Aq,h.Ad⟩
theorem tQ {α:Type}{x:α}{l:List α}(h:x ∈ l.tail):x ∈ l:=List.mem_of_mem_tail h
theorem ua {α:Type}{l:List α}{x:α}(h:l.head? = some x):l[0]? = some x:=by cases l with
 | nil=>cases h
 | cons y r=>exact h
theorem p7 {α:Type}{l:List α}{x:α}(h:x ∈ l):∃ i:Nat,l[i]? = some x:=by
 obtain⟨i,hi,e⟩:=List.getElem_of_mem h
 exact⟨i,by rw[List.getElem?_eq_getElem hi,e]⟩
theorem l8 {α:Type}(l:List α)(i:Nat):l.tail[i]? = l[i + 1]?:=by cases l with
 | nil=>simp
 | cons y r=>rfl
theorem mj {a:YA}{s:YS}{k m:Nat}{c:Int}{lk:bU}(J:AK a s)(hk:s.lanes[k]? = some lk)(hq:lk.qs.head? = some ((m:Int),c)):NA a { s with lanes:=s.lanes.set k (ck lk) } m c:=by
 have h0:=ua hq
 have Aw:∀ (j:Nat)(zK:bU),(s.lanes.set k (ck lk))[j]? = some zK->∃ ln,s.lanes[j]? = some ln/\(∀ q ∈ zK.qs,q ∈ ln.qs)/\∃ d,(∀ i,zK.qs[i]? = ln.qs[i + d]?)/\(zK.qs=ln.qs∨(j=k/\ln=lk/\zK.qs=lk.qs.tail)):=fun j zK h=>by
  rcases aV h with ⟨rfl,rfl⟩ | ⟨ne,h⟩
  ·exact⟨lk,hk,fun q hq=>tQ hq,1,fun i=>l8 _ i, .inr ⟨rfl,rfl,rfl⟩⟩
  ·exact⟨zK,h,fun q hq=>hq,0,fun i=>rfl, .inl rfl⟩
 have keep:∀ (j:Nat)(ln:bU),s.lanes[j]? = some ln->∃ zK,(s.lanes.set k (ck lk))[j]? = some zK/\∀ q ∈ ln.qs,q=((m:Int),c)∨q ∈ zK.qs:=fun j ln h=>by
  by_cases e:j=k
  ·subst e
   rw[hk]at h
   cases h
   refine⟨ck lk,dj hk,fun q BG=>?_⟩
   show _∨q ∈ lk.qs.tail
   cases hl:lk.qs with
   | nil=>rw[hl]at hq;cases hq
   | cons z r =>
    rw[hl]at hq BG
    cases hq
    exact(mem_cons.mp BG).imp id id
  ·exact⟨ln,by rw[List.getElem?_set_ne (Ne.symm e)];exact h,fun q hq => .inr hq⟩
 refine⟨by rw[← J.lanes];simp,J.lies,J.Ad,J.DY,J.lets,J.Ao,?_,J.Bk,?_,J.last,?_,?_,?_,?_,?_⟩
 ·intro j zK h q BG
  obtain⟨ln,hj,h1,_⟩:=Aw j zK h
  exact J.Aq j ln hj q (h1 q BG)
 ·intro m' t ht hg
  refine⟨J.Aa m' t ht hg,fun e=>?_⟩
  subst e
  obtain⟨m2,t2,e2,EU,Iw⟩:=J.Aq k lk hk _ (mem_of_head? hq)
  have:m' = m2:=by have:(m':Int)=(m2:Int):=e2;omega
  subst this
  rw[ht]at EU
  cases EU
  rw[J.Aa m' t ht hg]at Iw
  cases Iw
 ·intro m' t ht l zK hl AB
  obtain⟨ln,hj,h1,_⟩:=Aw l zK AB
  rcases J.head m' t ht l ln hl hj with h | h
  ·obtain⟨ln2,h2,h3⟩:=keep l ln hj
   have h2:{ s with lanes:=s.lanes.set k (ck lk) }.lanes[l]? = some ln2:=h2
   rw[AB]at h2
   cases h2
   rcases h3 _ h with e | h
   ·injection e with e1 e2
    exact .inl ⟨by omega,e2.symm⟩
   ·exact .inr (.inl h)
  ·exact .inr (.inr h)
 ·intro j zK h i i' z q hi zL BG
  obtain⟨ln,hj,_,d,h2,_⟩:=Aw j zK h
  rw[h2]at hi BG
  exact J.first j ln hj (i + d) (i' + d) z q hi (by omega) BG
 ·intro j zK h m' t Fw ht
  obtain⟨ln,hj,h1,_⟩:=Aw j zK h
  exact J.D9 j ln hj m' t (h1 _ Fw) ht
 ·intro e0 j zK h Fw
  subst e0
  obtain⟨ln,hj,h1,d,h2,h3⟩:=Aw j zK h
  obtain⟨m2,t2,e2,EU,_⟩:=J.Aq k lk hk _ (mem_of_head? hq)
  have:m=m2:=by have:(m:Int)=(m2:Int):=e2;omega
  subst this
  have b1:=J.D9 k lk hk m t2 (mem_of_head? hq) EU
  have b2:=J.D9 j ln hj m t2 (h1 _ Fw) EU
  rw[b1]at b2
  have b2:=Option.some.inj b2
  subst b2
  rcases aV h with ⟨_,rfl⟩ | ⟨ne,_⟩
  ·obtain⟨i,hi⟩:=p7 Fw
   have hi:lk.qs.tail[i]? = some ((m:Int),0):=hi
   rw[l8]at hi
   exact J.first k lk hk (i + 1) 0 _ _ hi (by omega) h0 rfl
  ·exact ne rfl
 ·have:=eL (fun ln:bU=>ln.qs.length) (y:=ck lk) hk
  have hl:(ck lk).qs.length + 1=lk.qs.length:=by
   show lk.qs.tail.length + 1=_
   cases hl:lk.qs with
   | nil=>rw[hl]at hq;cases hq
   | cons _ _=>rfl
  have h1:=J.sum
  unfold j9 at h1 ⊢
  show((((s.lanes.set k (ck lk)).map fun ln=>ln.qs.length).sum:Nat):Int) + (i8 s:Int) + 1=gh s
  omega
theorem tP {a:YA}{s:YS}{k:Nat}{t:aW}(J:AK a s)(ht:s.yZ[k]? = some t)(hg:t.gone ≠ t.len):NA a (dv s k t) k t.gone:=by
 have g0:=J.Bk k t ht
 have lk:∀ (m:Nat)(t':aW),(s.yZ.set k { t with gone:=t.gone + 1 })[m]? = some t'->∃ t0,s.yZ[m]? = some t0/\t'.start=t0.start/\t'.goal=t0.goal/\t'.way=t0.way/\t'.len=t0.len/\((m=k/\t'.gone=t.gone + 1)∨(m ≠ k/\t'.gone=t0.gone)):=fun m t' h=>by
  rcases aV h with ⟨rfl,rfl⟩ | ⟨ne,h⟩
  ·exact⟨t,ht,rfl,rfl,rfl,rfl, .inl ⟨rfl,rfl⟩⟩
  ·exact⟨t',h,rfl,rfl,rfl,rfl, .inr ⟨ne,rfl⟩⟩
 refine⟨J.lanes,J.lies,by show(s.yZ.set _ _).length <= 60;rw[length_set];exact J.Ad,J.DY,?_,?_,?_,?_,?_,?_,?_,J.first,?_,?_,?_⟩
 ·intro m t' h
  obtain⟨t0,h0,e1,e2,_⟩:=lk m t' h
  rw[e1,e2];exact J.lets m t0 h0
 ·intro m t' h
  obtain⟨t0,h0,e1,e2,e3,_⟩:=lk m t' h
  rw[e3];exact J.Ao m t0 h0
 ·intro j ln h q hq
  obtain⟨m,t0,e,h0,hj⟩:=J.Aq j ln h q hq
  by_cases em:m=k
  ·subst em
   rw[ht]at h0
   cases h0
   exact⟨m,_,e,dj ht,hj⟩
  ·exact⟨m,t0,e,by show(s.yZ.set _ _)[m]? = _;rw[List.getElem?_set_ne (Ne.symm em)];exact h0,hj⟩
 ·intro m t' h
  obtain⟨t0,h0,e1,e2,e3,e4,e5⟩:=lk m t' h
  have:=J.Bk m t0 h0
  rcases e5 with ⟨rfl,e5⟩ | ⟨_,e5⟩
  ·rw[ht]at h0
   cases h0
   rw[e4,e5];omega
  ·rw[e4,e5];exact this
 ·intro m t' h hz
  obtain⟨t0,h0,e1,e2,e3,e4,e5⟩:=lk m t' h
  rcases e5 with ⟨rfl,e5⟩ | ⟨ne,e5⟩
  ·omega
  ·rw[e3];exact⟨J.Aa m t0 h0 (by omega),ne⟩
 ·intro m t' h i l hi hl
  obtain⟨t0,h0,e1,e2,e3,e4,e5⟩:=lk m t' h
  rw[e3]at hi ⊢
  rw[e2]at hl
  exact J.last m t0 h0 i l hi hl
 ·intro m t' h l ln hl zE
  obtain⟨t0,h0,e1,e2,e3,e4,e5⟩:=lk m t' h
  rw[e3]at hl
  rw[e2]
  exact .inr (J.head m t0 h0 l ln hl zE)
 ·intro j ln h m t' hm h'
  obtain⟨t0,h0,e1,e2,e3,e4,e5⟩:=lk m t' h'
  rw[e3]
  exact J.D9 j ln h m t0 hm h0
 ·intro e0 j ln h hm
  obtain⟨m,t0,e,h0,hj⟩:=J.Aq j ln h _ hm
  have:k=m:=by have:(k:Int)=(m:Int):=e;omega
  subst this
  rw[ht]at h0
  cases h0
  rw[J.Aa k t ht e0]at hj
  cases hj
 ·have:=iV (fun t:aW=>t.gone) (y:={ t with gone:=t.gone + 1 }) ht
  have h1:=J.sum
  unfold gh at h1 ⊢
  show (j9 s:Int) + (i8 s:Int) + 1=((s.yZ.set k { t with gone:=t.gone + 1 }).map fun t=>t.gone).sum
  have:({ t with gone:=t.gone + 1 }:aW).gone=t.gone + 1:=rfl
  omega
theorem tW {l:List Nat}{x:Nat}(h:l.getLast? = some x):l[l.length - 1]? = some x:=by rw[← h,List.getLast?_eq_getElem?]
theorem jQ {a:YA}{s:YS}{m l:Nat}{c:Int}{t:aW}{ln:bU}(M:NA a s m c)(ht:s.yZ[m]? = some t)(zE:s.lanes[l]? = some ln)(h0:c=0->l ∉ t.way/\∀ x ∈ t.way,mB a x ≠ t.goal)(h1:c ≠ 0->l ∈ t.way):AK a (bH s m c l t ln):=by
 have En:l < a.ps.length:=by rw[← M.lanes];exact(List.getElem?_eq_some_iff.mp zE).1
 have lk:∀ (m':Nat)(t':aW),(bH s m c l t ln).yZ[m']? = some t'->∃ t0,s.yZ[m']? = some t0/\t'.start=t0.start/\t'.goal=t0.goal/\t'.len=t0.len/\t'.gone=t0.gone/\((c=0/\m' = m/\t0=t/\t'.way=t.way ++ [l])∨(¬ (c=0/\m' = m)/\t'.way=t0.way)):=fun m' t' h=>by
  have h:(if c=0 then s.yZ.set m { t with way:=t.way ++ [l] } else s.yZ)[m']? = some t':=h
  by_cases hc:c=0
  ·rw[if_pos hc]at h
   rcases aV h with ⟨rfl,rfl⟩ | ⟨ne,h⟩
   ·exact⟨t,ht,rfl,rfl,rfl,rfl, .inl ⟨hc,rfl,rfl,rfl⟩⟩
   ·exact⟨t',h,rfl,rfl,rfl,rfl, .inr ⟨fun z=>ne z.2,rfl⟩⟩
  ·rw[if_neg hc]at h
   exact⟨t',h,rfl,rfl,rfl,rfl, .inr ⟨fun z=>hc z.1,rfl⟩⟩
 have Vh:∀ (m':Nat)(t0:aW),s.yZ[m']? = some t0->∃ t',(bH s m c l t ln).yZ[m']? = some t'/\(∀ x ∈ t0.way,x ∈ t'.way)/\(m' = m->l ∈ t'.way):=fun m' t0 h=>by
  by_cases hc:c=0
  ·by_cases e:m' = m
   ·subst e
    rw[ht]at h
    cases h
    refine⟨{ t with way:=t.way ++ [l] },by show(if c=0 then s.yZ.set m' { t with way:=t.way ++ [l] } else s.yZ)[m']? = _;rw[if_pos hc];exact dj ht,fun x hx=>mem_append_left _ hx,fun _=>by show l ∈ t.way ++ [l];simp⟩
   ·exact⟨t0,by show(if c=0 then s.yZ.set m { t with way:=t.way ++ [l] } else s.yZ)[m']? = _;rw[if_pos hc,List.getElem?_set_ne (Ne.symm e)];exact h,fun x hx=>hx,fun z=>absurd z e⟩
  ·refine⟨t0,by show(if c=0 then s.yZ.set m { t with way:=t.way ++ [l] } else s.yZ)[m']? = _;rw[if_neg hc];exact h,fun x hx=>hx,fun z=>?_⟩
   subst z
   rw[ht]at h
   cases h
   exact h1 hc
 have zK:∀ (j:Nat)(l':bU),(bH s m c l t ln).lanes[j]? = some l'->(j=l/\l'.qs=ln.qs ++ [((m:Int),c)])∨(j ≠ l/\s.lanes[j]? = some l'):=fun j l' h=>by
  rcases aV h with ⟨rfl,rfl⟩ | ⟨ne,h⟩
  ·exact .inl ⟨rfl,rfl⟩
  ·exact .inr ⟨ne,h⟩
 have old:∀ (j:Nat)(l':bU),(bH s m c l t ln).lanes[j]? = some l'->∀ q ∈ l'.qs,(j=l/\q=((m:Int),c))∨∃ l0,s.lanes[j]? = some l0/\q ∈ l0.qs:=fun j l' h q hq=>by
  rcases zK j l' h with ⟨rfl,e⟩ | ⟨ne,h⟩
  ·rw[e,mem_append]at hq
   rcases hq with hq | hq
   ·exact .inr ⟨ln,zE,hq⟩
   ·exact .inl ⟨rfl,by simpa using hq⟩
  ·exact .inr ⟨l',h,hq⟩
 refine⟨by rw[← M.lanes];show(s.lanes.set _ _).length=_;simp,M.lies,?_,M.DY,?_,?_,?_,?_,?_,?_,?_,?_,?_,?_⟩
 ·show(if c=0 then s.yZ.set m { t with way:=t.way ++ [l] } else s.yZ).length <= 60
  by_cases hc:c=0
  ·rw[if_pos hc,length_set];exact M.Ad
  ·rw[if_neg hc];exact M.Ad
 ·intro m' t' h
  obtain⟨t0,h2,e1,e2,_⟩:=lk m' t' h
  rw[e1,e2];exact M.lets m' t0 h2
 ·intro m' t' h
  obtain⟨t0,h2,_,_,_,_,e⟩:=lk m' t' h
  obtain⟨w1,w2⟩:=M.Ao m' t0 h2
  rcases e with ⟨hc,rfl,rfl,e⟩ | ⟨_,e⟩
  ·rw[e]
   refine⟨fun x hx=>?_,?_⟩
   ·rcases mem_append.mp hx with hx | hx
    ·exact w1 x hx
    ·rw[mem_singleton.mp hx];exact En
   ·rw[nodup_append]
    exact⟨w2,by simp,fun x hx y hy=>by rw[mem_singleton.mp hy];exact fun z=>(h0 hc).1 (z ▸ hx)⟩
  ·rw[e];exact⟨w1,w2⟩
 ·intro j l' h q hq
  rcases old j l' h q hq with ⟨rfl,rfl⟩ | ⟨l0,h2,hq⟩
  ·obtain⟨t',h3,_,h4⟩:=Vh m t ht
   exact⟨m,t',rfl,h3,h4 rfl⟩
  ·obtain⟨m',t0,e,h3,hj⟩:=M.Aq j l0 h2 q hq
   obtain⟨t',h4,h5,_⟩:=Vh m' t0 h3
   exact⟨m',t',e,h4,h5 j hj⟩
 ·intro m' t' h
  obtain⟨t0,h2,_,_,e3,e4,_⟩:=lk m' t' h
  rw[e3,e4];exact M.Bk m' t0 h2
 ·intro m' t' h hz
  obtain⟨t0,h2,_,_,_,e4,e⟩:=lk m' t' h
  rw[e4]at hz
  obtain⟨w1,w2⟩:=M.Aa m' t0 h2 hz
  rcases e with ⟨hc,rfl,_⟩ | ⟨_,e⟩
  ·exact absurd rfl w2
  ·rw[e];exact w1
 ·intro m' t' h i x hi hx
  obtain⟨t0,h2,_,e2,_,_,e⟩:=lk m' t' h
  rw[e2]at hx
  rcases e with ⟨hc,rfl,rfl,e⟩ | ⟨_,e⟩
  ·rw[e]at hi ⊢
   by_cases zL:i < t0.way.length
   ·rw[List.getElem?_append_left zL]at hi
    exact absurd hx ((h0 hc).2 x (mem_of_getElem? hi))
   ·have:=(List.getElem?_eq_some_iff.mp hi).1
    rw[length_append,length_singleton]at this ⊢
    omega
  ·rw[e]at hi ⊢
   exact M.last m' t0 h2 i x hi hx
 ·intro m' t' h x l' hx Bh
  obtain⟨t0,h2,_,e2,_,_,e⟩:=lk m' t' h
  rcases e with ⟨hc,rfl,rfl,e⟩ | ⟨ne,e⟩
  ·rw[e]at hx
   have hx:l=x:=by simpa using hx
   subst hx
   rcases zK l l' Bh with ⟨_,e'⟩ | ⟨ne,_⟩
   ·left
    rw[e',hc];simp
   ·exact absurd rfl ne
  ·rw[e]at hx
   rcases zK x l' Bh with ⟨rfl,e'⟩ | ⟨ne',h'⟩
   ·rcases M.head m' t0 h2 x ln hx zE with z | z | z
    ·exact absurd ⟨z.2,z.1⟩ ne
    ·exact .inl (by rw[e'];exact mem_append_left _ z)
    ·rw[e2];exact .inr z
   ·rcases M.head m' t0 h2 x l' hx h' with z | z | z
    ·exact absurd ⟨z.2,z.1⟩ ne
    ·exact .inl z
    ·rw[e2];exact .inr z
 ·intro j l' h i i' z q hi zL hq
  rcases zK j l' h with ⟨rfl,e⟩ | ⟨_,h'⟩
  ·rw[e]at hi hq
   by_cases E4:i < ln.qs.length
   ·rw[List.getElem?_append_left E4]at hi
    rw[List.getElem?_append_left (by omega)]at hq
    exact M.first j ln zE i i' z q hi zL hq
   ·have h3:=(List.getElem?_eq_some_iff.mp hi).1
    rw[length_append,length_singleton]at h3
    have ei:i=ln.qs.length:=by omega
    subst ei
    rw[List.getElem?_concat_length]at hi
    have hi:=Option.some.inj hi
    injection hi with e1 e2
    subst e1
    rw[List.getElem?_append_left zL]at hq
    intro ez
    obtain⟨m',t0,e3,h4,h5⟩:=M.Aq j ln zE q (mem_of_getElem? hq)
    have em0:(m':Int)=(m:Int):=by rw[← e3];exact ez
    have:m=m':=by omega
    subst this
    rw[ht]at h4
    cases h4
    exact(h0 e2).1 h5
  ·exact M.first j l' h' i i' z q hi zL hq
 ·intro j l' h m' t' hm h'
  obtain⟨t0,h2,_,_,_,_,e⟩:=lk m' t' h'
  rcases old j l' h _ hm with ⟨rfl,e'⟩ | ⟨l0,h3,hm⟩
  ·injection e' with e1 e2
   have em:m' = m:=by omega
   subst em
   rcases e with ⟨_,_,_,e⟩ | ⟨ne,_⟩
   ·rw[e];simp
   ·exact absurd ⟨e2.symm,rfl⟩ ne
  ·rcases e with ⟨hc,rfl,rfl,e⟩ | ⟨ne,e⟩
   ·exact absurd hm (M.gone hc j l0 h3)
   ·rw[e];exact M.D9 j l0 h3 m' t0 hm h2
 ·have q1:=eL (fun ln:bU=>ln.qs.length) (y:=gm ln m c t.len) zE
  have q2:(gm ln m c t.len).qs.length=ln.qs.length + 1:=by show(ln.qs ++ [_]).length=_;simp
  have q3:gh (bH s m c l t ln)=gh s:=by
   unfold gh
   show((if c=0 then s.yZ.set m { t with way:=t.way ++ [l] } else s.yZ).map fun t=>t.gone).sum=_
   by_cases hc:c=0
   ·rw[if_pos hc]
    have:=iV (fun t:aW=>t.gone) (y:={ t with way:=t.way ++ [l] }) ht
    have e:({ t with way:=t.way ++ [l] }:aW).gone=t.gone:=rfl
    omega
   ·rw[if_neg hc]
  have h2:=M.sum
  rw[q3]
  unfold j9 at h2 ⊢
  show((((s.lanes.set l (gm ln m c t.len)).map fun ln=>ln.qs.length).sum:Nat):Int) + (i8 s:Int)=gh s
  omega
theorem vM {a:YA}{s:YS}{m e:Nat}{c:Int}{t:aW}{qs:List (Int × Int)}(M:NA a s m c)(ht:s.yZ[m]? = some t)(AS:s.lies[e]? = some qs)(h0:c=0->∀ x,t.way.getLast? = some x->mB a x=t.goal):AK a { s with lies:=s.lies.set e (qs ++ [((m:Int),c)]) }:=by
 refine⟨M.lanes,by show(s.lies.set _ _).length=_;rw[length_set];exact M.lies,M.Ad,M.DY,M.lets,M.Ao,M.Aq,M.Bk,fun m' t' h z=>(M.Aa m' t' h z).1,M.last,?_,M.first,M.D9,?_⟩
 ·intro m' t' h x l' hx Bh
  rcases M.head m' t' h x l' hx Bh with ⟨rfl,hc⟩ | z | z
  ·have h:s.yZ[m']? = some t':=h
   rw[ht]at h
   cases h
   exact .inr (h0 hc x hx)
  ·exact .inl z
  ·exact .inr z
 ·have:=eL (fun qs:List (Int × Int)=>qs.length) (y:=qs ++ [((m:Int),c)]) AS
  have h2:=M.sum
  unfold i8 at h2 ⊢
  show (j9 s:Int) + ((((s.lies.set e (qs ++ [((m:Int),c)])).map fun qs=>qs.length).sum:Nat):Int)=gh s
  rw[length_append,length_singleton]at this
  omega
theorem AK.back {a:YA}{s:YS}{k:Nat}{lk L0:bU}(J:AK a s)(hk:s.lanes[k]? = some lk)(e:L0.qs=lk.qs):AK a { s with lanes:=s.lanes.set k L0 }:=by
 have Aw:∀ (j:Nat)(l':bU),(s.lanes.set k L0)[j]? = some l'->∃ l0,s.lanes[j]? = some l0/\l'.qs=l0.qs:=fun j l' h=>by
  rcases aV h with ⟨rfl,rfl⟩ | ⟨_,h⟩
  ·exact⟨lk,hk,e⟩
  ·exact⟨l',h,rfl⟩
 refine⟨by rw[← J.lanes];simp,J.lies,J.Ad,J.DY,J.lets,J.Ao,?_,J.Bk,J.Aa,J.last,?_,?_,?_,?_⟩
 ·intro j l' h q hq
  obtain⟨l0,h0,e0⟩:=Aw j l' h
  rw[e0]at hq
  exact J.Aq j l0 h0 q hq
 ·intro m t ht x l' hx Bh
  obtain⟨l0,h0,e0⟩:=Aw x l' Bh
  rw[e0]
  exact J.head m t ht x l0 hx h0
 ·intro j l' h
  obtain⟨l0,h0,e0⟩:=Aw j l' h
  rw[e0]
  exact J.first j l0 h0
 ·intro j l' h
  obtain⟨l0,h0,e0⟩:=Aw j l' h
  rw[e0]
  exact J.D9 j l0 h0
 ·have:=eL (fun ln:bU=>ln.qs.length) (y:=L0) hk
  have h1:=J.sum
  have e':=congrArg List.length e
  unfold j9 at h1 ⊢
  show((((s.lanes.set k L0).map fun ln=>ln.qs.length).sum:Nat):Int) + (i8 s:Int)=gh s
  omega
theorem AK.step {a:YA}{s s':YS}{m:Mv}(J:AK a s)(h:Cy a s m s'):AK a s':=by
 cases h with
 | @Aw k l t ln ht hg hl zE ho =>
  have M:=tP J ht hg
  refine jQ (t:={ t with gone:=t.gone + 1 }) M (dj ht) zE (fun hc=>?_) (fun hc=>?_)
  ·have hw:=J.Aa k t ht hc
   show l ∉ t.way/\∀ x ∈ t.way,mB a x ≠ t.goal
   rw[hw]
   exact⟨by simp,by simp⟩
  ·unfold cz at hl
   rw[if_neg hc]at hl
   exact mem_of_mem_take hl
 | @on k l m c lk ln t hk hq ht hl zE ho =>
  have M:=mj J hk hq
  have hw:c3 a s k=if c=0 then (pw a k t.goal.toNat).filter (fun l=>!decide (l ∈ t.way)) else (t.way.drop (t.way.idxOf k + 1)).take 1:=by
   unfold c3 bO
   rw[hk]
   dsimp only
   rw[hq]
   dsimp only
   rw[toNat_natCast,ht]
  rw[hw]at hl
  refine jQ M ht zE (fun hc=>?_) (fun hc=>?_)
  ·rw[if_pos hc]at hl
   obtain⟨h1,h2⟩:=mem_filter.mp hl
   refine⟨by simpa using h2,fun x hx ex=>?_⟩
   subst hc
   obtain⟨i,hi⟩:=p7 hx
   have h3:=J.last m t ht i x hi ex
   have h4:=J.D9 k lk hk m t (mem_of_head? hq) ht
   have h5:=tW h4
   rw[show t.way.length - 1=i by omega,hi]at h5
   have h5:=Option.some.inj h5
   subst h5
   unfold pw at h1
   obtain⟨x0,y0,e1,e2,_,_⟩:=J.lets m t ht
   rw[if_pos (by show mB a x=_;rw[ex,e2,toNat_natCast])]at h1
   cases h1
  ·rw[if_neg hc]at hl
   exact List.mem_of_mem_drop (mem_of_mem_take hl)
 | @Ar k m e c lk t qs hk hq ht hg he AS =>
  have M:=mj J hk hq
  have:=vM (s:={ s with lanes:=s.lanes.set k (ck lk) }) M ht AS (fun hc x hx=>?_)
  ·exact this
  ·subst hc
   have h4:=J.D9 k lk hk m t (mem_of_head? hq) ht
   rw[h4]at hx
   have hx:=Option.some.inj hx
   subst hx
   show(a.ps.getD k (0,0)).2=t.goal
   rw[he,hg]
 | @back k lk hk hb=>exact J.back hk rfl
noncomputable def rm (s:YS):Int:=(s.yZ.map fun t=>t.len).sum
theorem oK {α:Type}(f g:α->Int):∀ {L:List α},(∀ (m:Nat)(t:α),L[m]? = some t->f t <= g t)->(L.map f).sum <= (L.map g).sum
 | [],_=>by simp
 | x :: L,h=>by
  have h1:=h 0 x rfl
  have h2:=oK f g (L:=L) fun m t ht=>h (m + 1) t ht
  simp only[map_cons,sum_cons];omega
theorem jF {α:Type}(g:α->Int):∀ {L:List α},(∀ (m:Nat)(t:α),L[m]? = some t->g t <= 60)->(L.map g).sum <= 60 * L.length
 | [],_=>by simp
 | x :: L,h=>by
  have h1:=h 0 x rfl
  have h2:=jF g (L:=L) fun m t ht=>h (m + 1) t ht
  simp only[map_cons,sum_cons,length_cons];omega
theorem AK.FU {a:YA}{s:YS}(J:AK a s):(i8 s:Int) <= rm s/\(j9 s:Int) + (i8 s:Int) <= 3600:=by
 have h1:=oK (fun t:aW=>t.gone) (fun t=>t.len) (L:=s.yZ) fun m t ht=>(J.Bk m t ht).2.1
 have h2:=J.sum
 have h3:=jF (fun t:aW=>t.len) (L:=s.yZ) fun m t ht=>(J.Bk m t ht).2.2
 have h4:=J.Ad
 unfold gh at h2
 unfold rm
 omega
theorem gQ {α:Type}(f:α->Nat):∀ {L:List α}{k:Nat}{x:α},L[k]? = some x->f x <= (L.map f).sum
 | [],_,_,h=>by cases h
 | z :: L,0,x,h=>by cases h;simp only[map_cons,sum_cons];omega
 | z :: L,k + 1,x,h=>by
  have:=gQ f (L:=L) (k:=k) (x:=x) h
  simp only[map_cons,sum_cons];omega
theorem AK.sml {a:YA}{s:YS}(J:AK a s)(hd:s.done.length <= 100000):Ve s:=by
 have h:=J.FU.2
 refine⟨fun k ln hk=>?_,fun p qs hp=>?_,hd⟩
 ·have:=gQ (fun ln:bU=>ln.qs.length) hk
  unfold j9 at h
  omega
 ·have:=gQ (fun qs:List (Int × Int)=>qs.length) hp
  unfold i8 at h
  omega
abbrev Es:=List (Nat × Nat)
noncomputable def lk (fs:Es)(p:Nat):Option Nat:=(fs.find? fun x=>decide (x.1=p)).map (·.2)
theorem gR {fs:Es}{p d:Nat}(h:lk fs p=some d):(p,d) ∈ fs:=by
 unfold lk at h
 cases e:fs.find? (fun x=>decide (x.1=p)) with
 | none=>rw[e]at h;cases h
 | some x =>
  rw[e]at h
  have h1:=List.find?_some e
  have h2:=List.mem_of_find?_eq_some e
  have h3:x.2=d:=Option.some.inj h
  have h4:x.1=p:=of_decide_eq_true h1
  rw[← h3,← h4];exact h2
theorem BQ {fs:Es}{p:Nat}:lk fs p=none↔p ∉ fs.map (·.1):=by
 unfold lk
 rw[Option.map_eq_none_iff,List.find?_eq_none]
 constructor
 ·intro h m
  obtain⟨x,hx,e⟩:=mem_map.mp m
  exact h x hx (decide_eq_true e)
 ·intro h x hx e
  exact h (mem_map.mpr ⟨x,hx,of_decide_eq_true e⟩)
theorem im {fs:Es}(hn:(fs.map (·.1)).Nodup){p d:Nat}(h:(p,d) ∈ fs):lk fs p=some d:=by
 cases e:lk fs p with
 | none=>exact absurd (mem_map.mpr ⟨_,h,rfl⟩) (BQ.mp e)
 | some d' =>
  have h':=gR e
  have:∀ {l:Es},(l.map (·.1)).Nodup->(p,d) ∈ l->(p,d') ∈ l->d' = d:=by
   intro l
   induction l with
   | nil=>intro _ h;cases h
   | cons x l ih =>
    intro hn h1 h2
    rw[map_cons,nodup_cons]at hn
    rcases mem_cons.mp h1 with h1 | h1
    ·rcases mem_cons.mp h2 with h2 | h2
     ·rw[← h1]at h2;exact(Prod.mk.inj h2).2
     ·exact absurd (mem_map.mpr ⟨_,h2,by rw[← h1]⟩) hn.1
    ·rcases mem_cons.mp h2 with h2 | h2
     ·exact absurd (mem_map.mpr ⟨_,h1,by rw[← h2]⟩) hn.1
     ·exact ih hn.2 h1 h2
  rw[this hn h h']
theorem gP:∀ (n:Nat)(l:List Nat),l.Nodup->(∀ x ∈ l,x < n)->l.length <= n
 | 0,l,_,h=>by
  cases l with
  | nil=>exact Nat.le_refl _
  | cons x l=>exact absurd (h x mem_cons_self) (not_lt_zero _)
 | n + 1,l,hn,h=>by
  by_cases hm:n ∈ l
  ·have e:=List.length_erase_of_mem hm
   have:=gP n (l.erase n) (hn.erase n) fun x hx=>by
    have BW:=(hn.mem_erase_iff).mp hx
    have:=h x BW.2
    have:=BW.1
    omega
   omega
  ·have:=gP n l hn fun x hx=>by
    have:=h x hx
    have:x ≠ n:=fun z=>hm (by rw[← z];exact hx)
    omega
   omega
structure CT (n:Nat)(es:Es)(g:Nat)(fs:Es)(i:Nat):Prop where
 nd:(fs.map (·.1)).Nodup
 lt:∀ x ∈ fs,x.1 < n
 g0:(g,0) ∈ fs
 up:∀ p d,(p,d) ∈ fs->(p=g/\d=0)∨∃ q d',d=d' + 1/\(q,d') ∈ fs/\(p,q) ∈ es
 sorted:fs.Pairwise fun x y=>x.2 <= y.2
 near:∀ y,fs[i]? = some y->∀ x ∈ fs,x.2 <= y.2 + 1
 cl:∀ k q d:Nat,k < i->fs[k]? = some (q,d)->∀ s,(s,q) ∈ es->∃ d',(s,d') ∈ fs/\d' <= d + 1
 ix:∀ j p d:Nat,fs[j]? = some (p,d)->d <= j
 le:i <= fs.length
theorem CT.Ad {n:Nat}{es:Es}{g:Nat}{fs:Es}{i:Nat}(b:CT n es g fs i):fs.length <= n:=by
 have:=gP n (fs.map (·.1)) b.nd fun x hx=>by
  obtain⟨y,hy,rfl⟩:=mem_map.mp hx
  exact b.lt y hy
 rwa [length_map]at this
theorem qU {n:Nat}{es:Es}{g:Nat}(hg:g < n):CT n es g [(g,0)] 0 where
 nd:=by simp
 lt:=fun x hx=>by rw[mem_singleton.mp hx];exact hg
 g0:=mem_singleton.mpr rfl
 up:=fun p d h=>by
  have:=mem_singleton.mp h
  exact .inl (Prod.mk.inj this)
 sorted:=by simp
 near:=fun y hy x hx=>by rw[mem_singleton.mp hx];exact zero_le _
 cl:=fun k _ _ h=>absurd h (not_lt_zero _)
 ix:=fun j p d h=>by
  cases j with
  | zero=>have:=Option.some.inj h;have:=(Prod.mk.inj this).2;omega
  | succ j=>simp at h
 le:=zero_le _
theorem CT.push {n:Nat}{es:Es}{g:Nat}{fs:Es}{i s p d:Nat}(b:CT n es g fs i)(hy:fs[i]? = some (p,d))(hs:s < n)(hl:(s,p) ∈ es)(hn:lk fs s=none):CT n es g (fs ++ [(s,d + 1)]) i where
 nd:=by
  rw[map_append,nodup_append]
  refine⟨b.nd,by simp,fun a ha c hc=>?_⟩
  have hc:c=s:=by simpa using hc
  intro z
  rw[z,hc]at ha
  exact BQ.mp hn ha
 lt:=fun x hx=>by
  rcases mem_append.mp hx with h | h
  ·exact b.lt x h
  ·rw[mem_singleton.mp h];exact hs
 g0:=mem_append_left _ b.g0
 up:=fun q e h=>by
  rcases mem_append.mp h with h | h
  ·rcases b.up q e h with h | ⟨q',d',h1,h2,h3⟩
   ·exact .inl h
   ·exact .inr ⟨q',d',h1,mem_append_left _ h2,h3⟩
  ·obtain⟨h1,h2⟩:=Prod.mk.inj (mem_singleton.mp h)
   subst h1 h2
   exact .inr ⟨p,d,rfl,mem_append_left _ (mem_of_getElem? hy),hl⟩
 sorted:=by
  rw[List.pairwise_append]
  refine⟨b.sorted,by simp,fun x hx y hy'=>?_⟩
  rw[mem_singleton.mp hy']
  exact b.near _ hy x hx
 near:=fun y hy' x hx=>by
  have hi:i < fs.length:=(List.getElem?_eq_some_iff.mp hy).1
  rw[List.getElem?_append_left hi,hy]at hy'
  rw[← Option.some.inj hy']
  rcases mem_append.mp hx with h | h
  ·exact b.near _ hy x h
  ·rw[mem_singleton.mp h];exact Nat.le_refl _
 cl:=fun k q e hk hq t ht=>by
  have hi:i < fs.length:=(List.getElem?_eq_some_iff.mp hy).1
  rw[List.getElem?_append_left (by omega)]at hq
  obtain⟨d',h1,h2⟩:=b.cl k q e hk hq t ht
  exact⟨d',mem_append_left _ h1,h2⟩
 ix:=fun j q e h=>by
  have hi:i < fs.length:=(List.getElem?_eq_some_iff.mp hy).1
  have hd:=b.ix i p d hy
  rcases lt_or_ge j fs.length with hj | hj
  ·rw[List.getElem?_append_left hj]at h;exact b.ix j q e h
  ·rw[List.getElem?_append_right hj]at h
   have hj0:j - fs.length=0:=by
    have:=(List.getElem?_eq_some_iff.mp h).1
    simp at this;omega
   rw[hj0]at h
   have:=(Prod.mk.inj (Option.some.inj h)).2
   omega
 le:=le_trans b.le (by rw[length_append];omega)
theorem CT.next {n:Nat}{es:Es}{g:Nat}{fs:Es}{i p d:Nat}(b:CT n es g fs i)(hy:fs[i]? = some (p,d))(hc:∀ s,(s,p) ∈ es->s ∈ fs.map (·.1)):CT n es g fs (i + 1) where
 nd:=b.nd
 lt:=b.lt
 g0:=b.g0
 up:=b.up
 sorted:=b.sorted
 near:=fun y hy' x hx=>by
  have hi:i < fs.length:=(List.getElem?_eq_some_iff.mp hy).1
  have QL:i + 1 < fs.length:=(List.getElem?_eq_some_iff.mp hy').1
  have h1:=b.near _ hy x hx
  have h2:=pairwise_iff_getElem.mp b.sorted i (i + 1) hi QL (lt_succ_self _)
  have e1:fs[i]=(p,d):=(List.getElem?_eq_some_iff.mp hy).2
  have e2:fs[i + 1]=y:=(List.getElem?_eq_some_iff.mp hy').2
  rw[e1,e2]at h2
  have h2:d <= y.2:=h2
  have h1:x.2 <= d + 1:=h1
  omega
 cl:=fun k q e hk hq s hs=>by
  rcases lt_or_ge k i with h | h
  ·exact b.cl k q e h hq s hs
  ·have:k=i:=by omega
   subst this
   rw[hy]at hq
   obtain⟨h1,h2⟩:=Prod.mk.inj (Option.some.inj hq)
   subst h1 h2
   obtain⟨x,hx,e⟩:=mem_map.mp (hc s hs)
   exact⟨x.2,by rw[← e];exact hx,b.near _ hy x hx⟩
 ix:=b.ix
 le:=(List.getElem?_eq_some_iff.mp hy).1
structure yX (n:Nat)(es:Es)(g:Nat)(fs:Es):Prop where
 nd:(fs.map (·.1)).Nodup
 lt:∀ x ∈ fs,x.1 < n
 g0:lk fs g=some 0
 up:∀ p d,lk fs p=some d->(p=g/\d=0)∨∃ q d',d=d' + 1/\lk fs q=some d'/\(p,q) ∈ es
 cl:∀ s q d,(s,q) ∈ es->lk fs q=some d->∃ d',lk fs s=some d'/\d' <= d + 1
 Ad:∀ p d,lk fs p=some d->d < n
theorem CT.Ds {n:Nat}{es:Es}{g:Nat}{fs:Es}(b:CT n es g fs fs.length):yX n es g fs where
 nd:=b.nd
 lt:=b.lt
 g0:=im b.nd b.g0
 up:=fun p d h=>by
  rcases b.up p d (gR h) with h | ⟨q,d',h1,h2,h3⟩
  ·exact .inl h
  ·exact .inr ⟨q,d',h1,im b.nd h2,h3⟩
 cl:=fun s q d hs hq=>by
  obtain⟨k,hk⟩:=List.getElem?_of_mem (gR hq)
  obtain⟨d',h1,h2⟩:=b.cl k q d (List.getElem?_eq_some_iff.mp hk).1 hk s hs
  exact⟨d',im b.nd h1,h2⟩
 Ad:=fun p d h=>by
  obtain⟨k,hk⟩:=List.getElem?_of_mem (gR h)
  have h1:=b.ix k p d hk
  have h2:=(List.getElem?_eq_some_iff.mp hk).1
  have h3:=b.Ad
  omega
noncomputable def fk (x:Nat × Nat):cb × V:=(Sum.inl (x.1:Int),V.int (x.2:Int))
noncomputable def zp (x:Nat × Nat):Int × Int:=((x.1:Int),(x.2:Int))
theorem gA (p:Nat):∀ fs:Es,gB (fs.map fk) (Sum.inl (p:Int))=(lk fs p).map fun d:Nat=>V.int (d:Int)
 | []=>rfl
 | x :: fs=>by
  have ih:=gA p fs
  unfold gB lk at ih ⊢
  rw[map_cons,List.find?_cons,List.find?_cons]
  by_cases h:x.1=p
  ·have h1:(fk x).1=(Sum.inl (p:Int):cb):=by rw[← h];rfl
   rw[decide_eq_true h,decide_eq_true h1];rfl
  ·have h1:¬ (fk x).1=(Sum.inl (p:Int):cb):=fun z=>h (by have:=Sum.inl.inj z;omega)
   rw[decide_eq_false h,decide_eq_false h1];exact ih
theorem xJ {fs:Es}{s d:Nat}(h:lk fs s=none):c7 (fs.map fk) (Sum.inl (s:Int)) (V.int (d:Int))=(fs ++ [(s,d)]).map fk:=by
 rw[sL _ (by rw[gA,h];rfl),map_append];rfl
noncomputable def gU (es:Es)(p:Nat):List Nat:=(List.range es.length).filter fun k=>decide ((es.getD k (0,0)).2=p)
noncomputable def eV (es:Es)(p:Nat):List Nat:=(List.range es.length).filter fun k=>decide ((es.getD k (0,0)).1=p)
theorem oG (es:Es)(k:Nat):(es.map zp).getD k (0,0)=zp (es.getD k (0,0)):=by
 rw[getD_eq_getElem?_getD,getD_eq_getElem?_getD,List.getElem?_map]
 cases es[k]?<;>rfl
theorem L1 (es:Es)(p:Nat):js Prod.snd (es.map zp) (p:Int) (es.map zp).length=nV (gU es p):=by
 unfold js gU nV
 rw[length_map]
 congr 1
 refine filter_congr fun k _=>?_
 rw[oG]
 show decide (((es.getD k (0,0)).2:Int)=(p:Int))=decide ((es.getD k (0,0)).2=p)
 by_cases h:(es.getD k (0,0)).2=p
 ·rw[decide_eq_true h,decide_eq_true (by omega)]
 ·rw[decide_eq_false h,decide_eq_false (by omega)]
theorem xO (es:Es)(p:Nat):js Prod.fst (es.map zp) (p:Int) (es.map zp).length=nV (eV es p):=by
 unfold js eV nV
 rw[length_map]
 congr 1
 refine filter_congr fun k _=>?_
 rw[oG]
 show decide (((es.getD k (0,0)).1:Int)=(p:Int))=decide ((es.getD k (0,0)).1=p)
 by_cases h:(es.getD k (0,0)).1=p
 ·rw[decide_eq_true h,decide_eq_true (by omega)]
 ·rw[decide_eq_false h,decide_eq_false (by omega)]
theorem vh (es:Es)(p:Nat):(eV es p).length <= es.length:=by
 unfold eV
 exact le_trans (length_filter_le _ _) (by rw[length_range];exact Nat.le_refl _)
theorem L4 {es:Es}{p k:Nat}(h:k ∈ gU es p):∃ s,es[k]? = some (s,p)/\es.getD k (0,0)=(s,p):=by
 obtain⟨h1,h2⟩:=mem_filter.mp h
 have hk:=mem_range.mp h1
 have e:=List.getElem?_eq_getElem hk
 have e2:es.getD k (0,0)=es[k]:=by rw[getD_eq_getElem?_getD,e];rfl
 have h2:(es.getD k (0,0)).2=p:=of_decide_eq_true h2
 refine⟨es[k].1,?_,?_⟩
 ·rw[e,← h2,e2]
 ·rw[e2,← h2,e2]
noncomputable def NB (n:Nat)(es:Es):Prop:=∀ e ∈ es,e.1 < n/\e.2 < n
noncomputable def wL (c:Cs):Sp:=fun vs H Q _=>∃ (lx zD lt:Addr)(zi:List V)(n:Nat)(es:Es)(g:Nat),vs=[.ref lx, .int g]/\cu H c lx zD lt (n:Int) zi (es.map zp)/\NB n es/\es.length <= 100/\n <= 100/\g < n /\
 ∀ (fa:Addr)(fs:Es)(H':Hp),za H H'->H fa=none->yX n es g fs->H' fa=some (.dK (fs.map fk))->Q (.ref fa) H'
structure Lm (K:Frag)(c:Cs)(fs fe fo fi:Addr)(ds de do' di:FuncData):Prop where
 ms:bA K c.land "start_of" fs
 bs:Binds K ds ["self", "lane"] []
 me:bA K c.land "end_of" fe
 be:Binds K de ["self", "lane"] []
 mo:bA K c.land "out_of" fo
 bo:Binds K do' ["self", "place"] []
 mi:bA K c.land "into" fi
 bi:Binds K di ["self", "place"] []
abbrev NH:List Str:=["land", "goal", "far", "line", "looked_at", "place", "lane", "start"]
theorem FV:ap NH ["land", "goal"] (aj xD):=L2.zF
theorem yn {c:Cs}{f f1 f2 f3 f4:Addr}{fd d1 d2 d3 d4:FuncData}(F:zA K "how_far" "how_far" xD f fd)(T:fB mg)(L:lw K c)(M:Lm K c f1 f2 f3 f4 d1 d2 d3 d4)
  (Gs:zb P w K mg base aG 1 f1 d1 ["self", "lane"] (n8 c Prod.fst)) (Gi:zb P w K mg base aG 1 f4 d4 ["self", "place"] (qc c Prod.snd)):zb P w K mg base aG 2 f fd ["land", "goal"] (wL c):=by
 refine F.ok FV (fun vs H Q E h=>?_) (fun cdv A outer s H vs Q E hr h=>?_)
 ·obtain⟨lx,zD,lt,zi,n,es,g,rfl,_⟩:=h
  rfl
 ·obtain⟨lx,zD,lt,zi,n,es,g,rfl,hL,Bv,FR,hn,hg,q⟩:=h
  have hu:=jV hr
  refine⟨_,af (aD (i:=2) FV.nd rfl (Or.inl rfl) (vf (sP (pv 1) ak vd) rfl rfl (by intro z;cases z) (by decide)))
   (af (aD (i:=3) FV.nd rfl (Or.inl rfl) (aU (aa (pv 1) ad)))
   (af (aD (i:=4) FV.nd rfl (Or.inl rfl) ak)
   (af (lN PassesOwn.never (av lT (pv 4) (aF ax rfl T.len PySem.boot_len (aa (pv 3) ad)) (az _))
    (af (aD (i:=5) FV.nd rfl (Or.inl rfl) (aw aM (pv 3) (pv 4) (fun _ _=>rfl)))
    (af (xK (i:=4) FV.nd rfl (Or.inl rfl) ak yA)
    (ai (bD PassesOwn.never rfl (bC (aB (pv 0) L.cl M.mi Gi hr M.bi .nil aq (aa (pv 5) ad))) (ay (i:=6) FV.nd rfl (Or.inl rfl))
     (af (aD (i:=7) FV.nd rfl (Or.inl rfl) (aB (pv 0) L.cl M.ms Gs hr M.bs .nil aq (aa (pv 6) ad)))
     (ai (aO (sM (qj hu (pv 7) (pv 2)))
      (af (vc hu (pv 2) (pv 7) (aC bE (pf hu (pv 2) (pv 5) (fun _ _=>rfl)) ak) rfl)
      (ai (aQ (c4 plainAttrs_list PySem.F.slot_list_append PySem.F.type_list_append bN (pv 3) (aa (pv 7) ad))))) aI))))))))
   (ai (ar (pv 2)))))),?_⟩
  have land:∀ {H':Hp},za H H'->cu H' c lx zD lt (n:Int) zi (es.map zp):=fun s'=>⟨s' _ _ hL.1,s' _ _ hL.2.1,zy.same s' hL.2.2⟩
  refine fun fa CU=>⟨_,rfl,ac,[fk (g,0)],rfl,(by show 1 <= 15;decide),?_⟩
  have s0:za H (upd (upd H fa (.dK [])) fa (.dK (eZ [] [fk (g,0)]))):=fun b o e=>by rw[ae (ah e CU),ae (ah e CU)];exact e
  have QM:(upd (upd H fa (.dK [])) fa (.dK (eZ [] [fk (g,0)]))) fa=some (.dK ([(g,0)].map fk)):=ac
  generalize upd (upd H fa (.dK [])) fa (.dK (eZ [] [fk (g,0)]))=H0 at s0 QM ⊢
  refine⟨_,rfl,by show 1 <= sizeLine;decide,fun ln zE=>?_⟩
  have s1:=s0.new (o := .lst [.int g]) zE
  have QN:H ln=none:=s0.free zE
  have N9:(upd H0 ln (.lst [.int g])) ln=some (.lst (nV ([(g,0)].map (·.1)))):=ac
  have Vi:(upd H0 ln (.lst [.int g])) fa=some (.dK ([(g,0)].map fk)):=by rw[ae (ah QM zE)];exact QM
  generalize upd H0 ln (.lst [.int g])=H1 at s1 N9 Vi ⊢
  refine⟨fun m σ H'=>∃ (fs:Es)(i:Nat)(a5 a6 a7:Option V),m=n - i/\CT n es g fs i/\za H H'/\H' fa=some (.dK (fs.map fk))/\H' ln=some (.lst (nV (fs.map (·.1))))/\σ=[some (.ref lx),some (.int g),some (.ref fa),some (.ref ln),some (.int (i:Nat)),a5,a6,a7],
   ⟨n - 0,[(g,0)],0,none,none,none,rfl,qU hg,s1,Vi,N9,rfl⟩,?_⟩
  rintro m σ H2 ⟨fs,i,a5,a6,a7,rfl,hB,s2,gf,gl,rfl⟩
  have C9:=hB.Ad
  refine⟨_,rfl,_,rfl,ln,_,rfl, .inl (zf.of gl),_,_,rfl,rfl,_,rfl,?_⟩
  by_cases hi:i < fs.length
  rotate_left
  ·have e:i=fs.length:=by have:=hB.le;omega
   subst e
   rw[decide_eq_false (by rw[cy,length_map];omega)]
   exact aH ⟨_,rfl,q fa fs H2 s2 CU hB.Ds gf⟩
  rw[decide_eq_true (by rw[cy,length_map];omega)]
  have hy:=List.getElem?_eq_getElem hi
  generalize fs[i]=pd at hy
  obtain⟨p,d⟩:=pd
  have hp:p < n:=hB.lt _ (mem_of_getElem? hy)
  have Aj:(nV (fs.map (·.1)))[i]? = some (.int (p:Int)):=ij (by rw[List.getElem?_map,hy];rfl)
  refine aK ⟨fun σ' H'=>∃ (zO:Es)(a5 a6 a7:Option V),CT n es g zO (i + 1)/\za H H'/\H' fa=some (.dK (zO.map fk))/\H' ln=some (.lst (nV (zO.map (·.1))))/\σ' = [some (.ref lx),some (.int g),some (.ref fa),some (.ref ln),some (.int ((i:Int) + 1)),a5,a6,a7],
   fun σ' H' ⟨zO,a5,a6,a7,h1,h2,h3,h4,h5⟩=>⟨n - (i + 1),by omega,zO,i + 1,a5,a6,a7,rfl,h1,h2,h3,h4,h5⟩,?_⟩
  refine⟨_,rfl,_,rfl,ln,_,_,_,rfl,rfl,zf.of gl,al Aj,?_⟩
  refine⟨_,rfl,_,_,rfl,rfl,?_⟩
  refine⟨_,rfl,lx,zD,_,rfl,(land s2).1,rfl,_,rfl,lx,zD,lt,(n:Int),zi,es.map zp,(p:Int),rfl,land s2,by rw[length_map];omega,fun H3 Ia s3 QO=>?_⟩
  rw[L1]
  have u3:=s3.new (o := .lst (nV (gU es p))) QO
  have gI:(upd H3 Ia (.lst (nV (gU es p)))) Ia=some (.lst (nV (gU es p))):=ac
  have nIl:Ia ≠ ln:=Ne.symm (ah (s3 _ _ gl) QO)
  have nIf:Ia ≠ fa:=Ne.symm (ah (s3 _ _ gf) QO)
  have Vj:ln ≠ fa:=aY gl gf (by intro z;cases z)
  generalize upd H3 Ia (.lst (nV (gU es p)))=H4 at u3 gI ⊢
  refine⟨Ia,rfl,⟨_,zf.of gI⟩,?_⟩
  refine fv (K:=K) (a:=Ia) (xs:=nV (gU es p)) (fun m σ H5=>∃ (zO:Es)(a6 a7:Option V),CT n es g zO i/\zO[i]? = some (p,d)/\(∀ k ∈ (gU es p).take m,(es.getD k (0,0)).1 ∈ zO.map (·.1))/\za H H5/\H5 Ia=some (.lst (nV (gU es p)))/\H5 fa=some (.dK (zO.map fk))/\H5 ln=some (.lst (nV (zO.map (·.1)))) /\
    σ=[some (.ref lx),some (.int g),some (.ref fa),some (.ref ln),some (.int ((i:Int) + 1)),some (.int p),a6,a7])
   ⟨fs,_,_,hB,hy,fun k hk=>by simp at hk,s2.trans u3,gI,u3 _ _ gf,u3 _ _ gl,rfl⟩ (fun m σ H5 _ ⟨_,_,_,_,_,_,_,g5,_⟩=>zf.of g5) ?_ ?_
  ·rintro m v σ H5 hv ⟨zO,a6,a7,Iy,hy',Ak,s5,QP,Iz,NC,rfl⟩
   have hm:m < (gU es p).length:=by have:=(List.getElem?_eq_some_iff.mp hv).1;rw[cy]at this;exact this
   have hk0:=List.getElem?_eq_getElem hm
   have Fi:=ij hk0
   rw[Fi]at hv
   have hv:=Option.some.inj hv
   subst hv
   generalize hke:(gU es p)[m]=k at hk0
   obtain⟨st,hk1,Iw⟩:=L4 (mem_of_getElem? hk0)
   have L5:=mem_of_getElem? hk1
   have B0:=(Bv _ L5).1
   have step:∀ {QQ:Es},(∀ x ∈ zO.map (·.1),x ∈ QQ.map (·.1))->st ∈ QQ.map (·.1)->∀ k ∈ (gU es p).take (m + 1),(es.getD k (0,0)).1 ∈ QQ.map (·.1):=fun JH Hy k' Ke=>by
    rw[take_succ,hk0]at Ke
    rcases mem_append.mp Ke with h | h
    ·exact JH _ (Ak k' h)
    ·have:k' = k:=by simpa using h
     rw[this,Iw];exact Hy
   refine⟨_,rfl,lx,zD,_,rfl,(land s5).1,rfl,_,rfl,lx,zD,lt,(n:Int),zi,es.map zp,k,zp (st,p),rfl,land s5,by rw[List.getElem?_map,hk1];rfl,?_⟩
   refine⟨_,rfl,_,rfl,fa,_,rfl,Bi.k (k:=Sum.inl (st:Int)) Iz,_,rfl,?_⟩
   rw[gA]
   have Vk:=Iy.Ad
   cases CI:lk zO st with
   | some d'=>exact aH ⟨zO,_,_,Iy,hy',step (fun x hx=>hx) (mem_map.mpr ⟨_,gR CI,rfl⟩),s5,QP,Iz,NC,rfl⟩
   | none =>
    refine aK ?_
    refine⟨_,rfl,_,rfl,fa, .int (d:Int),rfl,?_,_,_,rfl,rfl,_,rfl,_,rfl,fa,_,rfl,DL.k (k:=Sum.inl (st:Int)) Iz (by rw[sizeLine_eq,length_map];omega),?_⟩
    ·have:=Bi.k (k:=Sum.inl (p:Int)) Iz
     rw[gA,im Iy.nd (mem_of_getElem? hy')]at this
     exact this
    dsimp only
    have ep:c7 (zO.map fk) (Sum.inl (st:Int)) (V.int ((d:Int) + 1))=(zO ++ [(st,d + 1)]).map fk:=xJ (d:=d + 1) CI
    have Vl:(upd H5 fa (.dK (c7 (zO.map fk) (Sum.inl (st:Int)) (V.int ((d:Int) + 1))))) Ia=some (.lst (nV (gU es p))):=by rw[ae nIf];exact QP
    have QR:(upd H5 fa (.dK (c7 (zO.map fk) (Sum.inl (st:Int)) (V.int ((d:Int) + 1))))) ln=some (.lst (nV (zO.map (·.1)))):=by rw[ae Vj];exact NC
    have Vm:(upd H5 fa (.dK (c7 (zO.map fk) (Sum.inl (st:Int)) (V.int ((d:Int) + 1))))) fa=some (.dK ((zO ++ [(st,d + 1)]).map fk)):=by rw[ac,ep]
    have s6:za H (upd H5 fa (.dK (c7 (zO.map fk) (Sum.inl (st:Int)) (V.int ((d:Int) + 1))))):=fun b o e=>by rw[ae (ah e CU)];exact s5 _ _ e
    generalize upd H5 fa (.dK (c7 (zO.map fk) (Sum.inl (st:Int)) (V.int ((d:Int) + 1))))=H6 at Vl QR Vm s6 ⊢
    refine⟨_,rfl, .inl ⟨rfl,_,zf.of QR⟩,_,rfl,ln,_,_,rfl,rfl,QR,by rw[sizeLine_eq,cy,length_map];omega,?_⟩
    have QL:i < zO.length:=(List.getElem?_eq_some_iff.mp hy').1
    refine⟨zO ++ [(st,d + 1)],_,_,Iy.push hy' B0 L5 CI,by rw[List.getElem?_append_left QL];exact hy',step (fun x hx=>by rw[map_append];exact mem_append_left _ hx) (by rw[map_append];exact mem_append_right _ (by simp)),fun b o e=>by rw[ae (ah e QN)];exact s6 _ _ e,by rw[ae nIl];exact Vl,by rw[ae (Ne.symm Vj)];exact Vm,?_,rfl⟩
    rw[ac,map_append,nR];rfl
  ·rintro σ H5 ⟨zO,a6,a7,Iy,hy',Ak,s5,QP,Iz,NC,rfl⟩
   rw[cy,take_length]at Ak
   refine⟨zO,_,_,_,Iy.next hy' (fun st B0=>?_),s5,Iz,NC,rfl⟩
   obtain⟨k,hk⟩:=List.getElem?_of_mem B0
   have hk1:es.getD k (0,0)=(st,p):=by rw[getD_eq_getElem?_getD,hk];rfl
   have:=Ak k (mem_filter.mpr ⟨mem_range.mpr (List.getElem?_eq_some_iff.mp hk).1,by rw[hk1];exact decide_eq_true rfl⟩)
   rw[hk1]at this
   exact this
noncomputable def jm (fs:Es)(d:Nat)(e:Nat):Bool:=match lk fs e with
 | some d'=>decide (d' + 1=d)
 | none=>false
noncomputable def cS (es fs:Es)(p d:Nat):List Nat:=(eV es p).filter fun k=>jm fs d (es.getD k (0,0)).2
theorem sU (es:Es)(p:Nat):(eV es p).Pairwise (· < ·):=List.Pairwise.filter _ pairwise_lt_range
theorem qy (es fs:Es)(p d:Nat):(cS es fs p d).Pairwise (· < ·):=List.Pairwise.filter _ (sU es p)
theorem p0 {es fs:Es}{p d k:Nat}(h:k ∈ cS es fs p d):k < es.length:=mem_range.mp (mem_filter.mp (mem_filter.mp h).1).1
theorem mq {ks:List Nat}(h:ks.Pairwise (· < ·)):vP (Yd.zI ks 0)=nV ks:=by
 rw[vO,nS (ks:=ks) (ms:=iz ks) ?_ (fun k=>Iff.rfl),vV];rfl
 unfold iz
 exact List.Pairwise.map _ (fun a b Ip=>by show (a:Int) < (b:Int);omega) h
theorem xP {es:Es}{p k:Nat}(h:k ∈ eV es p):∃ e,es[k]? = some (p,e)/\es.getD k (0,0)=(p,e):=by
 obtain⟨h1,h2⟩:=mem_filter.mp h
 have hk:=mem_range.mp h1
 have e:=List.getElem?_eq_getElem hk
 have e2:es.getD k (0,0)=es[k]:=by rw[getD_eq_getElem?_getD,e];rfl
 have h2:(es.getD k (0,0)).1=p:=of_decide_eq_true h2
 refine⟨es[k].2,?_,?_⟩
 ·rw[e,← h2,e2]
 ·rw[e2,← h2,e2]
noncomputable def vN:V->Nat
 | .int z=>z.toNat
 | _=>0
theorem i4 (es fs:Es)(d:Nat):∀ l:List Nat,((nV l).filter fun v=>jm fs d (es.getD (vN v) (0,0)).2).map (fun v=>v)=nV (l.filter fun k=>jm fs d (es.getD k (0,0)).2)
 | []=>rfl
 | x :: l=>by
  have ih:=i4 es fs d l
  show((V.int (x:Int) :: nV l).filter _).map _=_
  rw[List.filter_cons,List.filter_cons]
  have e:vN (V.int (x:Int))=x:=toNat_natCast x
  rw[e]
  cases jm fs d (es.getD x (0,0)).2 with
  | true=>rw[if_pos rfl,if_pos rfl,map_cons,ih];rfl
  | false=>rw[if_neg (by decide),if_neg (by decide),ih]
noncomputable def L6 (c:Cs):Sp:=fun vs H Q _=>∃ (lx zD lt fa:Addr)(zi:List V)(n:Nat)(es fs:Es)(g p d:Nat),vs=[.ref lx, .ref fa, .int p]/\cu H c lx zD lt (n:Int) zi (es.map zp)/\es.length <= 100/\Rd H fa (.dK (fs.map fk))/\yX n es g fs/\lk fs p=some d /\
 ∀ (D:Addr)(H':Hp),za H H'->H D=none->H' D=some (.lst (nV (cS es fs p d)))->Q (.ref D) H'
theorem sI {H:Hp}{fa:Addr}{fs:Es}(h:Rd H fa (.dK (fs.map fk)))(p:Nat):Bi H fa (.int (p:Int)) ((lk fs p).map fun d:Nat=>V.int (d:Int)) := .inl ⟨_,Sum.inl (p:Int),h,rfl,(gA p fs).symm⟩
theorem kL {H H':Hp}{a:Addr}{u:HO}(s:za H H')(h:Rd H a u):Rd H' a u:=by
 rcases h with h | ⟨o,h⟩
 ·exact .inl (s _ _ h)
 ·exact .inr ⟨o,s _ _ h⟩
noncomputable def L7 (s:Stmt):Scope:=match aJ s with
 | .Return (some (.ListComp _ _ sc _)) _ :: _=>sc
 | _=>{ kind := .function,names:=[],isGenerator:=false,isCoroutine:=false }
theorem QS:ap ["land", "far", "place"] ["land", "far", "place"] (aj JX):=L2.zF
theorem QT:As ["land", "far", "place"] (aj JX) (L7 JX) ["land", "far", "place"] [0,1,2]:=L2.B3
theorem QU:(["lane", "land", "far", "place"]:List Str).Nodup:=by decide +kernel
theorem L8 {c:Cs}{f f1 f2 f3 f4:Addr}{fd d1 d2 d3 d4:FuncData}(F:zA K "nearer_lanes" "nearer_lanes" JX f fd)(T:fB mg)(L:lw K c)(M:Lm K c f1 f2 f3 f4 d1 d2 d3 d4)
  (Ge:zb P w K mg base aG 1 f2 d2 ["self", "lane"] (n8 c Prod.snd)) (Go:zb P w K mg base aG 1 f3 d3 ["self", "place"] (qc c Prod.fst)):zb P w K mg base aG 2 f fd ["land", "far", "place"] (L6 c):=by
 refine F.ok QS (fun vs H Q E h=>?_) (fun cdv A outer s H vs Q E hr h=>?_)
 ·obtain⟨lx,zD,lt,fa,zi,n,es,fs,g,p,d,rfl,_⟩:=h
  rfl
 ·obtain⟨lx,zD,lt,fa,zi,n,es,fs,g,p,d,rfl,hL,FR,CU,hF,CI,q⟩:=h
  have hu:=jV hr
  refine⟨_,ai (ar (b5 (own:=["lane"]) (capN:=["land", "far", "place"]) (cap:=[0,1,2]) QT rfl (bC (aB (pv 0) L.cl M.mo Go hr M.bo .nil aq (aa (pv 2) ad)))
   (fun C s' H' fp=>⟨ay (i:=0) QU rfl (Or.inl rfl),bV (av bz (sR hu (pv 2) (aB (pv 1) L.cl M.me Ge hr M.be .nil aq (aa (pv 0) ad)) ⟨rfl,rfl,rfl,rfl⟩) (aC e9 (pf hu (pv 2) (pv 3) (fun _ _=>rfl)) ak) (az _)),pv 0⟩))),?_⟩
  refine⟨_,rfl,lx,zD,_,rfl,hL.1,rfl,_,rfl,lx,zD,lt,(n:Int),zi,es.map zp,(p:Int),rfl,hL,by rw[length_map];omega,fun H1 O s1 hO=>?_⟩
  rw[xO]
  have s2:=s1.new (o := .lst (nV (eV es p))) hO
  have gO:(upd H1 O (.lst (nV (eV es p)))) O=some (.lst (nV (eV es p))):=ac
  generalize upd H1 O (.lst (nV (eV es p)))=H2 at s2 gO ⊢
  have EC:=vh es p
  refine⟨O,rfl,⟨_,zf.of gO⟩,fA (fun v=>jm fs d (es.getD (vN v) (0,0)).2) (fun v=>v) (by rw[sizeLine_eq,cy];omega) (zf.of gO) ?_ ?_⟩
  ·intro v acc N hv hN
   obtain⟨k,hk,rfl⟩:=tM hv
   obtain⟨e,he1,Ek⟩:=xP hk
   have ek:vN (V.int (k:Int))=k:=toNat_natCast k
   rw[ek,Ek]at hN
   have hN:N (if jm fs d e=true then acc ++ [V.int (k:Int)] else acc) H2:=hN
   have gd:=sI (kL s2 CU) p
   rw[CI]at gd
   refine⟨_,rfl,fa,rfl, .inl ⟨_,kL s2 CU⟩,_,rfl,lx,zD,_,rfl,s2 _ _ hL.1,rfl,_,rfl,lx,zD,lt,(n:Int),zi,es.map zp,k,zp (p,e),rfl,⟨s2 _ _ hL.1,s2 _ _ hL.2.1,zy.same s2 hL.2.2⟩,by rw[List.getElem?_map,he1];rfl,_,sI (kL s2 CU) e,?_⟩
   refine⟨_,rfl,_,rfl,fa,_,rfl,gd,_,_,rfl,rfl,?_⟩
   unfold jm at hN
   cases hle:lk fs e with
   | none =>
    rw[hle]at hN
    refine⟨rfl,_,rfl,?_⟩
    exact aH hN
   | some d' =>
    rw[hle]at hN
    refine⟨rfl,_,rfl,?_⟩
    show(if decide (V.int (d':Int)=V.int ((d:Int) - 1))=true then _ else _)
    by_cases hd:d' + 1=d
    ·have hN:N (if decide (d' + 1=d)=true then acc ++ [V.int (k:Int)] else acc) H2:=hN
     rw[decide_eq_true hd,if_pos rfl]at hN
     rw[decide_eq_true (by rw[show (d:Int) - 1=(d':Int) by omega])]
     exact aK ⟨_,rfl,hN⟩
    ·have hN:N (if decide (d' + 1=d)=true then acc ++ [V.int (k:Int)] else acc) H2:=hN
     rw[decide_eq_false hd,if_neg (by decide)]at hN
     rw[decide_eq_false (fun z=>hd (by injection z with z;omega))]
     exact aH hN
  ·intro D hD
   rw[i4]
   exact q D _ (s2.new hD) (s2.free hD) ac
structure pR where
 tab:Addr
 near:Addr
noncomputable def kk (p g:Nat):gc:=[some (p:Int),some (g:Int)]
theorem CJ {p g p' g':Nat}:kk p g=kk p' g'↔p=p'/\g=g':=by
 unfold kk
 constructor
 ·intro h
  have h1:=List.cons.inj h
  have h2:=List.cons.inj h1.2
  have e1:=Option.some.inj h1.1
  have e2:=Option.some.inj h2.1
  omega
 ·rintro⟨rfl,rfl⟩;rfl
noncomputable def qL (es fs:Es)(p:Nat):Option V:=(lk fs p).map fun d=>V.int (Yd.zI (cS es fs p d) 0:Nat)
noncomputable def mY (n:Nat)(es:Es)(kvs:List dI)(G:Nat):Prop:=(∀ g,g < G->∃ fs,yX n es g fs/\∀ p,ce kvs (kk p g)=qL es fs p)/\∀ g,G <= g->∀ p,ce kvs (kk p g)=none
noncomputable def uB (n:Nat)(es:Es)(kvs:List dI)(G:Nat)(fs:Es)(j:Nat):Prop:=(∀ g,g < G->∃ fs,yX n es g fs/\∀ p,ce kvs (kk p g)=qL es fs p)/\(∀ p,ce kvs (kk p G)=if p ∈ (fs.take j).map (·.1) then qL es fs p else none)/\∀ g,G < g->∀ p,ce kvs (kk p g)=none
theorem qK {n:Nat}{es:Es}{kvs:List dI}{G:Nat}{fs:Es}(h:mY n es kvs G):uB n es kvs G fs 0 :=
 ⟨h.1,fun p=>by rw[h.2 G (Nat.le_refl _) p,if_neg (by simp)],fun g hg p=>h.2 g (by omega) p⟩
theorem wf {n:Nat}{es:Es}{kvs:List dI}{G:Nat}{fs:Es}(f:yX n es G fs)(h:uB n es kvs G fs fs.length):mY n es kvs (G + 1):=by
 refine⟨fun g hg=>?_,fun g hg p=>h.2.2 g (by omega) p⟩
 rcases lt_or_ge g G with h1 | h1
 ·exact h.1 g h1
 ·have e:g=G:=by omega
  subst e
  refine⟨fs,f,fun p=>?_⟩
  rw[h.2.1 p,take_length]
  by_cases hp:p ∈ fs.map (·.1)
  ·rw[if_pos hp]
  ·rw[if_neg hp];unfold qL;rw[BQ.mpr hp];rfl
theorem ug {n:Nat}{es:Es}{kvs:List dI}{G:Nat}{fs:Es}{j p d:Nat}{b:Addr}(hn:(fs.map (·.1)).Nodup)(hj:fs[j]? = some (p,d))(h:uB n es kvs G fs j) :
  uB n es (eT kvs (kk p G) b (.int (Yd.zI (cS es fs p d) 0:Nat))) G fs (j + 1):=by
 have CI:=im hn (mem_of_getElem? hj)
 refine⟨fun g hg=>?_,fun p'=>?_,fun g hg p'=>?_⟩
 ·obtain⟨zO,f',h'⟩:=h.1 g hg
  refine⟨zO,f',fun p'=>?_⟩
  rw[gE,if_neg (fun z=>by have:=(CJ.mp z).2;omega),h' p']
 ·rw[gE]
  by_cases e:p' = p
  ·subst e
   rw[if_pos rfl,if_pos (by rw[take_succ,hj,map_append];exact mem_append_right _ (by simp))]
   unfold qL;rw[CI];rfl
  ·rw[if_neg (fun z=>e (CJ.mp z).1),h.2.1 p',take_succ,hj,map_append]
   by_cases hm:p' ∈ (fs.take j).map (·.1)
   ·rw[if_pos hm,if_pos (mem_append_left _ hm)]
   ·rw[if_neg hm,if_neg]
    intro z
    rcases mem_append.mp z with z | z
    ·exact hm z
    ·exact e (by simpa using z)
 ·rw[gE,if_neg (fun z=>by have:=(CJ.mp z).2;omega),h.2.2 g hg p']
noncomputable def ww (P:Program)(w:World)(H:Hp)(ts:pR)(x dx:Addr)(lx:Addr)(de:Addr)(kvs:List dI):Prop:=H x=some (.ins ts.near dx [("land", .ref lx),("entries", .ref de)])/\zR P w H de kvs
noncomputable def rD (P:Program)(w:World)(c:Cs)(ts:pR):Sp:=fun vs H Q _=>∃ (x dx lx zD lt:Addr)(zi:List V)(n:Nat)(es:Es),vs=[.ref x, .ref lx]/\H x=some (.ins ts.near dx [])/\cu H c lx zD lt (n:Int) zi (es.map zp)/\NB n es/\es.length <= 100/\n <= 100 /\
 ∀ H' de kvs,Off x H H'->ww P w H' ts x dx lx de kvs->mY n es kvs n->Q .zt H'
structure QV (K:Frag)(mg:Str->Option Value)(ts:pR)(f1:Addr)(d1:FuncData):Prop where
 cl:B7 K ts.near
 n1:zl K ts.near "land"
 n2:zl K ts.near "entries"
 mt:mg "Table" = some (.ref ts.tab)
 cm:uC K ts.tab "__init__" f1
 bt:Binds K d1 ["self", "land"] []
abbrev NNr:List Str:=["self", "land", "goal", "far", "place"]
theorem EV:ap NNr ["self", "land"] (aj sm):=L2.zF
theorem v6 {c:Cs}{ts:pR}{f ft fh fn fs:Addr}{fd dt dh dn ds:FuncData}(F:zA K "__init__" "Nearer.__init__" sm f fd)(T:fB mg)(L:lw K c)(B:QV K mg ts ft dt)(G1:zb P w K mg base aG 1 ft dt ["self", "land"] (r8 K))
  (mh:mg "how_far" = some (.ref fh)) (kh:keepIn K (.ref fh)=true) (bh:Binds K dh ["land", "goal"] []) (Gh:zb P w K mg base aG 2 fh dh ["land", "goal"] (wL c))
  (mn:mg "nearer_lanes" = some (.ref fn)) (kn:keepIn K (.ref fn)=true) (bn:Binds K dn ["land", "far", "place"] []) (Gn:zb P w K mg base aG 2 fn dn ["land", "far", "place"] (L6 c))
  (ms:mg "set_of" = some (.ref fs)) (ks:keepIn K (.ref fs)=true) (bs:Binds K ds ["numbers"] []) (Gs:zb P w K mg base aG 1 fs ds ["numbers"] (r9 K)) :
  zb P w K mg base aG 3 f fd ["self", "land"] (rD P w c ts):=by
 refine F.ok EV (fun vs H Q E h=>?_) (fun cdv A outer s H vs Q E hr h=>?_)
 ·obtain⟨x,dx,lx,zD,lt,zi,n,es,rfl,_⟩:=h
  rfl
 ·obtain⟨x,dx,lx,zD,lt,zi,n,es,rfl,hx,hL,Bv,FR,hn,q⟩:=h
  have zU:zm 1 _:=hr.mono (by decide)
  have hu:=jV hr
  refine⟨_,af (aQ (lR (e8 (v := .ref ts.tab) rfl B.mt rfl) B.cm G1 zU B.bt .nil aq (aa (pv 0) (aa (pv 1) ad))))
   (af (aX (pv 0) (show PE _ _ (rj P w) from pe) rfl)
   (ai (bD PassesOwn.never rfl (aR rfl T.range (aa (ao (pv 1) rfl) ad)) (ay (i:=2) EV.nd rfl (Or.inl rfl))
    (af (aD (i:=3) EV.nd rfl (Or.inl rfl) (au Gh hr rfl mh kh bh .nil aq (aa (pv 1) (aa (pv 2) ad))))
    (ai (bD PassesOwn.never rfl (ve (pv 3)) (ay (i:=4) EV.nd rfl (Or.inl rfl))
     (ai (pc hu (ao (pv 0) rfl) (bG (aa (pv 4) (aa (pv 2) ad))) (au Gs zU rfl ms ks bs .nil aq (aa (au Gn hr rfl mn kn bn .nil aq (aa (pv 1) (aa (pv 3) (aa (pv 4) ad)))) ad)) rfl)))))))),?_⟩
  refine⟨rfl,_,rfl,_,rfl,x,ts.near,dx,_,rfl,hx,B.cl,B.n1,?_⟩
  refine fun de C0=>⟨_,rfl,x,ts.near,dx,[("land", .ref lx)],rfl,by rw[ae (ah ac C0)];exact ac,B.cl,B.n2,by show 1 < 1000;decide,?_⟩
  have Em:x ≠ de:=ah ac C0
  have DP:H de=none:=by rw[ae (Ne.symm Em)]at C0;exact C0
  generalize DG:upd (upd (upd H x (.ins ts.near dx [("land", .ref lx)])) de (j6 P w de [])) x (.ins ts.near dx (aL "entries" (.ref de) [("land", .ref lx)]))=H2
  have o2:Off x H H2:=fun b o hb e=>by rw[← DG,ae hb,ae (ah e DP),ae hb];exact e
  have x2:H2 x=some (.ins ts.near dx [("land", .ref lx),("entries", .ref de)]):=by rw[← DG,ac];rfl
  have d2:zR P w H2 de []:=⟨by rw[← DG,ae (Ne.symm Em),ac],fun y hy=>by cases hy⟩
  have Bu:=Off.land o2 hx hL
  refine⟨_,rfl,lx,c.land,zD,_,_,rfl,Bu.1,L.cl,L.np,rfl,(n:Int),rfl,by omega,by omega,?_⟩
  rw[toNat_natCast]
  refine b7 (n:=n) (fun G σ H3=>∃ (a2 a3 a4:Option V)(kvs:List dI),Off x H H3/\ww P w H3 ts x dx lx de kvs/\kvs.length <= G * 100/\mY n es kvs G/\σ=[some (.ref x),some (.ref lx),a2,a3,a4])
   ⟨none,none,none,[],o2,⟨x2,d2⟩,zero_le _,⟨fun g hg=>absurd hg (not_lt_zero _),fun g _ p=>rfl⟩,rfl⟩ ?_ ?_
  ·rintro G σ H3 hG ⟨a2,a3,a4,kvs,o3,n3,l3,e3,rfl⟩
   rw[zero_add]
   have BL:=Off.land o3 hx hL
   refine⟨_,rfl,_,rfl,lx,zD,lt,zi,n,es,G,rfl,BL,Bv,FR,hn,hG,fun fa zO H4 s4 CU hF gfa=>?_⟩
   have C9:zO.length <= n:=by
    have:=gP n (zO.map (·.1)) hF.nd fun y hy=>by
     obtain⟨z,hz,rfl⟩:=mem_map.mp hy
     exact hF.lt z hz
    rwa [length_map]at this
   refine⟨_,rfl,fa,_,rfl,gfa,fun ob=>?_⟩
   have Vn:(upd H4 fa (.AZ ob (.dK (zO.map fk)))) fa=some (.AZ ob (.dK (zO.map fk))):=ac
   have s5:za H3 (upd H4 fa (.AZ ob (.dK (zO.map fk)))):=fun b o e=>by rw[ae (ah e CU)];exact s4 _ _ e
   generalize upd H4 fa (.AZ ob (.dK (zO.map fk)))=H5 at Vn s5 ⊢
   have nfa:H fa=none∨fa=x:=by
    by_cases h:fa=x
    ·exact .inr h
    ·exact .inl (by cases e:H fa with | none=>rfl | some o=>rw[o3 _ _ h e]at CU;cases CU)
   refine uc (a:=fa) (o:=ob) (kvs:=zO.map fk) (fun j σ H6=>∃ (a4:Option V)(kvs:List dI),Off x H H6/\ww P w H6 ts x dx lx de kvs/\kvs.length <= G * 100 + j/\uB n es kvs G zO j/\H6 fa=some (.AZ ob (.dK (zO.map fk)))/\σ=[some (.ref x),some (.ref lx),some (.int G),some (.ref fa),a4])
    ⟨_,kvs,o3.same s5,⟨s5 _ _ n3.1,n3.2.same s5⟩,l3,qK e3,Vn,rfl⟩ (fun j σ H6 _ ⟨_,_,_,_,_,_,g6,_⟩=>g6) ?_ ?_
   ·rintro j k σ H6 hk ⟨a4,kvs,o6,n6,l6,e6,g6,rfl⟩
    have hj:j < zO.length:=by have:=(List.getElem?_eq_some_iff.mp hk).1;simpa using this
    have hjp:=List.getElem?_eq_getElem hj
    generalize zO[j]=pd at hjp
    obtain⟨p,d⟩:=pd
    have ek:k=Sum.inl (p:Int):=by
     rw[List.getElem?_map,List.getElem?_map,hjp]at hk
     exact(Option.some.inj hk).symm
    subst ek
    rw[show kV (Sum.inl (p:Int))=V.int (p:Int) from rfl]
    have CI:=im hF.nd (mem_of_getElem? hjp)
    have hL6:=Off.land o6 hx hL
    refine⟨_,rfl,_,rfl,_,rfl,lx,zD,lt,fa,zi,n,es,zO,G,p,d,rfl,hL6,FR, .inr ⟨_,g6⟩,hF,CI,fun O H7 s7 hO gO=>?_⟩
    refine⟨O,cS es zO p d,rfl,zf.of gO,fun k hk=>by have:=p0 hk;omega,?_⟩
    have n7x:=s7 _ _ n6.1
    refine⟨_,rfl,x,ts.near,dx,_,_,rfl,n7x,B.cl,B.n2,rfl,_,rfl,_,rfl,by show 2 <= sizeLine;decide,fun kt PJ=>?_⟩
    have s8:=s7.new (o := .tup [.int p, .int G]) PJ
    have k8:(upd H7 kt (.tup [.int p, .int G])) kt=some (.tup ((kk p G).map qX)):=ac
    generalize upd H7 kt (.tup [.int p, .int G])=H8 at s8 k8 ⊢
    have d8:=n6.2.same s8
    refine⟨de,kvs,kk p G,kt,rfl,d8,rfl,k8,by rw[sizeLine_eq];have:G * 100 <= 100 * 100:=Nat.mul_le_mul_right _ (by omega);omega,?_⟩
    have nfd:fa ≠ de:=fun z=>by
     have h1:=s8 _ _ g6
     rw[z,d8.1]at h1
     cases h1
    have L9:∀ b ks,H8 b=some (.tup ks)->(upd H8 de (j6 P w de (eT kvs (kk p G) kt (.int (Yd.zI (cS es zO p d) 0:Nat))))) b=some (.tup ks):=fun b ks e=>by
     rw[ae (fun z=>by rw[z,d8.1]at e;cases e)];exact e
    refine⟨_,eT kvs (kk p G) kt (.int (Yd.zI (cS es zO p d) 0:Nat)),fun b o hb e=>?_,⟨?_,ac,jJ (F:=fun k a=>(upd H8 de (j6 P w de (eT kvs (kk p G) kt (.int (Yd.zI (cS es zO p d) 0:Nat))))) a=some (.tup (k.map qX))) (fun y hy=>L9 _ _ (d8.2 y hy)) (L9 _ _ k8)⟩,?_,ug hF.nd hjp e6,?_,rfl⟩
    ·rw[ae (ah e DP)];exact s8 _ _ (o6 _ _ hb e)
    ·rw[ae Em];exact s8 _ _ n6.1
    ·have:=eR (kvs:=kvs) (k:=kk p G) (b:=kt) (v := .int (Yd.zI (cS es zO p d) 0:Nat));omega
    ·rw[ae nfd];exact s8 _ _ g6
   ·rintro σ H6 ⟨a4,kvs,o6,n6,l6,e6,g6,rfl⟩
    rw[length_map]at l6 e6
    refine⟨_,_,_,kvs,o6,n6,?_,wf hF e6,rfl⟩
    rw[Nat.succ_mul];omega
  ·rintro σ H3 ⟨a2,a3,a4,kvs,o3,n3,l3,e3,rfl⟩
   exact q H3 de kvs o3 n3 e3
noncomputable def k7 (es fs:Es)(p:Nat):List Nat:=match lk fs p with
 | some d=>cS es fs p d
 | none=>[]
theorem ly (es fs:Es)(p:Nat):(k7 es fs p).Pairwise (· < ·):=by
 unfold k7
 split
 ·exact qy _ _ _ _
 ·exact List.Pairwise.nil
theorem rc {es fs:Es}{p k:Nat}(h:k ∈ k7 es fs p):k < es.length:=by
 unfold k7 at h
 split at h
 ·exact p0 h
 ·cases h
theorem p8 {H:Hp}{l:Addr}{xs:List V}{o:HO}(hl:H l=some (.lst xs)):∀ {vs:List V}{ps:List (Int × Int)},zy H vs ps->zy (upd H l o) vs ps
 | _,_, .nil => .nil
 | _,_, .cons ⟨t,e,q⟩ r => .cons ⟨t,e,by rw[ae (aY q hl (by intro z;cases z))];exact q⟩ (p8 hl r)
theorem vQ {ks:List Nat}(h:ks.Pairwise (· < ·)):mN (Yd.zI ks 0)=ks:=tN (mq h)
noncomputable def LA (kvs:List dI):Wf:=fun p g _=>mN (vN ((ce kvs (kk p g)).getD (.int 0)))
noncomputable def I0 (P:Program)(w:World)(ts:pR):TJ:=fun H x n wy=>∃ (dx lx de:Addr)(kvs:List dI)(es:Es),ww P w H ts x dx lx de kvs/\mY n es kvs n/\es.length <= 100/\∀ p g k,p < n->g < n->wy p g k=LA kvs p g k
theorem oH {n:Nat}{es:Es}{kvs:List dI}(h:mY n es kvs n){g:Nat}(hg:g < n)(p:Nat)(k:Option Nat):∃ fs,yX n es g fs/\LA kvs p g k=k7 es fs p/\(ce kvs (kk p g)).getD (.int 0) = .int (Yd.zI (k7 es fs p) 0:Nat):=by
 obtain⟨fs,hF,hv⟩:=h.1 g hg
 have ev:(ce kvs (kk p g)).getD (.int 0) = .int (Yd.zI (k7 es fs p) 0:Nat):=by
  rw[hv p]
  unfold qL k7
  cases lk fs p<;>rfl
 refine⟨fs,hF,?_,ev⟩
 unfold LA
 rw[ev]
 show mN (((Yd.zI (k7 es fs p) 0:Nat):Int)).toNat=_
 rw[toNat_natCast,vQ (ly es fs p)]
theorem wX {n:Nat}{es:Es}{kvs:List dI}(h:mY n es kvs n){g p z:Nat}{k:Option Nat}(hg:g < n)(hz:z ∈ LA kvs p g k):z < es.length:=by
 obtain⟨fs,_,e,_⟩:=oH h hg p k
 rw[e]at hz
 exact rc hz
theorem I0.keep {P:Program}{w:World}{ts:pR}{H H':Hp}{x:Addr}{n:Nat}{wy:Wf}(h:I0 P w ts H x n wy)(k:zH H H'):I0 P w ts H' x n wy:=by
 obtain⟨dx,lx,de,kvs,es,⟨h1,h2,h3⟩,h4⟩:=h
 exact⟨dx,lx,de,kvs,es,⟨k _ _ h1 True.intro,k _ _ h2 True.intro,fun y hy=>k _ _ (h3 y hy) True.intro⟩,h4⟩
noncomputable def oU:Sp:=fun vs H Q _=>∃ (n m:Nat)(c:Int),vs=[.int n, .int m, .int c]/\2 <= n/\n <= 12/\m <= 100/\∀ (D:Addr)(zo:List V)(es:Es)(H':Hp),za H H'->H D=none->H' D=some (.lst zo)->zy H' zo (es.map zp)->NB n es->(∀ e ∈ es,e.1 ≠ e.2)->es.length=m->Q (.ref D) H'
abbrev NLn:List Str:=["_law_places", "_law_amount", "_law_cell", "_law_lanes_here", "_law_k", "_law_draw", "_law_start"]
theorem uR:ap ["self", "lane"] ["self", "lane"] (aj nA):=L2.zF
theorem tj {c:Cs}{f:Addr}{fd:FuncData}(F:zA K "start_of" "Land.start_of" nA f fd)(L:lw K c):zb P w K mg base aG 1 f fd ["self", "lane"] (n8 c Prod.fst):=by
 refine F.ok uR (fun vs H Q E h=>?_) (fun cdv A outer s H vs Q E hr h=>?_)
 ·obtain⟨x,dx,t,n,zi,ps,k,pr,rfl,_⟩:=h
  rfl
 ·obtain⟨x,dx,t,n,zi,ps,k,pr,rfl,⟨hx,ht,hl⟩,hk,q⟩:=h
  refine⟨_,ai (ar (aw aA (aw aA (ao (pv 0) rfl) (pv 1) (fun _ _=>rfl)) ak (fun _ _=>rfl))),?_⟩
  obtain⟨v,hv,u,rfl,hu⟩:=zy.DN hl hk
  refine⟨_,rfl,x,c.land,dx,_,_,rfl,hx,L.cl,L.nl,rfl,_,rfl,t,_,_,_,rfl,rfl,zh.of ht,al hv,u,_,0,_,rfl,rfl,zh.of hu,al (j:=0) rfl,q⟩
theorem QW:ap ["self", "place", "goal", "came"] ["self", "place", "goal", "came"] (aj rV):=L2.zF
theorem sZ {ts:pR}{f fm f1:Addr}{fd dm d1:FuncData}(F:zA K "ways" "Nearer.ways" rV f fd)(B:QV K mg ts f1 d1)(mm:mg "members" = some (.ref fm))(km:keepIn K (.ref fm)=true)(bm:Binds K dm ["some"] [])
  (Gm:zb P w K mg base aG 2 fm dm ["some"] rE):zb P w K mg base aG 3 f fd ["self", "place", "goal", "came"] (dX (I0 P w ts)):=by
 refine F.ok QW (fun vs H Q E h=>?_) (fun cdv A outer s H vs Q E hr h=>?_)
 ·obtain⟨x,n,wy,p,g,k,rfl,_⟩:=h
  rfl
 ·obtain⟨x,n,wy,p,g,k,rfl,⟨dx,lx,de,kvs,es,hx,hE,FR,Dt⟩,hp,hg,q⟩:=h
  rw[Dt p g k hp hg]at q
  have hu:=jV hr
  refine⟨_,ai (ar (au Gm hr rfl mm km bm .nil aq (aa (lQ hu (ao (pv 0) rfl) (aa (bG (aa (pv 1) (aa (pv 2) ad))) (aa ak ad))) ad))),?_⟩
  refine⟨_,rfl,x,ts.near,dx,_,_,rfl,hx.1,B.cl,B.n2,rfl,de,kvs,rfl,hx.2,?_⟩
  refine⟨_,rfl,_,rfl,by show 2 <= sizeLine;decide,fun t ht=>?_⟩
  have s1:za H (upd H t (.tup [.int p, .int g])):=(za.refl H).new ht
  refine⟨_,_,ce kvs (kk p g),rfl,⟨kvs,kk p g,t,hx.2.same s1,rfl,ac,rfl⟩,?_⟩
  obtain⟨fs,hF,ew,ev⟩:=oH hE hg p k
  rw[ev]
  refine⟨_,rfl,lt_of_lt_of_le (rR fun k hk=>rc hk) (pow_le_pow_right (by decide) (by omega)),fun D hD=>?_⟩
  exact q D _ (s1.new hD) (s1.free hD) (by rw[ac,mq (ly es fs p),ew])
theorem DZ:ap NLn ["_law_places", "_law_amount", "_law_cell"] (aj nH):=L2.zF
theorem tE {f fm:Addr}{fd dm:FuncData}(F:zA K "_law_lanes" "_law_lanes" nH f fd)(T:fB mg)(mm:mg "_law_mixed" = some (.ref fm))(km:keepIn K (.ref fm)=true)(bm:Binds K dm ["_law_cell", "_law_k"] [])
  (Gm:zb P w K mg base aG 1 fm dm ["_law_cell", "_law_k"] jH):zb P w K mg base aG 2 f fd ["_law_places", "_law_amount", "_law_cell"] oU:=by
 refine F.ok DZ (fun vs H Q E h=>?_) (fun cdv A outer s H vs Q E hr h=>?_)
 ·obtain⟨n,m,c,rfl,_⟩:=h
  rfl
 ·obtain⟨n,m,c,rfl,AV,Qb,hm,q⟩:=h
  refine⟨_,af (aD (i:=3) DZ.nd rfl (Or.inl rfl) (aU ad))
   (af (bD PassesOwn.never rfl (aR rfl T.range (aa (pv 1) ad)) (ay (i:=4) DZ.nd rfl (Or.inl rfl))
    (af (aD (i:=5) DZ.nd rfl (Or.inl rfl) (au Gm hr rfl mm km bm .nil aq (aa (pv 2) (aa (pv 4) ad))))
    (af (aD (i:=6) DZ.nd rfl (Or.inl rfl) (aC bv (pv 5) (pv 0)))
    (ai (aQ (c4 plainAttrs_list PySem.F.slot_list_append PySem.F.type_list_append bN (pv 3) (aa (bG (aa (pv 6) (aa (aC bv (aC bE (aC bE (pv 6) ak) (aC bv (aC gN (pv 5) ak) (aC e9 (pv 0) ak))) (pv 0)) ad))) ad)))))))
   (ai (ar (pv 3)))),?_⟩
  have two:(2:Nat) <= sizeLine:=by decide
  refine⟨zero_le _,fun D hD=>?_⟩
  have s0:=(za.refl H).new (o := .lst []) hD
  refine⟨_,rfl,(m:Int),rfl,by omega,by omega,?_⟩
  rw[toNat_natCast]
  refine b7 (n:=m) (fun i σ H2=>∃ (a3 a4 a5:Option V)(zo:List V)(es:Es),za H H2/\H2 D=some (.lst zo)/\zy H2 zo (es.map zp)/\NB n es/\(∀ e ∈ es,e.1 ≠ e.2)/\es.length=i/\σ=[some (.int n),some (.int m),some (.int c),some (.ref D),a3,a4,a5])
   ⟨none,none,none,[],[],s0,ac, .nil,(fun e he=>by cases he),(fun e he=>by cases he),rfl,rfl⟩ ?_ ?_
  ·rintro i σ H2 hi ⟨a3,a4,a5,zo,es,s2,gD,ND,Bv,zC,hl,rfl⟩
   have NG:(0:Int) < (n:Int):=by omega
   have FW:(0:Int) < (n:Int) - 1:=by omega
   rw[zero_add]
   refine⟨_,rfl,_,rfl,c,i,rfl,by omega,fun d hd=>?_⟩
   refine⟨_,rfl,_,rfl,_,_,rfl,rfl,NG,?_⟩
   refine⟨_,rfl, .inl ⟨rfl,_,zf.of gD⟩,_,rfl,_,rfl,_,_,rfl,rfl,_,rfl,_,_,rfl,rfl,⟨by decide,by decide⟩,_,rfl,_,_,rfl,rfl,_,_,rfl,rfl,FW,_,_,rfl,rfl,_,rfl,_,_,rfl,rfl,NG,two,fun t1 h1=>?_⟩
   dsimp only at h1 ⊢
   have e1:=emod_nonneg d (show (n:Int) ≠ 0 by omega)
   have e2:=emod_lt_of_pos d NG
   have e3:=emod_nonneg (d / 16) (show (n:Int) - 1 ≠ 0 by omega)
   have e4:=emod_lt_of_pos (d / 16) FW
   generalize d % (n:Int)=st at e1 e2 h1 ⊢
   generalize d / 16 % ((n:Int) - 1)=CV at e3 e4 h1 ⊢
   have e5:=emod_nonneg (st + 1 + CV) (show (n:Int) ≠ 0 by omega)
   have e6:=emod_lt_of_pos (st + 1 + CV) NG
   have e7:(st + 1 + CV) % (n:Int) ≠ st:=by
    intro z
    rcases Int.lt_or_le (st + 1 + CV) (n:Int) with h | h
    ·rw[Int.emod_eq_of_lt (by omega) h]at z;omega
    ·have:(st + 1 + CV) % (n:Int)=st + 1 + CV - n:=by
      rw[show st + 1 + CV = (st + 1 + CV - n) + n by omega,Int.add_emod_right,Int.emod_eq_of_lt (by omega) (by omega)];omega
     omega
   generalize (st + 1 + CV) % (n:Int)=en at e5 e6 e7 h1 ⊢
   obtain⟨s',Ij,QX⟩:∃ s':Nat,st=(s':Int)/\s' < n:=⟨st.toNat,by omega,by omega⟩
   obtain⟨n',BV,QY⟩:∃ n':Nat,en=(n':Int)/\n' < n:=⟨en.toNat,by omega,by omega⟩
   subst Ij BV
   have u1:=(za.refl H2).new (o := .tup [.int (s':Int), .int (n':Int)]) h1
   have v1:(upd H2 t1 (.tup [.int (s':Int), .int (n':Int)])) t1=some (.tup [.int (s':Int), .int (n':Int)]):=ac
   have nT:t1 ≠ D:=Ne.symm (ah gD h1)
   generalize upd H2 t1 (.tup [.int (s':Int), .int (n':Int)])=H3 at u1 v1 ⊢
   have Ea:=u1 _ _ gD
   have En:zo.length=es.length:=by rw[Paired.length ND,length_map]
   refine⟨D,zo,_,rfl,rfl,Ea,by rw[sizeLine_eq];omega,?_⟩
   refine⟨_,_,_,zo ++ [.ref t1],es ++ [(s',n')],fun b o e=>by rw[ae (ah e hD)];exact u1 _ _ (s2 _ _ e),ac,?_,fun e he=>?_,fun e he=>?_,by rw[length_append,hl];rfl,rfl⟩
   ·rw[map_append]
    exact zy.snoc (p:=zp (s',n')) ⟨t1,rfl,by rw[ae nT];exact v1⟩ (p8 Ea (zy.same u1 ND))
   ·rcases mem_append.mp he with he | he
    ·exact Bv e he
    ·rw[mem_singleton.mp he];exact⟨QX,QY⟩
   ·rcases mem_append.mp he with he | he
    ·exact zC e he
    ·rw[mem_singleton.mp he];show s' ≠ n';omega
  ·rintro σ H2 ⟨a3,a4,a5,zo,es,s2,gD,ND,Bv,zC,hl,rfl⟩
   exact⟨_,rfl,q D zo es H2 s2 hD gD ND Bv zC hl⟩
noncomputable def uF:Option Nat->Nat
 | none=>0
 | some k=>k + 1
noncomputable def sH (r:Rw):Nat:=(r.p.toNat * 100 + r.g.toNat) * 100 + uF r.c
theorem y4 {a b:Rw}(h:aZ a=aZ b):sH a=sH b:=by
 unfold aZ at h
 injection h with h1 h2
 injection h2 with h2 h3
 injection h3 with h3 _
 injection h1 with h1
 injection h2 with h2
 have h4:a.c=b.c:=by
  cases ha:a.c with
  | none=>cases hb:b.c with
   | none=>rfl
   | some k=>rw[ha,hb]at h3;cases h3
  | some k=>cases hb:b.c with
   | none=>rw[ha,hb]at h3;cases h3
   | some k' =>
    rw[ha,hb]at h3
    have h3:some (k:Int)=some (k':Int):=h3
    injection h3 with h3
    rw[show k=k' by omega]
 unfold sH
 rw[h1,h2,h4]
structure CW (n:Nat)(ps:List (Int × Int))(B:Nat)(rs:List Rw):Prop where
 sort:(rs.map sH).Pairwise (· < ·)
 low:∀ r ∈ rs,sH r < B
 fit:∀ r ∈ rs,eK n ps r=true
 Ad:∀ r ∈ rs,r.s.length <= 40
theorem CW.up {n:Nat}{ps:List (Int × Int)}{B B':Nat}{rs:List Rw}(h:CW n ps B rs)(l:B <= B'):CW n ps B' rs:=⟨h.sort,fun r hr=>lt_of_lt_of_le (h.low r hr) l,h.fit,h.Ad⟩
theorem CW.snoc {n:Nat}{ps:List (Int × Int)}{B:Nat}{rs:List Rw}{r:Rw}(h:CW n ps B rs)(hr:B <= sH r)(hf:eK n ps r=true)(hl:r.s.length <= 40):CW n ps (sH r + 1) (rs ++ [r]):=by
 refine⟨?_,fun x hx=>?_,fun x hx=>?_,fun x hx=>?_⟩
 ·rw[map_append,List.pairwise_append]
  refine⟨h.sort,by simp,fun x hx y hy=>?_⟩
  obtain⟨r',Fj,rfl⟩:=mem_map.mp hx
  have hy:y=sH r:=by simpa using hy
  rw[hy]
  exact lt_of_lt_of_le (h.low r' Fj) hr
 ·rcases mem_append.mp hx with hx | hx
  ·have:=h.low x hx;omega
  ·rw[mem_singleton.mp hx];omega
 ·rcases mem_append.mp hx with hx | hx
  ·exact h.fit x hx
  ·rw[mem_singleton.mp hx];exact hf
 ·rcases mem_append.mp hx with hx | hx
  ·exact h.Ad x hx
  ·rw[mem_singleton.mp hx];exact hl
theorem CW.good {n:Nat}{ps:List (Int × Int)}{B:Nat}{rs:List Rw}(h:CW n ps B rs):cX n ps rs rs.length=none:=by
 refine fY fun k hk=>?_
 have hr:rs[k]? = some rs[k]:=List.getElem?_eq_getElem hk
 have Nu:rs.getD k ⟨0,0,none,[]⟩ = rs[k]:=by rw[getD_eq_getElem?_getD,hr];rfl
 rw[Nu,gZ,h.fit _ (getElem_mem hk)]
 have QZ:((rs.take k).any fun a=>decide (aZ a=aZ rs[k]))=false:=by
  rw[List.any_eq_false]
  intro a ha hd
  have e:=y4 (of_decide_eq_true hd)
  obtain⟨j,hj,ea⟩:=List.mem_take_iff_getElem.mp ha
  have Ra:j < k:=by omega
  have:=pairwise_iff_getElem.mp h.sort j k (by rw[length_map];omega) (by rw[length_map];exact hk) Ra
  rw[List.getElem_map,List.getElem_map,ea]at this
  omega
 rw[QZ];rfl
theorem jX {n:Int}{ps:List (Int × Int)}{r:Rw}(h:eK n ps r=true):∀ k ∈ r.s,k < ps.length:=by
 unfold eK at h
 simp only[Bool.and_eq_true,all_eq_true,decide_eq_true_eq]at h
 intro k hk
 exact mem_range.mp (mem_filter.mp (h.2.2 k hk)).1
noncomputable def lz (rs:List Rw)(k:gc):Nat:=match dQ rs k with
 | some r=>Yd.zI r.s 0
 | none=>0
theorem m6 {rs:List Rw}{k:gc}{r:Rw}(h:dQ rs k=some r):r ∈ rs:=mem_reverse.mp (List.mem_of_find?_eq_some h)
noncomputable def IA (rs:List Rw):Wf:=fun p g k=>mN (lz rs (aZ ⟨(p:Int),(g:Int),k,[]⟩))
noncomputable def BB (P:Program)(w:World)(ts:Ts):TJ:=fun H x n wy=>∃ (dx de:Addr)(lv:V)(kvs:List dI)(rs:List Rw),H x=some (.ins ts.told dx [("land",lv),("entries", .ref de)])/\zR P w H de kvs/\(∀ k,ce kvs k=(dQ rs k).map rT)/\(∀ r ∈ rs,∀ k ∈ r.s,k < 40)/\wy=IA rs
theorem BB.keep {P:Program}{w:World}{ts:Ts}{H H':Hp}{x:Addr}{n:Nat}{wy:Wf}(h:BB P w ts H x n wy)(k:zH H H'):BB P w ts H' x n wy:=by
 obtain⟨dx,de,lv,kvs,rs,h1,⟨h2,h3⟩,h4⟩:=h
 exact⟨dx,de,lv,kvs,rs,k _ _ h1 True.intro,⟨k _ _ h2 True.intro,fun y hy=>k _ _ (h3 y hy) True.intro⟩,h4⟩
theorem yw {ks:List Nat}{z:Nat}(h:z ∈ mN (Yd.zI ks 0)):z ∈ ks:=by
 have:=(mem_filter.mp h).2
 have h2:(Yd.zI ks 0).testBit z=true:=this
 rw[pX,decide_eq_true_eq]at h2
 obtain⟨n,hn,e⟩:=Am.mp h2
 have:n=z:=by omega
 exact this ▸ hn
theorem m5 (m:Nat):(mN m).Nodup:=List.nodup_range.filter _
theorem qY {rs:List Rw}{n:Nat}(h:∀ r ∈ rs,∀ k ∈ r.s,k < n)(p g:Nat)(k:Option Nat):(∀ z ∈ IA rs p g k,z < n)/\(IA rs p g k).length <= n:=by
 have h1:∀ z ∈ IA rs p g k,z < n:=fun z hz=>by
  unfold IA lz at hz
  cases hl:dQ rs (aZ ⟨(p:Int),(g:Int),k,[]⟩) with
  | none=>rw[hl]at hz;exact absurd hz (by show z ∉ mN 0;intro h;cases h)
  | some r=>rw[hl]at hz;exact h r (m6 hl) z (yw hz)
 exact⟨h1,dN n _ (m5 _) h1⟩
theorem nj {ts:Ts}{f:Addr}{fd:FuncData}(G:zb P w K mg base aG 3 f fd ["self", "place", "goal", "came"] (oM P w ts)):zb P w K mg base aG 3 f fd ["self", "place", "goal", "came"] (dX (BB P w ts)) :=
 G.imp fun vs H Q E ⟨x,n,wy,p,g,k,e,⟨dx,de,lv,kvs,rs,h1,h2,h3,h4,h5⟩,hp,hg,q⟩=>⟨x,dx,de,lv,kvs,⟨(p:Int),(g:Int),k,[]⟩,lz rs (aZ ⟨(p:Int),(g:Int),k,[]⟩),e,h1,h2,by
  rw[h3]
  unfold lz
  cases dQ rs (aZ ⟨(p:Int),(g:Int),k,[]⟩)<;>rfl,by
  unfold lz
  cases hl:dQ rs (aZ ⟨(p:Int),(g:Int),k,[]⟩) with
  | none=>exact Nat.two_pow_pos _
  | some r=>exact lt_of_lt_of_le (rR (h4 r (m6 hl))) (pow_le_pow_right (by decide) (by decide)),fun H' D s' hD=>q D _ (s'.new hD) (s'.free hD) (by rw[ac,h5];rfl)⟩
theorem pO {sel:Int × Int->Int}{ps:List (Int × Int)}{pl:Int}{g:TG}{tt:TT}{te:TE}{σ0:St}{H:Hp}{Q:VK}(hn:ps.length < sizeLine)
  (hs:∀ (i:Nat)(acc:List V)(N:List V->Hp->Prop)(pr:Int × Int),ps[i]? = some pr->N (if decide (sel pr=pl)=true then acc ++ [V.int i] else acc) H->g (.int i) σ0 H fun σ2 H2=>tt σ2 H2 fun b H3=>if b=true then te σ2 H3 fun y H4=>N (acc ++ [y]) H4 else N acc H3)
  (hq:∀ D,H D=none->Q (.ref D) (upd H D (.lst (bQ (eI sel ps pl))))):dz (w6 0 ps.length) g tt te σ0 Q H:=by
 refine mO (lo:=0) (fun k=>decide (sel (ps.getD k (0,0))=pl)) (fun k=>V.int k) hn (fun i acc N hi h=>?_) hq
 obtain⟨pr,hpr⟩:∃ pr,ps[i]? = some pr:=⟨ps[i],List.getElem?_eq_getElem hi⟩
 have eg:ps.getD i (0,0)=pr:=by rw[getD_eq_getElem?_getD,hpr];rfl
 rw[zero_add]
 rw[eg]at h
 exact hs i acc N pr hpr h
noncomputable def Rb (x:Addr)(H:Hp)(v:V)(r:Rw):Prop:=∃ t l,v = .ref t/\GU H t l r/\l ≠ x
abbrev Bw (x:Addr)(H:Hp):List V->List Rw->Prop:=Paired (Rb x H)
theorem Bw.imp {x:Addr}{H H':Hp}{G:V->Rw->Prop}(h:∀ v r,Rb x H v r->G v r):∀ {vs:List V}{rs:List Rw},Bw x H vs rs->Paired G vs rs
 | _,_, .nil => .nil
 | _,_, .cons z r => .cons (h _ _ z) (Bw.imp (H':=H') h r)
theorem Bw.rws {x:Addr}{H:Hp}{vs:List V}{rs:List Rw}(h:Bw x H vs rs):C1 H vs rs:=Bw.imp (H':=H) (fun _ _ ⟨t,l,e,z,_⟩=>⟨t,l,e,z⟩) h
theorem Bw.same {x:Addr}{H H':Hp}(s:za H H'){vs:List V}{rs:List Rw}(h:Bw x H vs rs):Bw x H' vs rs:=Bw.imp (H':=H) (fun _ _ ⟨t,l,e,z,n⟩=>⟨t,l,e,z.same s,n⟩) h
theorem Bw.off {x:Addr}{H:Hp}{xs:List V}{o:HO}(hx:H x=some (.lst xs)){vs:List V}{rs:List Rw}(h:Bw x H vs rs):Bw x (upd H x o) vs rs :=
 Bw.imp (H':=H) (fun _ _ ⟨t,l,e,z,n⟩=>⟨t,l,e,⟨by rw[ae (aY z.1 hx (by intro z;cases z))];exact z.1,by rw[ae n];exact z.2⟩,n⟩) h
theorem Bw.snoc {x:Addr}{H:Hp}{v:V}{r:Rw}(h:Rb x H v r):∀ {vs:List V}{rs:List Rw},Bw x H vs rs->Bw x H (vs ++ [v]) (rs ++ [r])
 | _,_, .nil => .cons h .nil
 | _,_, .cons z t => .cons z (Bw.snoc h t)
theorem Rc (m k:Nat):decide (V.int (Builtin.bitAnd ((m:Int) / 2 ^ (k:Int).toNat) 1)=V.int 1)=m.testBit k:=by
 rw[gq,toNat_natCast,← Yd.CN m k]
theorem qQ {K:Frag}{a:Addr}{xs:List Nat}{g:TG}{tt:TT}{te:TE}{σ0:St}{H:Hp}{Q:VK}(q:Nat->Bool)(hn:xs.length < sizeLine)(ha:zf K H a (bQ xs))
  (hs:∀ (k:Nat)(acc:List V)(N:List V->Hp->Prop),k ∈ xs->N (if q k then acc ++ [V.int (k:Int)] else acc) H->g (.int (k:Int)) σ0 H fun σ2 H2=>tt σ2 H2 fun b H3=>if b=true then te σ2 H3 fun y H4=>N (acc ++ [y]) H4 else N acc H3)
  (hq:∀ D,H D=none->Q (.ref D) (upd H D (.lst (bQ (xs.filter q))))):dz (uA K a) g tt te σ0 Q H:=by
 refine fA (xs:=bQ xs) (fun v=>match v with | .int k=>q k.toNat | _=>false) (fun v=>v) (by unfold bQ;rw[length_map];exact hn) ha (fun x acc N hx h=>?_) fun D hD=>?_
 ·obtain⟨k,hk,rfl⟩:=mem_map.mp hx
  exact hs k acc N hk h
 ·have e:((bQ xs).filter (fun v=>match v with | .int k=>q k.toNat | _=>false)).map (fun v=>v)=bQ (xs.filter q):=by
   unfold bQ
   rw[List.map_id'',List.filter_map]
   ·congr 1
   ·intro _;rfl
  rw[e]
  exact hq D hD
theorem CW.len {n:Nat}{ps:List (Int × Int)}{B:Nat}{rs:List Rw}(h:CW n ps B rs):rs.length <= B:=by
 have:=dN B (rs.map sH) (h.sort.imp fun h=>ne_of_lt h) fun x hx=>by
  obtain⟨r,hr,rfl⟩:=mem_map.mp hx
  exact h.low r hr
 rw[length_map]at this
 exact this
theorem ui {n:Nat}{ps:List (Int × Int)}(h1:1 <= n)(h2:n <= 12)(h3:ps.length <= 40)(h:∀ p ∈ ps,jl n p=true):fz n ps = .good:=by
 unfold fz
 rw[decide_eq_true (show (1:Int) <= (n:Int)/\(n:Int) <= 12 by omega),if_neg (by decide),if_neg (by omega),j4 h]
noncomputable def yR (s:Stmt):Scope:=match s with
 | .Assign _ (.ListComp _ _ sc _) _=>sc
 | _=>{ kind := .function,names:=[],isGenerator:=false,isCoroutine:=false }
noncomputable def qw (b:List Stmt)(i:Nat):Stmt:=b.getD i (.Pass ⟨0,0,0,0⟩)
noncomputable def ou (s:Stmt):List Stmt:=match s with
 | .For _ _ b _ _=>b
 | _=>[]
noncomputable def ScV (x:V):Prop:=(∃ i,x = .int i)∨∃ t,x = .str t/\PyData.strOk t=true
structure IB (a:YA)(s:YS):Prop where
 lanes:s.lanes.length=a.ps.length
 lies:s.lies.length=a.n
 q0:∀ (k:Nat)(ln:bU),s.lanes[k]? = some ln->ln.qs=[]
 l0:∀ (p:Nat)(qs:List (Int × Int)),s.lies[p]? = some qs->qs=[]
 lets:∀ (m:Nat)(t:aW),s.yZ[m]? = some t->t.gone=0/\t.way=[]/\0 <= t.len/\t.len <= 60/\∃ x y:Nat,t.start=(x:Int)/\t.goal=(y:Int)/\x < a.n/\y < a.n
 done:∀ d ∈ s.done,∀ x ∈ d,ScV x
theorem xm {α:Type}(f:α->Nat):∀ {L:List α},(∀ (k:Nat)(x:α),L[k]? = some x->f x=0)->(L.map f).sum=0
 | [],_=>rfl
 | x :: L,h=>by
  have h1:=h 0 x rfl
  have h2:=xm f (L:=L) fun k y hy=>h (k + 1) y hy
  simp only[map_cons,sum_cons];omega
theorem wD {α:Type}(f:α->Int):∀ {L:List α},(∀ (k:Nat)(x:α),L[k]? = some x->f x=0)->(L.map f).sum=0
 | [],_=>rfl
 | x :: L,h=>by
  have h1:=h 0 x rfl
  have h2:=wD f (L:=L) fun k y hy=>h (k + 1) y hy
  simp only[map_cons,sum_cons];omega
theorem IB.jnv {a:YA}{s:YS}(h:IB a s)(Ad:s.yZ.length <= 60)(DY:a.ps.length <= 40):AK a s:=by
 refine⟨h.lanes,h.lies,Ad,DY,fun m t ht=>(h.lets m t ht).2.2.2.2,fun m t ht=>?_,fun k ln hk q hq=>?_,fun m t ht=>?_,fun m t ht _=>(h.lets m t ht).2.1,fun m t ht i l hi=>?_,fun m t ht l ln hl=>?_,fun k ln hk i j z q hi=>?_,fun k ln hk m t hm=>?_,?_⟩
 ·rw[(h.lets m t ht).2.1];exact⟨(fun l hl=>by cases hl),nodup_nil⟩
 ·rw[h.q0 k ln hk]at hq;cases hq
 ·obtain⟨h1,h2,h3,h4,_⟩:=h.lets m t ht
  rw[h1];exact⟨by omega,h3,h4⟩
 ·rw[(h.lets m t ht).2.1]at hi;cases hi
 ·rw[(h.lets m t ht).2.1]at hl;cases hl
 ·rw[h.q0 k ln hk]at hi;cases hi
 ·rw[h.q0 k ln hk]at hm;cases hm
 ·have h1:j9 s=0:=xm _ fun k ln hk=>by rw[h.q0 k ln hk];rfl
  have h2:i8 s=0:=xm _ fun p qs hp=>by rw[h.l0 p qs hp];rfl
  have h3:gh s=0:=wD _ fun m t ht=>(h.lets m t ht).1
  rw[h1,h2,h3];rfl
theorem IB.post {a:YA}{s:YS}(h:IB a s){x y:Nat}{l u:Int}(hx:x < a.n)(hy:y < a.n)(hl:0 <= l/\l <= 60):IB a (cI s x y l u):=by
 refine⟨h.lanes,h.lies,h.q0,h.l0,fun m t ht=>?_,fun d hd z hz=>?_⟩
 ·have ht:(s.yZ ++ [⟨(x:Int),(y:Int),l,u,0,[]⟩])[m]? = some t:=ht
  by_cases hm:m < s.yZ.length
  ·rw[List.getElem?_append_left hm]at ht;exact h.lets m t ht
  ·have h3:=(List.getElem?_eq_some_iff.mp ht).1
   rw[length_append,length_singleton]at h3
   have em:m=s.yZ.length:=by omega
   subst em
   rw[List.getElem?_concat_length]at ht
   cases ht
   exact⟨rfl,rfl,hl.1,hl.2,x,y,rfl,rfl,hx,hy⟩
 ·rcases mem_append.mp hd with hd | hd
  ·exact h.done d hd z hz
  ·rw[mem_singleton.mp hd]at hz
   simp only[mem_cons,not_mem_nil,or_false]at hz
   rcases hz with rfl | rfl | rfl | rfl | rfl
   ·exact .inr ⟨_,rfl,by decide +kernel⟩
   ·exact .inl ⟨_,rfl⟩
   ·exact .inl ⟨_,rfl⟩
   ·exact .inl ⟨_,rfl⟩
   ·exact .inl ⟨_,rfl⟩
theorem qi {n a b:Nat}{wy:Wf}{m:Nat}{l u:Int}(ha:a < n)(hb:b < n)(hl:1 <= l/\l <= 60)(hu:Nx (.int u)=true)(Ip:a ≠ b)(hw:wy a b none ≠ [])(hm:m < 60):kS n wy m (.int a) (.int b) (.int l) (.int u) = .good:=by
 unfold kS
 rw[show jK (.int (a:Int)) 0 ((n:Int) - 1)=true from decide_eq_true (by omega),show jK (.int (b:Int)) 0 ((n:Int) - 1)=true from decide_eq_true (by omega),show jK (.int l) 1 60=true from decide_eq_true hl,hu,if_neg (by decide),if_neg (by decide),if_neg (by decide)]
 rw[if_neg (by
  rintro (h | h)
  ·have h:(a:Int)=(b:Int):=h
   omega
  ·have h:wy ((a:Int)).toNat ((b:Int)).toNat none=[]:=h
   rw[toNat_natCast,toNat_natCast]at h
   exact hw h),if_neg (by omega)]
noncomputable def sT (p:Int × Int):PyData := .tuple [.int p.1, .int p.2]
theorem mG {K:Frag}{H:Hp}:∀ {vs:List V}{ps:List (Int × Int)},zy H vs ps->j7 K H vs (ps.map sT)
 | _,_, .nil => .nil
 | _,_, .cons ⟨t,e,h⟩ r => .cons (by subst e;exact .tup (zh.of h) (.cons (.int _) (.cons (.int _) .nil))) (mG r)
theorem qd (ps:List (Int × Int)):By (.list (ps.map sT)) 64:=(eM (m:=1) fun z hz=>by
 obtain⟨p,_,rfl⟩:=mem_map.mp hz
 exact jI (m:=0) fun y hy=>by
  simp only[mem_cons,not_mem_nil,or_false]at hy
  rcases hy with rfl | rfl<;>exact c5 _).le (by decide)
theorem uO (ms:List Mv):By (.list (ms.map uD)) 64:=(eM (m:=1) fun z hz=>by
 obtain⟨m,_,rfl⟩:=mem_map.mp hz
 exact kG m).le (by decide)
theorem CY:By (.list []) 64:=(eM (m:=0) fun z hz=>by cases hz).le (by decide)
theorem pJ {α:Type}(f:α->PyData)(l:List α):PyData.eqv (.list (l.map f)) (.list [])=l.isEmpty:=by
 cases l<;>simp[PyData.eqv,PyData.eqvAll]
theorem Rf {K:Frag}{x y:V}{H:Hp}{Q:VK}{α:Type}{f:α->PyData}{l:List α}(h1:lu K H x (.list (l.map f)))(h2:lu K H y (.list []))(s:By (.list (l.map f)) 64)(q:Q (.bl l.isEmpty) H):J5 K x y H Q :=
 ⟨_,_,h1,h2,s.shaped (Nat.le_refl _),CY.shaped (Nat.le_refl _),by rw[pJ];exact q⟩
theorem neN {K:Frag}{x y:V}{H:Hp}{Q:VK}{α:Type}{f:α->PyData}{l:List α}(h1:lu K H x (.list (l.map f)))(h2:lu K H y (.list []))(s:By (.list (l.map f)) 64)(q:Q (.bl (!l.isEmpty)) H):J6 K x y H Q :=
 ⟨_,_,h1,h2,s.shaped (Nat.le_refl _),CY.shaped (Nat.le_refl _),by rw[pJ];exact q⟩
theorem lF {ex:List Addr}{H H1 H2:Hp}(s:za H H1)(o:zk ex H1 H2)(hn:∀ b ∈ ex,H b=none):za H H2:=fun b u e=>o b _ (fun z=>by rw[hn b z]at e;cases e) (s b u e)
theorem AK.done {a:YA}{s:YS}(J:AK a s)(d:List (List V)):AK a { s with done:=d }:=⟨J.lanes,J.lies,J.Ad,J.DY,J.lets,J.Ao,J.Aq,J.Bk,J.Aa,J.last,J.head,J.first,J.D9,J.sum⟩
theorem Rg {a:YA}{zq:List V}(h:zq.length=a.ps.length):IB a (Y0 zq a.n):=by
 refine⟨by show(zq.map p9).length=_;rw[length_map];exact h,by show(List.replicate a.n []).length=_;rw[length_replicate],fun k ln hk=>?_,fun p qs hp=>?_,fun m t ht=>?_,fun d hd=>?_⟩
 ·have hk:(zq.map p9)[k]? = some ln:=hk
  rw[List.getElem?_map]at hk
  cases hr:zq[k]? with
  | none=>rw[hr]at hk;cases hk
  | some v=>rw[hr]at hk;cases hk;rfl
 ·have hp:(List.replicate a.n ([]:List (Int × Int)))[p]? = some qs:=hp
  exact eq_of_mem_replicate (mem_of_getElem? hp)
 ·have ht:([]:List aW)[m]? = some t:=ht
  cases ht
 ·have hd:d ∈ ([]:List (List V)):=hd
  cases hd
noncomputable def lim (xs:List Nat)(t:Nat):Nat:=if t=0 then 0 else xs.getD (t - 1) 0 + 1
theorem yy {xs:List Nat}(hs:xs.Pairwise (· < ·)){t p:Nat}(h:xs[t]? = some p):lim xs t <= p:=by
 unfold lim
 by_cases h0:t=0
 ·rw[if_pos h0];omega
 ·rw[if_neg h0]
  obtain⟨ht,e⟩:=List.getElem?_eq_some_iff.mp h
  have h1:=pairwise_iff_getElem.mp hs (t - 1) t (by omega) ht (by omega)
  rw[getD_eq_getElem?_getD,List.getElem?_eq_getElem (by omega)]
  rw[e]at h1
  exact h1
theorem tU {xs:List Nat}{t p:Nat}(h:xs[t]? = some p):lim xs (t + 1)=p + 1:=by
 unfold lim
 rw[if_neg (by omega),Nat.add_sub_cancel,getD_eq_getElem?_getD,h];rfl
theorem vR {xs:List Nat}(h:∀ p ∈ xs,p < 100):lim xs xs.length <= 100:=by
 unfold lim
 by_cases h0:xs.length=0
 ·rw[if_pos h0];omega
 ·rw[if_neg h0,getD_eq_getElem?_getD,List.getElem?_eq_getElem (show xs.length - 1 < xs.length by omega)]
  exact h _ (getElem_mem _)
end K92
namespace L2
open PySem
theorem zb.ex {P:Program}{w:World}{K:Frag}{mg:Str->Option Value}{base:Heap}{CX:oF}{k:Nat}{f:Addr}{fd:FuncData}{ps:List Str} {ι:Type} {sp:ι->Sp} (h:∀ i,zb P w K mg base CX k f fd ps (sp i)):zb P w K mg base CX k f fd ps (fun vs H Q E=>∃ i,sp i vs H Q E) :=
 ⟨fun vs H Q E ⟨i,q⟩=>(h i).len vs H Q E q,fun A outer s H args us vs Q E hr he hb hv ⟨i,hs⟩=>(h i).run A outer s H args us vs Q E hr he hb hv hs⟩
end L2
namespace K92
open PySem L2
variable {P:Program}{w:World}{K:Frag}{mg:Str->Option Value}{base:Heap}
noncomputable def b9 (ps:List (Int × Int))(p:Nat):List (Option Nat):=none :: (eI Prod.snd ps (p:Int)).map some
theorem wm (ps:List (Int × Int))(p:Nat):[V.zt] ++ bQ (eI Prod.snd ps (p:Int))=(b9 ps p).map cV:=by
 unfold b9 bQ
 rw[map_cons,map_map];rfl
theorem o0 (ps:List (Int × Int))(p:Nat):((b9 ps p).map uF).Pairwise (· < ·):=by
 unfold b9
 rw[map_cons,map_map,pairwise_cons]
 refine⟨fun x hx=>?_,?_⟩
 ·obtain⟨k,_,rfl⟩:=mem_map.mp hx
  show 0 < k + 1
  omega
 ·refine List.Pairwise.map _ (fun a b h=>?_) (List.Pairwise.filter _ pairwise_lt_range)
  show a + 1 < b + 1
  omega
theorem kj {ps:List (Int × Int)}{p:Nat}{cc:Option Nat}(h:cc ∈ b9 ps p):uF cc <= ps.length/\∀ k,cc=some k->k ∈ eI Prod.snd ps (p:Int):=by
 rcases mem_cons.mp h with rfl | h
 ·exact⟨zero_le _,fun k e=>by cases e⟩
 ·obtain⟨k,hk,rfl⟩:=mem_map.mp h
  refine⟨?_,fun k' e=>by cases e;exact hk⟩
  have:=mem_range.mp (mem_filter.mp hk).1
  show k + 1 <= _
  omega
noncomputable def rA:Sp:=fun vs H Q _=>∃ (l:Addr)(zo:List V)(ps:List (Int × Int))(n:Nat)(cl:Int),vs=[.int n, .ref l, .int cl]/\H l=some (.lst zo)/\zy H zo ps/\(∀ p ∈ ps,jl n p=true)/\ps.length <= 10/\2 <= n/\n <= 5 /\
 ∀ (D:Addr)(zq:List V)(rs:List Rw)(H':Hp),za H H'->H D=none->H' D=some (.lst zq)->C1 H' zq rs->CW n ps 50000 rs->Q (.ref D) H'
abbrev NJ:List Str:=["_law_places", "_law_lanes_here", "_law_cell", "_law_rows_here", "_law_place", "_law_out", "_law_cames", "_law_goal", "_law_came", "_law_draw", "_law_ways"]
noncomputable def yQ (s:Stmt):Scope:=match s with
 | .Assign _ (.BinOp _ _ (.ListComp _ _ sc _) _) _=>sc
 | _=>{ kind := .function,names:=[],isGenerator:=false,isCoroutine:=false }
noncomputable def kT:List Stmt:=ou (qw (aJ jc) 1)
noncomputable def vX:List Stmt:=ou (qw (ou (qw kT 2)) 0)
theorem AL:ap NJ ["_law_places", "_law_lanes_here", "_law_cell"] (aj jc):=L2.zF
theorem LB:As NJ (aj jc) (yR (qw kT 0)) ["_law_lanes_here", "_law_place"] [1,4]:=L2.B3
theorem LC:As NJ (aj jc) (yQ (qw kT 1)) ["_law_lanes_here", "_law_place"] [1,4]:=L2.B3
theorem LD:As NJ (aj jc) (yR (qw vX 1)) ["_law_draw"] [9]:=L2.B3
theorem wR:(["_law_lane", "_law_lanes_here", "_law_place"]:List Str).Nodup:=by decide +kernel
theorem LF:(["_law_lane", "_law_draw"]:List Str).Nodup:=by decide +kernel
theorem vt {f fm:Addr}{fd dm:FuncData}(F:zA K "_law_rows" "_law_rows" jc f fd)(T:fB mg)(mm:mg "_law_mixed" = some (.ref fm))(km:keepIn K (.ref fm)=true)(bm:Binds K dm ["_law_cell", "_law_k"] [])(Gm:zb P w K mg base aG 1 fm dm ["_law_cell", "_law_k"] jH) :
  zb P w K mg base aG 2 f fd ["_law_places", "_law_lanes_here", "_law_cell"] rA:=by
 refine F.ok AL (fun vs H Q E h=>?_) (fun cdv A outer s H vs Q E hr h=>?_)
 ·obtain⟨l,zo,ps,n,cl,rfl,_⟩:=h
  rfl
 ·obtain⟨l,zo,ps,n,cl,rfl,gl,EJ,zg,Aj,AV,LG,q⟩:=h
  refine⟨_,af (aD (i:=3) AL.nd rfl (Or.inl rfl) (aU ad))
   (af (bD PassesOwn.never rfl (aR rfl T.range (aa (pv 0) ad)) (ay (i:=4) AL.nd rfl (Or.inr rfl))
    (af (gk (i:=5) (own:=["_law_lane"]) (capN:=["_law_lanes_here", "_law_place"]) (cap:=[1,4]) LB rfl AL.nd rfl rfl (aR rfl T.range (aa (aF ax rfl T.len PySem.boot_len (aa (pv 1) ad)) ad))
     (fun C s' H' fp=>⟨ay (i:=0) wR rfl (Or.inl rfl),bV (av bz (aw (show oE _ (kM K) from aA) (aw (show oE _ (sK K) from aM) (pv 1) (pv 0) (fun _ _=>rfl)) ak (fun _ _=>rfl)) (pv 2) (az _)),pv 0⟩))
    (af (aD (i:=6) AL.nd rfl (Or.inl rfl) (aC sX (aU (aa cx ad)) (b5 (own:=["_law_lane"]) (capN:=["_law_lanes_here", "_law_place"]) (cap:=[1,4]) LC rfl (aR rfl T.range (aa (aF ax rfl T.len PySem.boot_len (aa (pv 1) ad)) ad))
     (fun C s' H' fp=>⟨ay (i:=0) wR rfl (Or.inl rfl),bV (av bz (aw (show oE _ (kM K) from aA) (aw (show oE _ (sK K) from aM) (pv 1) (pv 0) (fun _ _=>rfl)) ak (fun _ _=>rfl)) (pv 2) (az _)),pv 0⟩))))
    (ai (bD PassesOwn.never rfl (aR rfl T.range (aa (pv 0) ad)) (ay (i:=7) AL.nd rfl (Or.inl rfl))
     (ai (bD PassesOwn.never rfl (bC (pv 6)) (ay (i:=8) AL.nd rfl (Or.inl rfl))
      (af (aD (i:=9) AL.nd rfl (Or.inr rfl) (au Gm hr rfl mm km bm .nil aq (aa (pv 2) (aa (aF ax rfl T.len PySem.boot_len (aa (pv 3) ad)) ad))))
      (af (gk (i:=10) (own:=["_law_lane"]) (capN:=["_law_draw"]) (cap:=[9]) LD rfl AL.nd rfl rfl (bC (pv 5))
       (fun C s' H' fp=>⟨ay (i:=0) LF rfl (Or.inl rfl),bV (PW.pt (i3 (av bz (aC sY (aC nP (pv 1) (aC bE ak (pv 0))) ak) ak (az _)) (eP (av bz (aC bv (pv 1) ak) ak (az _))))),pv 0⟩))
      (ai (aO (av jk (pv 4) (pv 7) (az _))
       (ai (aQ (c4 plainAttrs_list PySem.F.slot_list_append PySem.F.type_list_append bN (pv 3) (aa (bG (aa (pv 4) (aa (pv 7) (aa (pv 8) (aa (pv 10) ad))))) ad)))) aI)))))))))))
   (ai (ar (pv 3)))),?_⟩
  have En:zo.length=ps.length:=Paired.length EJ
  refine⟨zero_le _,fun D hD=>?_⟩
  have s0:=(za.refl H).new (o := .lst []) hD
  have g0:(upd H D (.lst [])) D=some (.lst []):=ac
  show cU 3 (V.ref D) _ _ _
  generalize upd H D (.lst [])=H0 at s0 g0 ⊢
  refine⟨_,rfl,(n:Int),rfl,by omega,by omega,?_⟩
  rw[toNat_natCast]
  refine b7 (n:=n) (fun i σ H2=>∃ (a4 a5 a6 a7 a8 a9 Eb:Option V)(zq:List V)(rs:List Rw),za H H2/\H2 D=some (.lst zq)/\Bw D H2 zq rs/\CW n ps (i * 10000) rs/\σ=[some (.int n),some (.ref l),some (.int cl),some (.ref D),a4,a5,a6,a7,a8,a9,Eb])
   ⟨none,none,none,none,none,none,none,[],[],s0,g0, .nil,⟨List.Pairwise.nil,(fun r hr=>by cases hr),(fun r hr=>by cases hr),(fun r hr=>by cases hr)⟩,rfl⟩ ?_ ?_
  rotate_left
  ·rintro σ H2 ⟨a4,a5,a6,a7,a8,a9,Eb,zq,rs,s2,g2,hR,hO,rfl⟩
   exact⟨_,rfl,q D zq rs H2 s2 hD g2 hR.rws (hO.up (by omega))⟩
  rintro p σ H2 hpn ⟨a4,a5,a6,a7,a8,a9,Eb,zq,rs,s2,g2,hR,hO,rfl⟩
  rw[zero_add]
  have pick:∀ (sel:Int × Int->Int)(j:Nat)(Hx:Hp)(sx:za H Hx)(σ0:St),True:=fun _ _ _ _ _=>True.intro
  refine⟨_,rfl,l,_,rfl, .inl (zf.of (s2 _ _ gl)),(zo.length:Int),rfl,by omega,by omega,?_⟩
  rw[toNat_natCast,En]
  refine pO (sel:=Prod.fst) (ps:=ps) (pl:=(p:Int)) (by rw[sizeLine_eq];omega) (fun z acc N pr hpr h=>?_) (fun Ou Vo=>?_)
  ·obtain⟨v,hv,u,rfl,gu⟩:=zy.DN EJ hpr
   refine⟨_,rfl,_,rfl,l,zo,_,_,rfl,rfl,zf.of (s2 _ _ gl),al hv,u,_,0,_,rfl,rfl,zh.of (s2 _ _ gu),al (j:=0) rfl,_,rfl,rfl,_,rfl,?_⟩
   rw[gq]
   cases hb:decide (pr.1=(p:Int)) with
   | true =>
    have zW:decide (Prod.fst pr=(p:Int))=true:=hb
    rw[zW]at h
    exact aK ⟨_,rfl,h⟩
   | false =>
    have zW:decide (Prod.fst pr=(p:Int))=false:=hb
    rw[zW]at h
    exact aH h
  have Du:∀ sel:Int × Int->Int,(eI sel ps (p:Int)).length <= 10:=fun sel=>by
   have:=length_filter_le (fun k=>decide (sel (ps.getD k (0,0))=(p:Int))) (List.range ps.length)
   rw[length_range]at this
   unfold eI
   omega
  have u1:=(za.refl H2).new (o := .lst (bQ (eI Prod.fst ps (p:Int)))) Vo
  have gO:(upd H2 Ou (.lst (bQ (eI Prod.fst ps (p:Int))))) Ou=some (.lst (bQ (eI Prod.fst ps (p:Int)))):=ac
  have nO:Ou ≠ D:=Ne.symm (ah g2 Vo)
  show cU 5 (V.ref Ou) _ (upd H2 Ou (.lst (bQ (eI Prod.fst ps (p:Int))))) _
  generalize upd H2 Ou (.lst (bQ (eI Prod.fst ps (p:Int))))=H3 at u1 gO ⊢
  have s3:=s2.trans u1
  refine⟨by show 1 <= sizeLine;decide,fun o1 HF=>?_⟩
  have u2:=(za.refl H3).new (o := .lst [.zt]) HF
  have DA:(upd H3 o1 (.lst [.zt])) o1=some (.lst [.zt]):=ac
  generalize upd H3 o1 (.lst [.zt])=H4 at u2 DA ⊢
  have s4:=s3.trans u2
  refine⟨_,rfl,l,_,rfl, .inl (zf.of (s4 _ _ gl)),(zo.length:Int),rfl,by omega,by omega,?_⟩
  rw[toNat_natCast,En]
  refine pO (sel:=Prod.snd) (ps:=ps) (pl:=(p:Int)) (by rw[sizeLine_eq];omega) (fun z acc N pr hpr h=>?_) (fun o2 AG=>?_)
  ·obtain⟨v,hv,u,rfl,gu⟩:=zy.DN EJ hpr
   refine⟨_,rfl,_,rfl,l,zo,_,_,rfl,rfl,zf.of (s4 _ _ gl),al hv,u,_,1,_,rfl,rfl,zh.of (s4 _ _ gu),al (j:=1) rfl,_,rfl,rfl,_,rfl,?_⟩
   rw[gq]
   cases hb:decide (pr.2=(p:Int)) with
   | true =>
    have zW:decide (Prod.snd pr=(p:Int))=true:=hb
    rw[zW]at h
    exact aK ⟨_,rfl,h⟩
   | false =>
    have zW:decide (Prod.snd pr=(p:Int))=false:=hb
    rw[zW]at h
    exact aH h
  have u3:=(za.refl H4).new (o := .lst (bQ (eI Prod.snd ps (p:Int)))) AG
  have go2:(upd H4 o2 (.lst (bQ (eI Prod.snd ps (p:Int))))) o2=some (.lst (bQ (eI Prod.snd ps (p:Int)))):=ac
  have LH:(upd H4 o2 (.lst (bQ (eI Prod.snd ps (p:Int))))) o1=some (.lst [.zt]):=by rw[ae (ah DA AG)];exact DA
  generalize upd H4 o2 (.lst (bQ (eI Prod.snd ps (p:Int))))=H5 at u3 go2 LH ⊢
  have Pu:=Du Prod.snd
  refine⟨o1,o2,_,_,rfl,rfl,LH,go2,by unfold bQ;rw[length_map,sizeLine_eq];simp only[length_singleton];omega,fun C hC=>?_⟩
  rw[wm]
  have u4:=(za.refl H5).new (o := .lst ((b9 ps p).map cV)) hC
  have gC:(upd H5 C (.lst ((b9 ps p).map cV))) C=some (.lst ((b9 ps p).map cV)):=ac
  have Vp:za H2 H5:=u1.trans (u2.trans u3)
  have nC:C ≠ D:=Ne.symm (ah (Vp _ _ g2) hC)
  show cU 6 (V.ref C) _ (upd H5 C (.lst ((b9 ps p).map cV))) _
  generalize upd H5 C (.lst ((b9 ps p).map cV))=H6 at u4 gC ⊢
  have Rh:=Vp.trans u4
  have gO6:=u4 _ _ (u3 _ _ (u2 _ _ gO))
  refine⟨_,rfl,(n:Int),rfl,by omega,by omega,?_⟩
  rw[toNat_natCast]
  refine b7 (n:=n) (fun i σ H7=>∃ (a7 a8 a9 Eb:Option V)(zq:List V)(rs:List Rw),za H H7/\H7 D=some (.lst zq)/\H7 Ou=some (.lst (bQ (eI Prod.fst ps (p:Int))))/\H7 C=some (.lst ((b9 ps p).map cV))/\Bw D H7 zq rs/\CW n ps ((p * 100 + i) * 100) rs/\σ=[some (.int n),some (.ref l),some (.int cl),some (.ref D),some (.int (p:Int)),some (.ref Ou),some (.ref C),a7,a8,a9,Eb])
   ⟨_,_,_,_,zq,rs,s2.trans Rh,Rh _ _ g2,gO6,gC,hR.same Rh,hO.up (by omega),rfl⟩ ?_ ?_
  rotate_left
  ·rintro σ H7 ⟨a7,a8,a9,Eb,zq,rs,s7,g7,_,_,Ri,Rj,rfl⟩
   exact⟨_,_,_,_,_,_,_,zq,rs,s7,g7,Ri,Rj.up (by omega),rfl⟩
  rintro i σ H7 hi ⟨a7,a8,a9,Eb,zq,rs,s7,g7,gO7,Vq,Ri,Rj,rfl⟩
  rw[zero_add]
  refine⟨_,rfl,C,rfl,⟨_,zf.of Vq⟩,?_⟩
  have Dh:((b9 ps p).map cV).length=(b9 ps p).length:=length_map ..
  refine fv (K:=K) (a:=C) (xs:=(b9 ps p).map cV) (fun j σ Hb=>∃ (a8 a9 Eb:Option V)(zq:List V)(rs:List Rw),za H Hb/\Hb D=some (.lst zq)/\Hb Ou=some (.lst (bQ (eI Prod.fst ps (p:Int))))/\Hb C=some (.lst ((b9 ps p).map cV))/\Bw D Hb zq rs/\CW n ps ((p * 100 + i) * 100 + lim ((b9 ps p).map uF) j) rs/\σ=[some (.int n),some (.ref l),some (.int cl),some (.ref D),some (.int (p:Int)),some (.ref Ou),some (.ref C),some (.int (i:Int)),a8,a9,Eb])
   ⟨_,_,_,zq,rs,s7,g7,gO7,Vq,Ri,Rj.up (by omega),rfl⟩ (fun j σ Hb _ ⟨_,_,_,_,_,_,_,_,g,_⟩=>zf.of g) ?_ ?_
  rotate_left
  ·rintro σ Hb ⟨a8,a9,Eb,zq,rs,sb,gb,HG,NK,CK,IC,rfl⟩
   rw[Dh,← length_map (f:=uF) (as:=b9 ps p)]at IC
   have:=vR (xs:=(b9 ps p).map uF) fun x hx=>by
    obtain⟨cc,MR,rfl⟩:=mem_map.mp hx
    have:=(kj MR).1
    omega
   exact⟨_,_,_,_,zq,rs,sb,gb,HG,NK,CK,IC.up (by omega),rfl⟩
  rintro j v σ Hb hv ⟨a8,a9,Eb,zq,rs,sb,gb,HG,NK,CK,IC,rfl⟩
  obtain⟨cc,hcj,rfl⟩:∃ cc,(b9 ps p)[j]? = some cc/\cV cc=v:=by
   rw[List.getElem?_map]at hv
   cases hx:(b9 ps p)[j]? with
   | none=>rw[hx]at hv;cases hv
   | some cc=>rw[hx]at hv;exact⟨cc,rfl,Option.some.inj hv⟩
  obtain⟨hcl2,Rk⟩:=kj (mem_of_getElem? hcj)
  have LI:((b9 ps p).map uF)[j]? = some (uF cc):=by rw[List.getElem?_map,hcj];rfl
  have hlp:=yy (o0 ps p) LI
  have hls:=tU LI
  have CH:zq.length=rs.length:=Paired.length CK
  have hrm:=IC.len
  refine⟨_,rfl,_,rfl,D,_,rfl, .inl (zf.of gb),cl,zq.length,rfl,by omega,fun d hd=>?_⟩
  obtain⟨m,rfl⟩:∃ m:Nat,d=(m:Int):=⟨d.toNat,by omega⟩
  generalize LJ:eI Prod.fst ps (p:Int)=out at HG ⊢
  have EC:out.length <= 10:=by rw[← LJ];exact Du _
  refine⟨_,rfl,Ou,rfl,⟨_,zf.of HG⟩,?_⟩
  refine qQ (fun k=>m.testBit (3 + k) || decide ((m:Int) % 3=0)) (by rw[sizeLine_eq];omega) (zf.of HG) (fun k acc N hk h=>?_) (fun Wa Rl=>?_)
  ·refine⟨_,rfl,_,rfl,_,_,rfl,rfl,_,_,rfl,rfl,(show (0:Int) <= 3 + (k:Int) by omega),_,_,rfl,rfl,rfl,_,rfl,?_⟩
   dsimp only
   rw[show (3:Int) + (k:Int)=((3 + k:Nat):Int) by omega,Rc]
   cases hb:m.testBit (3 + k) with
   | true=>rw[hb,Bool.true_or]at h;exact aK (aK ⟨_,rfl,h⟩)
   | false =>
    rw[hb,Bool.false_or]at h
    refine aH ⟨_,rfl,_,_,rfl,rfl,(by show (0:Int) < 3;decide),rfl,_,rfl,?_⟩
    rw[gq]
    cases JE:decide ((m:Int) % 3=0) with
    | true=>rw[JE]at h;exact aK ⟨_,rfl,h⟩
    | false=>rw[JE]at h;exact aH h
  generalize Vr:(out.filter fun k=>m.testBit (3 + k) || decide ((m:Int) % 3=0))=us at Rl ⊢
  have husl:us.length <= 10:=by rw[← Vr];exact le_trans (length_filter_le _ _) EC
  have Rm:∀ k ∈ us,k ∈ out:=fun k hk=>by rw[← Vr]at hk;exact(mem_filter.mp hk).1
  have u5:=(za.refl Hb).new (o := .lst (bQ us)) Rl
  have gW:(upd Hb Wa (.lst (bQ us))) Wa=some (.lst (bQ us)):=ac
  have nW:Wa ≠ D:=Ne.symm (ah gb Rl)
  show cU 10 (V.ref Wa) _ (upd Hb Wa (.lst (bQ us))) _
  generalize upd Hb Wa (.lst (bQ us))=Hc at u5 gW ⊢
  refine⟨_,rfl,_,rfl,rfl,_,rfl,?_⟩
  rw[gq]
  by_cases Rn:(p:Int)=(i:Int)
  ·rw[decide_eq_true Rn]
   exact aH ⟨_,_,_,zq,rs,sb.trans u5,u5 _ _ gb,u5 _ _ HG,u5 _ _ NK,CK.same u5,IC.up (by omega),rfl⟩
  rw[decide_eq_false Rn]
  refine aK ⟨_,rfl, .inl ⟨rfl,_,zf.of (u5 _ _ gb)⟩,_,rfl,_,rfl,_,rfl,_,rfl,by show 4 <= sizeLine;decide,fun tt Ei=>?_⟩
  have u6:=u5.new (o := .tup [.int (p:Int), .int (i:Int),cV cc, .ref Wa]) Ei
  have gT:(upd Hc tt (.tup [.int (p:Int), .int (i:Int),cV cc, .ref Wa])) tt=some (.tup [.int (p:Int), .int (i:Int),cV cc, .ref Wa]):=ac
  have Vs:(upd Hc tt (.tup [.int (p:Int), .int (i:Int),cV cc, .ref Wa])) Wa=some (.lst (bQ us)):=by rw[ae (ah gW Ei)];exact gW
  generalize upd Hc tt (.tup [.int (p:Int), .int (i:Int),cV cc, .ref Wa])=Hf at u6 gT Vs ⊢
  have Vt:=u6 _ _ gb
  refine⟨D,zq,_,rfl,rfl,Vt,by rw[sizeLine_eq];omega,?_⟩
  have GD:eK n ps ⟨(p:Int),(i:Int),cc,us⟩ = true:=by
   unfold eK
   have ho:jl n ((p:Int),(i:Int))=true:=by
    unfold jl
    simp only[Bool.and_eq_true,decide_eq_true_eq,Bool.not_eq_true',decide_eq_false_iff_not]
    exact⟨⟨by omega,by omega⟩,⟨by omega,by omega⟩,Rn⟩
   rw[ho,Bool.true_and]
   have hs:(us.all fun z=>decide (z ∈ eI Prod.fst ps (p:Int)))=true:=by
    rw[all_eq_true]
    exact fun z hz=>decide_eq_true (by rw[LJ];exact Rm z hz)
   dsimp only
   rw[hs,Bool.and_true]
   cases cc with
   | none=>rfl
   | some k=>exact decide_eq_true (Rk k rfl)
  have Vu:sH ⟨(p:Int),(i:Int),cc,us⟩ = (p * 100 + i) * 100 + uF cc:=by
   unfold sH
   show(((p:Int)).toNat * 100 + ((i:Int)).toNat) * 100 + uF cc=_
   rw[toNat_natCast,toNat_natCast]
  have hOn:=IC.snoc (r:=⟨(p:Int),(i:Int),cc,us⟩) (by rw[Vu];omega) GD (by show us.length <= 40;omega)
  refine⟨_,_,_,zq ++ [.ref tt],rs ++ [⟨(p:Int),(i:Int),cc,us⟩],fun b o e=>by rw[ae (ah e hD)];exact u6 _ _ (sb _ _ e),ac,?_,?_,?_,hOn.up (by rw[Vu,hls];omega),rfl⟩
  ·rw[ae nO];exact u6 _ _ HG
  ·rw[ae nC];exact u6 _ _ NK
  ·have LK:=Bw.snoc (r:=⟨(p:Int),(i:Int),cc,us⟩) ⟨tt,Wa,rfl,⟨gT,Vs⟩,nW⟩ (CK.same u6)
   exact Bw.off Vt LK
noncomputable def TC (ts:Ts)(tn:pR):Bool->Addr
 | true=>tn.near
 | false=>ts.told
noncomputable def JJ (P:Program)(w:World)(ts:Ts)(tn:pR):Bool->TJ
 | true=>I0 P w tn
 | false=>BB P w ts
noncomputable def okE (n:Nat)(e:Nat × Nat):jl n (zp e)=true↔(e.1 < n/\e.2 < n/\e.1 ≠ e.2):=by
 unfold jl zp
 simp only[Bool.and_eq_true,decide_eq_true_eq,Bool.not_eq_true',decide_eq_false_iff_not]
 constructor
 ·rintro⟨⟨h1,h2⟩,⟨h3,h4⟩,h5⟩;exact⟨by omega,by omega,fun z=>h5 (by rw[z])⟩
 ·rintro⟨h1,h2,h3⟩;exact⟨⟨by omega,by omega⟩,⟨by omega,by omega⟩,by omega⟩
noncomputable def wW (n:Nat)(kvs:List dI):Wf:=fun p g k=>if p < n/\g < n then LA kvs p g k else []
theorem qZ {n:Nat}{es:Es}{kvs:List dI}(h:mY n es kvs n)(p g:Nat)(k:Option Nat):(∀ z ∈ wW n kvs p g k,z < es.length)/\(wW n kvs p g k).length <= es.length:=by
 have h1:∀ z ∈ wW n kvs p g k,z < es.length:=fun z hz=>by
  unfold wW at hz
  by_cases ID:p < n/\g < n
  ·rw[if_pos ID]at hz;exact wX h ID.2 hz
  ·rw[if_neg ID]at hz;cases hz
 refine⟨h1,dN _ _ ?_ h1⟩
 unfold wW
 by_cases ID:p < n/\g < n
 ·rw[if_pos ID];exact m5 _
 ·rw[if_neg ID];exact nodup_nil
noncomputable def rK (P:Program)(w:World)(K:Frag)(c:Cs)(ts:Ts)(tn:pR):Sp:=fun vs H Q _=>∃ (sc:Addr)(ns:List Int),vs=[.ref sc]/\zf K H sc (ns.map V.int) /\
 ∀ (b:Bool)(x lx zD lt:Addr)(n:Nat)(zi:List V)(ps:List (Int × Int))(wy:Wf)(H':Hp),za H H'->H x=none->AX c (TC ts tn b) (JJ P w ts tn b) H' x lx zD lt n zi ps wy->(∀ p g k,(wy p g k).length <= 400)->(∀ p ∈ ps,jl n p=true)->ps.length <= 8->2 <= n->n <= 5->Q (.ref x) H'
structure TbM (P:Program)(w:World)(K:Frag)(mg:Str->Option Value)(base:Heap)(c:Cs)(ts:Ts)(tn:pR)(fc fl fi fn ft fr:Addr)(dc dl di dn dt dr:FuncData):Prop where
 mc:mg "_law_cell_at" = some (.ref fc)
 kc:keepIn K (.ref fc)=true
 bc:Binds K dc ["_law_script", "_law_k"] []
 Gc:zb P w K mg base aG 1 fc dc ["_law_script", "_law_k"] (kE K)
 ml:mg "_law_lanes" = some (.ref fl)
 kl:keepIn K (.ref fl)=true
 bl:Binds K dl ["_law_places", "_law_amount", "_law_cell"] []
 Gl:zb P w K mg base aG 2 fl dl ["_law_places", "_law_amount", "_law_cell"] oU
 mi:mg "Land" = some (.ref c.land)
 Mi:Mk K c.land fi
 bi:Binds K di ["self", "places", "lanes"] []
 Gi:zb P w K mg base (eE P w) 4 fi di ["self", "places", "lanes"] (rM K c)
 mn:mg "Nearer" = some (.ref tn.near)
 Mn:Mk K tn.near fn
 bn:Binds K dn ["self", "land"] []
 Gn:zb P w K mg base aG 3 fn dn ["self", "land"] (rD P w c tn)
 mt:mg "Told" = some (.ref ts.told)
 Mt:Mk K ts.told ft
 bt:Binds K dt ["self", "land", "rows"] []
 Gt:zb P w K mg base (eE P w) 5 ft dt ["self", "land", "rows"] (r6 P w K c ts)
 mr:mg "_law_rows" = some (.ref fr)
 kr:keepIn K (.ref fr)=true
 br:Binds K dr ["_law_places", "_law_lanes_here", "_law_cell"] []
 Gr:zb P w K mg base aG 2 fr dr ["_law_places", "_law_lanes_here", "_law_cell"] rA
noncomputable def iJ (a:YA)(ps:List (Int × Int)):Prop:=∀ p ∈ ps,∃ x y:Nat,p=((x:Int),(y:Int))/\x < a.n/\y < a.n/\x ≠ y/\a.wy x y none ≠ []
noncomputable def oX (c:Cs)(C:Addr)(J:TJ):Sp:=fun vs H Q _=>∃ (a:YA),vs=[.ref a.tb]/\Lg c C J H a/\∀ (D:Addr)(Ay:List V)(bs:List (Int × Int))(H':Hp),za H H'->H D=none->H' D=some (.lst Ay)->zy H' Ay bs->iJ a bs->bs.length <= 1000->Q (.ref D) H'
noncomputable def lA (c:Cs)(C:Addr)(J:TJ):Sp:=fun vs H Q _=>∃ (a:YA)(cl:Int),vs=[.ref a.tb, .int cl]/\Lg c C J H a/\∀ (D:Addr)(rs:List Int)(H':Hp),za H H'->H D=none->H' D=some (.lst (rs.map V.int))->rs.length=a.ps.length->(∀ r ∈ rs,1 <= r/\r <= 60)->Q (.ref D) H'
theorem EW:ap ["_law_script", "_law_places", "_law_lanes_here", "_law_land"] ["_law_script"] (aj sA):=L2.zF
theorem v9 {c:Cs}{ts:Ts}{tn:pR}{f fc fl fi fn ft fr:Addr}{fd dc dl di dn dt dr:FuncData}(F:zA K "_law_table" "_law_table" sA f fd)(M:TbM P w K mg base c ts tn fc fl fi fn ft fr dc dl di dn dt dr) :
  zb P w K mg base aG 7 f fd ["_law_script"] (rK P w K c ts tn):=by
 refine F.ok EW (fun vs H Q E h=>?_) (fun cdv A outer s H vs Q E hr h=>?_)
 ·obtain⟨sc,ns,rfl,_⟩:=h
  rfl
 ·obtain⟨sc,ns,rfl,hS,q⟩:=h
  have zU:zm 1 _:=hr.mono (by decide)
  have Au:zm 2 _:=hr.mono (by decide)
  have BY:zm 4 _:=hr.mono (by decide)
  have Lx:zm 5 _:=hr.mono (by decide)
  refine⟨_,af (aD (i:=1) EW.nd rfl (Or.inl rfl) (aC bE ak (aC bv (au M.Gc zU rfl M.mc M.kc M.bc .nil aq (aa (pv 0) (aa ak ad))) ak)))
   (af (aD (i:=2) EW.nd rfl (Or.inl rfl) (au M.Gl Au rfl M.ml M.kl M.bl .nil aq (aa (pv 1) (aa (aC bv (aC gN (au M.Gc zU rfl M.mc M.kc M.bc .nil aq (aa (pv 0) (aa ak ad))) ak) ak) (aa (au M.Gc zU rfl M.mc M.kc M.bc .nil aq (aa (pv 0) (aa ak ad))) ad)))))
   (af (aD (i:=3) EW.nd rfl (Or.inl rfl) (du M.Mi M.Gi Lx rfl M.mi M.bi .nil ia (aa (pv 1) (aa (pv 2) ad))))
   (af (aO (av bz (aC bv (au M.Gc zU rfl M.mc M.kc M.bc .nil aq (aa (pv 0) (aa ak ad))) ak) ak (az _)) (ai (ar (du M.Mn M.Gn BY rfl M.mn M.bn .nil aq (aa (pv 3) ad)))) aI)
   (ai (ar (du M.Mt M.Gt hr rfl M.mt M.bt .nil ia (aa (pv 3) (aa (au M.Gr Au rfl M.mr M.kr M.br .nil aq (aa (pv 1) (aa (pv 2) (aa (aC gN (au M.Gc zU rfl M.mc M.kc M.bc .nil aq (aa (pv 0) (aa ak ad))) ak) ad)))) ad)))))))),?_⟩
  refine⟨_,rfl,sc,ns,0,rfl,hS,fun d0=>⟨_,_,rfl,rfl,(by show (0:Int) < 4;decide),_,_,rfl,rfl,?_⟩⟩
  obtain⟨n,hn,AV,LG⟩:∃ n:Nat,(2:Int) + d0 % 4=(n:Int)/\2 <= n/\n <= 5:=⟨(2 + d0 % 4).toNat,by omega,by omega,by omega⟩
  dsimp only
  rw[hn]
  refine⟨_,rfl,_,rfl,sc,ns,0,rfl,hS,fun d1=>⟨_,_,rfl,rfl,⟨by decide,by decide⟩,_,_,rfl,rfl,(by show (0:Int) < 9;decide),_,rfl,sc,ns,1,rfl,hS,fun d2=>?_⟩⟩
  obtain⟨m,hm,hm9⟩:∃ m:Nat,d1 / 4 % 9=(m:Int)/\m < 9:=⟨(d1 / 4 % 9).toNat,by omega,by omega⟩
  refine⟨n,m,d2,by rw[← hm];rfl,AV,by omega,by omega,fun l zo es H1 s1 nl gl EJ Bv zC FR=>?_⟩
  have En:zo.length=es.length:=by rw[Paired.length EJ,length_map]
  have Aj:(es.map zp).length=es.length:=length_map ..
  have zg:∀ p ∈ es.map zp,jl n p=true:=fun p hp=>by
   obtain⟨e,he,rfl⟩:=mem_map.mp hp
   exact(okE n e).mpr ⟨(Bv e he).1,(Bv e he).2,zC e he⟩
  have gd:=ui (ps:=es.map zp) (n:=n) (by omega) (by omega) (by omega) zg
  refine⟨_,rfl,_,rfl,fun xl Bj nx KA F3=>?_⟩
  have s2:za H1 (upd (upd H1 Bj (.own xl)) xl (.ins c.land Bj [])):=za.new (za.new (za.refl H1) KA) (by rw[ae (Ne.symm F3)];exact nx)
  refine⟨xl,Bj,(n:Int),l,zo,_,rfl,ac,zf.of (s2 _ _ gl),zy.same s2 EJ,by omega,(fun h=>by rw[gd]at h;cases h),(fun k h=>by rw[gd]at h;cases h),(fun k h=>by rw[gd]at h;cases h),fun _ H3 lt zi off hL=>⟨rfl,?_⟩⟩
  have s3:za H1 H3:=fun b o e=>off b o (ah e nx) (s2 _ _ e)
  have Er:=s1.trans s3
  refine⟨_,rfl,sc,ns,2,rfl,Er.seq hS,fun d3=>⟨_,_,rfl,rfl,(by show (0:Int) < 2;decide),rfl,_,rfl,?_⟩⟩
  cases hb:decide (V.int (d3 % 2)=V.int 0) with
  | true =>
   refine aK ⟨_,rfl,fun tb Ec nt Rp Rq=>?_⟩
   have s4:za H3 (upd (upd H3 Ec (.own tb)) tb (.ins tn.near Ec [])):=za.new (za.new (za.refl H3) Rp) (by rw[ae (Ne.symm Rq)];exact nt)
   refine⟨tb,Ec,xl,Bj,lt,zi,n,es,rfl,ac,⟨s4 _ _ hL.1,s4 _ _ hL.2.1,zy.same s4 hL.2.2⟩,Bv,by omega,by omega,fun H5 de kvs Rr Vv hE=>⟨rfl,?_⟩⟩
   have s5:za H3 H5:=fun b o e=>Rr b o (ah e nt) (s4 _ _ e)
   refine q true tb xl Bj lt n zi (es.map zp) (wW n kvs) H5 (Er.trans s5) (Er.free nt) ⟨⟨Ec,xl,de,kvs,es,Vv,hE,by omega,fun p g k hp hg=>by unfold wW;rw[if_pos ⟨hp,hg⟩]⟩,⟨Ec,_,Vv.1,rfl,rfl⟩,⟨s5 _ _ hL.1,s5 _ _ hL.2.1,zy.same s5 hL.2.2⟩,by omega,by omega,fun p g k _ _ z hz=>by rw[Aj];exact(qZ hE p g k).1 z hz⟩ (fun p g k=>by have:=(qZ hE p g k).2;omega) zg (by omega) AV LG
  | false =>
   refine aH ⟨_,rfl,_,rfl,_,rfl,_,rfl,sc,ns,2,rfl,Er.seq hS,fun d4=>⟨_,_,rfl,rfl,⟨by decide,by decide⟩,?_⟩⟩
   refine⟨l,zo,es.map zp,n,_,rfl,s3 _ _ gl,zy.same s3 EJ,zg,by omega,AV,LG,fun D zq rs H4 s4 hD gD hR hO=>?_⟩
   have CH:zq.length=rs.length:=Paired.length hR
   have hrm:=hO.len
   refine fun tb Ec nt Rp Rq=>?_
   have s6:za H4 (upd (upd H4 Ec (.own tb)) tb (.ins ts.told Ec [])):=za.new (za.new (za.refl H4) Rp) (by rw[ae (Ne.symm Rq)];exact nt)
   have Rt:=s4.trans s6
   refine⟨tb,Ec,xl,Bj,lt,D,(n:Int),zi,zq,es.map zp,rs,rfl,ac,⟨Rt _ _ hL.1,Rt _ _ hL.2.1,zy.same Rt hL.2.2⟩,zf.of (s6 _ _ gD),C1.same s6 hR,by omega,by omega,fun r hr=>⟨fun k hk=>by have:=jX (hO.fit r hr) k hk;omega,by have:=hO.Ad r hr;omega⟩,(fun i e=>by rw[hO.good]at e;cases e),fun _ H7 de kvs Ru Vw hd7 hv7=>⟨rfl,?_⟩⟩
   have s7:za H4 H7:=fun b o e=>Ru b o (ah e nt) (s6 _ _ e)
   have NM:=s4.trans s7
   have ET:∀ r ∈ rs,∀ k ∈ r.s,k < (es.map zp).length:=fun r hr=>jX (hO.fit r hr)
   refine q false tb xl Bj lt n zi (es.map zp) (IA rs) H7 (Er.trans NM) (Er.free (s4.free nt)) ⟨⟨Ec,de,_,kvs,rs,Vw,hd7,hv7,(fun r hr k hk=>by have:=ET r hr k hk;omega),rfl⟩,⟨Ec,_,Vw,rfl,rfl⟩,⟨NM _ _ hL.1,NM _ _ hL.2.1,zy.same NM hL.2.2⟩,by omega,by omega,fun p g k _ _ z hz=>(qY ET p g k).1 z hz⟩ (fun p g k=>by have:=(qY ET p g k).2;omega) zg (by omega) AV LG
abbrev NBg:List Str:=["_law_table_here", "_law_found", "_law_place", "_law_goal"]
theorem EX:ap NBg ["_law_table_here"] (aj nM):=L2.zF
theorem tJ {c:Cs}{J:TJ}{C f fw:Addr}{fd dw:FuncData}(F:zA K "_law_begins" "_law_begins" nM f fd)(T:fB mg)(L:lw K c)(W:Wy K C fw dw J)(Gw:zb P w K mg base aG 3 fw dw ["self", "place", "goal", "came"] (dX J)) :
  zb P w K mg base aG 4 f fd ["_law_table_here"] (oX c C J):=by
 refine F.ok EX (fun vs H Q E h=>?_) (fun cdv A outer s H vs Q E hr h=>?_)
 ·obtain⟨a,rfl,_⟩:=h
  rfl
 ·obtain⟨a,rfl,hT,q⟩:=h
  have hu:=hr.units
  have hn:=hT.PZ
  refine⟨_,af (aD (i:=1) EX.nd rfl (Or.inl rfl) (aU ad))
   (af (bD PassesOwn.never rfl (aR rfl T.range (aa (ao (ao (pv 0) rfl) rfl) ad)) (ay (i:=2) EX.nd rfl (Or.inl rfl))
    (ai (bD PassesOwn.never rfl (aR rfl T.range (aa (ao (ao (pv 0) rfl) rfl) ad)) (ay (i:=3) EX.nd rfl (Or.inl rfl))
     (ai (aO (iH (PW.pt (kN (av jk (pv 2) (pv 3) (az _)) (iG (av (xV hu) (aB (pv 0) W.cl W.m Gw hr W.b .nil aq (aa (pv 2) (aa (pv 3) (aa cx ad)))) (aU ad) (az _))))))
      (ai (aQ (c4 plainAttrs_list PySem.F.slot_list_append PySem.F.type_list_append bN (pv 1) (aa (bG (aa (pv 2) (aa (pv 3) ad))) ad)))) aI)))))
   (ai (ar (pv 1)))),?_⟩
  obtain⟨Cu,fst,Ca,zS,Bc⟩:=hT.i
  refine⟨zero_le _,fun D hD=>?_⟩
  have s0:=(za.refl H).new (o := .lst []) hD
  have g0:(upd H D (.lst [])) D=some (.lst []):=ac
  show cU 1 (V.ref D) _ _ _
  generalize upd H D (.lst [])=H0 at s0 g0 ⊢
  refine⟨_,rfl,a.tb,C,Cu,fst,_,rfl,s0 _ _ Ca,W.cl,W.nl,zS,a.lx,c.land,a.zD,_,_,rfl,s0 _ _ hT.l.1,L.cl,L.np,rfl,(a.n:Int),rfl,by omega,by omega,?_⟩
  rw[toNat_natCast]
  refine b7 (n:=a.n) (fun i σ H2=>∃ (a2 a3:Option V)(Ay:List V)(bs:List (Int × Int)),za H H2/\H2 D=some (.lst Ay)/\zy H2 Ay bs/\iJ a bs/\bs.length <= i * 12/\σ=[some (.ref a.tb),some (.ref D),a2,a3])
   ⟨none,none,[],[],s0,g0, .nil,(fun p hp=>by cases hp),by show 0 <= _;omega,rfl⟩ ?_ ?_
  rotate_left
  ·rintro σ H2 ⟨a2,a3,Ay,bs,s2,g2,hL,hP,Vx,rfl⟩
   exact⟨_,rfl,q D Ay bs H2 s2 hD g2 hL hP (by omega)⟩
  rintro i σ H2 hi ⟨a2,a3,Ay,bs,s2,g2,hL,hP,Vx,rfl⟩
  rw[zero_add]
  refine⟨_,rfl,a.tb,C,Cu,fst,_,rfl,s2 _ _ Ca,W.cl,W.nl,zS,a.lx,c.land,a.zD,_,_,rfl,s2 _ _ hT.l.1,L.cl,L.np,rfl,(a.n:Int),rfl,by omega,by omega,?_⟩
  rw[toNat_natCast]
  refine b7 (n:=a.n) (fun j σ H3=>∃ (a3:Option V)(Ay:List V)(bs:List (Int × Int)),za H H3/\H3 D=some (.lst Ay)/\zy H3 Ay bs/\iJ a bs/\bs.length <= i * 12 + j/\σ=[some (.ref a.tb),some (.ref D),some (.int (i:Int)),a3])
   ⟨_,Ay,bs,s2,g2,hL,hP,by omega,rfl⟩ ?_ ?_
  rotate_left
  ·rintro σ H3 ⟨a3,Ay,bs,s3,g3,BL,NN,hb3,rfl⟩
   exact⟨_,_,Ay,bs,s3,g3,BL,NN,by omega,rfl⟩
  rintro j σ H3 hj ⟨a3,Ay,bs,s3,g3,BL,NN,hb3,rfl⟩
  rw[zero_add]
  have hbl3:Ay.length=bs.length:=Paired.length BL
  refine⟨fun b H4=>za H3 H4/\b=decide (i ≠ j/\a.wy i j none ≠ []),?_,?_⟩
  ·refine⟨_,rfl,_,rfl,rfl,_,rfl,?_⟩
   rw[bP]
   by_cases HH:(i:Int)=(j:Int)
   ·rw[decide_eq_true HH]
    exact aH ⟨za.refl H3,by rw[decide_eq_false (fun z=>z.1 (by omega))]⟩
   ·rw[decide_eq_false HH]
    refine aK ⟨_,rfl,a.tb,Cu,fst,rfl,s3 _ _ Ca,Bc,_,rfl,_,rfl,a.tb,a.n,a.wy,i,j,none,rfl,(AX.keep W hT (za.zz s3)).j,hi,hj,fun Dw H4 s4 hDw Vy=>⟨zero_le _,fun o7 Vz=>?_⟩⟩
    have s5:=s4.new (o := .lst []) Vz
    have LL:(upd H4 o7 (.lst [])) Dw=some (.lst (nV (a.wy i j none))):=by rw[ae (ah Vy Vz)];exact Vy
    have g7:(upd H4 o7 (.lst [])) o7=some (.lst (([]:List Int).map V.int)):=ac
    generalize upd H4 o7 (.lst [])=H5 at s5 LL g7 ⊢
    refine⟨Dw,o7,iz (a.wy i j none),[],rfl,rfl,by rw[← jP];exact zf.of LL,zf.of g7,_,rfl,s5,?_⟩
    by_cases hw:a.wy i j none=[]
    ·rw[decide_eq_true (show iz (a.wy i j none)=[] by rw[hw];rfl),decide_eq_false (fun z=>z.2 hw)];rfl
    ·rw[decide_eq_false (show ¬ iz (a.wy i j none)=[] from fun z=>hw (by unfold iz at z;exact List.map_eq_nil_iff.mp z)),decide_eq_true ⟨by omega,hw⟩];rfl
  rintro b H4 ⟨s4,rfl⟩
  by_cases hw:i ≠ j/\a.wy i j none ≠ []
  ·rw[decide_eq_true hw]
   refine aK ⟨_,rfl, .inl ⟨rfl,_,zf.of (s4 _ _ g3)⟩,_,rfl,_,rfl,by show 2 <= sizeLine;decide,fun t1 h1=>?_⟩
   have u1:=s4.new (o := .tup [.int (i:Int), .int (j:Int)]) h1
   have v1:(upd H4 t1 (.tup [.int (i:Int), .int (j:Int)])) t1=some (.tup [.int (i:Int), .int (j:Int)]):=ac
   generalize upd H4 t1 (.tup [.int (i:Int), .int (j:Int)])=H5 at u1 v1 ⊢
   have V0:=u1 _ _ g3
   have V1:zH H5 (upd H5 D (.lst (Ay ++ [.ref t1]))):=jo V0
   refine⟨D,Ay,_,rfl,rfl,V0,by rw[sizeLine_eq];omega,?_⟩
   refine⟨_,Ay ++ [.ref t1],bs ++ [((i:Int),(j:Int))],fun b o e=>by rw[ae (ah e hD)];exact u1 _ _ (s3 _ _ e),ac,zy.snoc (p:=((i:Int),(j:Int))) ⟨t1,rfl,V1 _ _ v1 True.intro⟩ (V1.Dj (zy.same u1 BL)),fun p hp=>?_,by rw[length_append,length_singleton];omega,rfl⟩
   rcases mem_append.mp hp with hp | hp
   ·exact NN p hp
   ·rw[mem_singleton.mp hp];exact⟨i,j,rfl,hi,hj,hw.1,hw.2⟩
  ·rw[decide_eq_false hw]
   exact aH ⟨_,Ay,bs,s3.trans s4,s4 _ _ g3,zy.same s4 BL,NN,by omega,rfl⟩
theorem Rx:ap ["_law_table_here", "_law_cell"] ["_law_table_here", "_law_cell"] (aj gK):=L2.zF
theorem Ry:As ["_law_table_here", "_law_cell"] (aj gK) (uY ((aJ gK).getD 0 (.Pass ⟨0,0,0,0⟩))) ["_law_cell"] [1]:=L2.B3
theorem Rz:(["_law_lane", "_law_cell"]:List Str).Nodup:=by decide +kernel
theorem qu {c:Cs}{J:TJ}{C f fw fm:Addr}{fd dw dm:FuncData}(F:zA K "_law_rooms" "_law_rooms" gK f fd)(T:fB mg)(L:lw K c)(W:Wy K C fw dw J)(mm:mg "_law_mixed" = some (.ref fm))(km:keepIn K (.ref fm)=true)(bm:Binds K dm ["_law_cell", "_law_k"] [])(Gm:zb P w K mg base aG 1 fm dm ["_law_cell", "_law_k"] jH) :
  zb P w K mg base aG 2 f fd ["_law_table_here", "_law_cell"] (lA c C J):=by
 refine F.ok Rx (fun vs H Q E h=>?_) (fun cdv A outer s H vs Q E hr h=>?_)
 ·obtain⟨a,cl,rfl,_⟩:=h
  rfl
 ·obtain⟨a,cl,rfl,hT,q⟩:=h
  have h40:=hT.Ad
  refine⟨_,ai (ar (b5 (own:=["_law_lane"]) (capN:=["_law_cell"]) (cap:=[1]) Ry rfl (aR rfl T.range (aa (aF ax rfl T.len PySem.boot_len (aa (ao (ao (pv 0) rfl) rfl) ad)) ad)) (fun C s' H' fp=>⟨ay (i:=0) Rz rfl (Or.inl rfl),dq,aC bE ak (aC bv (au Gm hr rfl mm km bm .nil aq (aa (pv 1) (aa (pv 0) ad))) ak)⟩))),?_⟩
  obtain⟨Cu,fst,Ca,zS,Bc⟩:=hT.i
  have htl:a.zi.length=a.ps.length:=Paired.length hT.l.2.2
  refine⟨_,rfl,a.tb,C,Cu,fst,_,rfl,Ca,W.cl,W.nl,zS,a.lx,c.land,a.zD,_,_,rfl,hT.l.1,L.cl,L.nl,rfl,a.lt,_,rfl, .inr (zh.of hT.l.2.1),((a.zi.length:Nat):Int),rfl,by omega,by omega,?_⟩
  rw[toNat_natCast,htl]
  refine bT a.ps.length (by rw[sizeLine_eq];omega) (fun i acc H'=>H' = H/\∃ rs:List Int,acc=rs.map V.int/\rs.length=i/\∀ r ∈ rs,1 <= r/\r <= 60) ⟨rfl,[],rfl,rfl,fun r hr=>by cases hr⟩ (fun i acc H' h=>by obtain⟨_,rs,rfl,e,_⟩:=h;rw[length_map];omega) (fun i acc H' hi h=>?_) (fun acc H' h=>?_)
  ·obtain⟨rfl,rs,rfl,e,Km⟩:=h
   refine⟨hi,fun v H2 y=>?_⟩
   obtain⟨rfl,rfl⟩:=y
   rw[zero_add]
   refine⟨_,rfl,_,rfl,cl,i,rfl,by omega,fun d hd=>⟨_,_,rfl,rfl,(by show (0:Int) < 3;decide),_,_,rfl,rfl,rfl,rs ++ [1 + d % 3],by rw[map_append];rfl,by rw[length_append,e];rfl,fun r hr=>?_⟩⟩
   rcases mem_append.mp hr with hr | hr
   ·exact Km r hr
   ·rw[mem_singleton.mp hr];omega
  ·obtain⟨rfl,rs,rfl,e,Km⟩:=h
   exact⟨Nat.le_refl _,fun D hD=>q D rs _ ((za.refl H').new hD) hD ac e Km⟩
abbrev yx (ys:Ys)(ex:List Addr):Ys:={ ys with ex:=ex }
theorem Cy.len {a:YA}{s s':YS}{m:Mv}(h:Cy a s m s'):s'.yZ.length=s.yZ.length:=by
 cases h with
 | @Aw k l t ln ht hg hl zE ho =>
  show(if t.gone=0 then (dv s k t).yZ.set k _ else (dv s k t).yZ).length=_
  have:(dv s k t).yZ.length=s.yZ.length:=length_set ..
  split
  ·rw[length_set];exact this
  ·exact this
 | @on k l m c lk ln t hk hq ht hl zE ho =>
  show(if c=0 then s.yZ.set m _ else s.yZ).length=_
  split
  ·exact length_set ..
  ·rfl
 | Ar=>rfl
 | back=>rfl
theorem AK.post {a:YA}{s:YS}(J:AK a s){x y:Nat}{l u:Int}(hx:x < a.n)(hy:y < a.n)(hl:0 <= l/\l <= 60)(hf:s.yZ.length < 60):AK a (cI s x y l u):=by
 have el:∀ (m:Nat)(t:aW),(cI s x y l u).yZ[m]? = some t->s.yZ[m]? = some t∨(m=s.yZ.length/\t = ⟨x,y,l,u,0,[]⟩):=fun m t ht=>by
  have ht:(s.yZ ++ [(⟨(x:Int),(y:Int),l,u,0,[]⟩:aW)])[m]? = some t:=ht
  by_cases hm:m < s.yZ.length
  ·rw[List.getElem?_append_left hm]at ht;exact .inl ht
  ·have h3:=(List.getElem?_eq_some_iff.mp ht).1
   rw[length_append,length_singleton]at h3
   have em:m=s.yZ.length:=by omega
   subst em
   rw[List.getElem?_concat_length]at ht
   cases ht
   exact .inr ⟨rfl,rfl⟩
 have eo:∀ (m:Nat)(t:aW),s.yZ[m]? = some t->(cI s x y l u).yZ[m]? = some t:=fun m t ht=>by
  show(s.yZ ++ [(⟨(x:Int),(y:Int),l,u,0,[]⟩:aW)])[m]? = some t
  rw[List.getElem?_append_left (List.getElem?_eq_some_iff.mp ht).1];exact ht
 refine⟨J.lanes,J.lies,?_,J.DY,fun m t ht=>?_,fun m t ht=>?_,fun k ln hk q hq=>?_,fun m t ht=>?_,fun m t ht hg=>?_,fun m t ht i l' hi he=>?_,fun m t ht l' ln Bh zE=>?_,J.first,fun k ln hk m t hm ht=>?_,?_⟩
 ·show(s.yZ ++ [_]).length <= 60
  rw[length_append,length_singleton];omega
 ·rcases el m t ht with h | ⟨_,rfl⟩
  ·exact J.lets m t h
  ·exact⟨x,y,rfl,rfl,hx,hy⟩
 ·rcases el m t ht with h | ⟨_,rfl⟩
  ·exact J.Ao m t h
  ·exact⟨(fun l hl=>by cases hl),nodup_nil⟩
 ·obtain⟨m,t,e,ht,ES⟩:=J.Aq k ln hk q hq
  exact⟨m,t,e,eo m t ht,ES⟩
 ·rcases el m t ht with h | ⟨_,rfl⟩
  ·exact J.Bk m t h
  ·exact⟨Int.le_refl _,hl.1,hl.2⟩
 ·rcases el m t ht with h | ⟨_,rfl⟩
  ·exact J.Aa m t h hg
  ·rfl
 ·rcases el m t ht with h | ⟨_,rfl⟩
  ·exact J.last m t h i l' hi he
  ·cases hi
 ·rcases el m t ht with h | ⟨_,rfl⟩
  ·exact J.head m t h l' ln Bh zE
  ·cases Bh
 ·obtain⟨m2,t2,e2,EU,_⟩:=J.Aq k ln hk _ hm
  have e2:(m:Int)=(m2:Int):=e2
  have e2:m=m2:=by omega
  subst e2
  rcases el m t ht with h | ⟨e,_⟩
  ·exact J.D9 k ln hk m t hm h
  ·rw[e]at EU
   rw[List.getElem?_eq_none (Nat.le_refl _)]at EU
   cases EU
 ·have h:=J.sum
  have e:gh (cI s x y l u)=gh s:=by
   show((s.yZ ++ [(⟨(x:Int),(y:Int),l,u,0,[]⟩:aW)]).map _).sum=_
   rw[map_append,List.sum_append]
   simp[gh]
  rw[e];exact h
theorem pN (xs:List V)(k:Nat):gr xs none (some (k:Int))=xs.take k:=by
 unfold gr
 have e0:HT.Bm xs.length 0 none=0:=rfl
 rw[e0,show HT.Bm xs.length xs.length (some (k:Int))=min k xs.length from HT.AH _ _ k,List.drop_zero,Nat.sub_zero]
 rcases Nat.le_total k xs.length with h | h
 ·rw[min_eq_left h]
 ·rw[min_eq_right h,take_of_length_le h,take_of_length_le (Nat.le_refl _)]
theorem yq {m:Nat}{rs:List Int}(CH:rs.length=m)(EY:∀ r ∈ rs,1 <= r/\r <= 60):pz m (rs.map V.int)=true:=by
 unfold pz
 rw[length_map,CH,decide_eq_true rfl,Bool.true_and,all_eq_true]
 intro v hv
 obtain⟨r,Fj,rfl⟩:=mem_map.mp hv
 exact decide_eq_true (EY r Fj)
noncomputable def V2 (K:Frag)(c:Cs)(TC:Addr)(J:TJ)(ys:Ys)(ex:List Addr)(H:Hp)(tb:Addr)(ps:List (Int × Int))(n:Nat)(wy:Wf)(rs:List Int):VK:=fun v H'=>∃ a:YA,v = .ref a.y/\a.tb=tb/\a.ps=ps/\a.n=n/\a.wy=wy/\za H H'/\(∀ z ∈ a.four,H z=none)/\Eo K c TC J (yx ys ex) H' a (Y0 (rs.map V.int) n)/\AK a (Y0 (rs.map V.int) n)
theorem uI {P:Program}{w:World}{K:Frag}{c:Cs}{TC fw nr:Addr}{dw:FuncData}{J:TJ}{ys:Ys}{ex:List Addr}{H:Hp}{tb lx zD lt ra:Addr}{n:Nat}{zi:List V}{ps:List (Int × Int)}{wy:Wf}{rs:List Int}{E:XK}(W:Wy K TC fw dw J)
  (hT:AX c TC J H tb lx zD lt n zi ps wy) (C9:∀ p g k,(wy p g k).length <= 400) (zg:∀ p ∈ ps,jl n p=true) (hR:zf K H ra (rs.map V.int)) (CH:rs.length=ps.length) (EY:∀ r ∈ rs,1 <= r/\r <= 60) (hp:ps.length <= 8) (hex:∀ b ∈ ex,∃ xs,H b=some (.lst xs)) :
  ∀ y dy,H y=none->H dy=none->dy ≠ y->l9 K c TC J (yx ys ex) nr [.ref y, .ref tb, .ref ra] (upd (upd H dy (.own y)) y (.ins ys.zd dy [])) (fun v H2=>v = .zt/\V2 K c TC J ys ex H tb ps n wy rs (.ref y) H2) E:=by
 intro y dy ny R0 R1
 have s4:za H (upd (upd H dy (.own y)) y (.ins ys.zd dy [])):=za.new (za.new (za.refl H) R0) (by rw[ae (Ne.symm R1)];exact ny)
 have R3:=yq CH EY
 refine⟨y,dy,tb,lx,zD,lt,n,zi,ps,wy,_,rs.map V.int,rfl,ac,hT.keep W (za.zz s4),(fun b hb=>let ⟨xs,hz⟩:=hex b hb; ⟨xs,s4 _ _ hz⟩), .inr ⟨ra,rfl, .inl (s4.seq hR),by rw[length_map];omega,(fun v hv=>by obtain⟨r,_,rfl⟩:=mem_map.mp hv;exact .int r),fun h=>by rw[R3]at h;cases h⟩,fun _ ro la le li dn H5 o5 F4 GZ KN N5 hY=>⟨rfl,?_⟩⟩
 have s5:za H H5:=fun b o e=>o5 b o (fun z=>by rw[mem_singleton.mp z,ny]at e;cases e) (s4 _ _ e)
 have hO:Lp ⟨y,dy,tb,ro,la,le,li,dn,lx,zD,lt,n,zi,ps,wy⟩:=by
  refine⟨fun l pr hl=>?_,C9⟩
  have LM:=zg pr (mem_of_getElem? hl)
  unfold jl at LM
  simp only[Bool.and_eq_true,decide_eq_true_eq,Bool.not_eq_true',decide_eq_false_iff_not]at LM
  exact⟨pr.2.toNat,by omega,by show pr.2.toNat < n;omega⟩
 have hJ:AK ⟨y,dy,tb,ro,la,le,li,dn,lx,zD,lt,n,zi,ps,wy⟩ (Y0 (rs.map V.int) n):=(Rg (a:=⟨y,dy,tb,ro,la,le,li,dn,lx,zD,lt,n,zi,ps,wy⟩) (by rw[length_map];exact CH)).jnv (zero_le _) (by show ps.length <= 40;omega)
 refine⟨⟨y,dy,tb,ro,la,le,li,dn,lx,zD,lt,n,zi,ps,wy⟩,rfl,rfl,rfl,rfl,rfl,s5,fun z hz=>?_,⟨hY,hT.keep W (za.zz s5),hO,hJ.ok⟩,hJ⟩
 have hz:z ∈ [la,le,li,dn]:=hz
 simp only[mem_cons,not_mem_nil,or_false]at hz
 rcases hz with rfl | rfl | rfl | rfl
 ·exact s4.free F4
 ·exact s4.free GZ
 ·exact s4.free KN
 ·exact s4.free N5
theorem lm {K:Frag}{H:Hp}:∀ us:List Nat,j7 K H (nV us) (us.map fun z:Nat=>PyData.int z)
 | [] => .nil
 | u :: us => .cons (.int _) (lm us)
noncomputable def eJ (m:Nat)(qs:List (Int × Int)):List Int:=(qs.filter fun q=>decide (q.1=(m:Int))).map (·.2)
noncomputable def je (x y:Nat):List Int:=(List.range' x (y - x)).map fun z:Nat=>(z:Int)
theorem eB (m:Nat)(xs ys:List (Int × Int)):eJ m (xs ++ ys)=eJ m xs ++ eJ m ys:=by
 unfold eJ;rw[filter_append,map_append]
theorem fQ (m m':Nat)(c:Int):eJ m [((m':Int),c)]=if m' = m then [c] else []:=by
 unfold eJ
 by_cases h:m' = m
 ·subst h;simp
 ·rw[if_neg h,filter_cons_of_neg (by simp;omega)];rfl
theorem ls {m:Nat}{qs:List (Int × Int)}(h:∀ q ∈ qs,q.1 ≠ (m:Int)):eJ m qs=[]:=by
 unfold eJ
 rw[List.filter_eq_nil_iff.mpr (fun q hq=>by simpa using h q hq)];rfl
theorem lM {x y:Nat}(h:x < y):je x y=(x:Int) :: je (x + 1) y:=by
 unfold je
 rw[show y - x=(y - (x + 1)) + 1 by omega,List.range'_succ];rfl
theorem dY {x y:Nat}(h:y <= x):je x y=[]:=by
 unfold je
 rw[show y - x=0 by omega];rfl
theorem jd {x y:Nat}(h:x <= y):je x (y + 1)=je x y ++ [(y:Int)]:=by
 unfold je
 rw[show y + 1 - x=(y - x) + 1 by omega,List.range'_1_concat,map_append]
 show _ ++ [((x + (y - x):Nat):Int)]=_
 rw[show x + (y - x)=y by omega]
theorem uX (x y:Nat):(je x y).length=y - x:=by unfold je;rw[length_map,List.length_range']
theorem qS {m:Nat}{qs:List (Int × Int)}{c:Int}{x y:Nat}(h:qs.head? = some ((m:Int),c))(e:eJ m qs=je x y):x < y/\c=(x:Int)/\eJ m qs.tail=je (x + 1) y/\∀ m',m' ≠ m->eJ m' qs.tail=eJ m' qs:=by
 cases qs with
 | nil=>cases h
 | cons q qs =>
  cases h
  rw[show((m:Int),c) :: qs=[((m:Int),c)] ++ qs from rfl,eB,fQ,if_pos rfl]at e
  have FX:x < y:=by
   rcases lt_or_ge x y with h | h
   ·exact h
   ·rw[dY h]at e;cases e
  rw[lM FX]at e
  have e1:c :: eJ m qs=(x:Int) :: je (x + 1) y:=e
  refine⟨FX,(List.cons.inj e1).1,(List.cons.inj e1).2,fun m' hm=>?_⟩
  rw[show((m:Int),c) :: qs=[((m:Int),c)] ++ qs from rfl,eB,fQ,if_neg (Ne.symm hm)];rfl
theorem uv {m:Nat}{qs:List (Int × Int)}{q:Int × Int}{x y:Nat}(h:qs.getLast? = some q)(hq:q.1=(m:Int))(e:eJ m qs=je x y):q.2 + 1=(y:Int)/\x < y:=by
 obtain⟨ys,rfl⟩:=List.getLast?_eq_some_iff.mp h
 obtain⟨q1,q2⟩:=q
 have hq:q1=(m:Int):=hq
 subst hq
 rw[eB,fQ,if_pos rfl]at e
 rcases lt_or_ge x y with FX | FX
 ·obtain⟨z,rfl⟩:∃ z,y=z + 1:=⟨y - 1,by omega⟩
  rw[jd (by omega)]at e
  have:=List.append_inj_right' e rfl
  have:q2=(z:Int):=(List.cons.inj this).1
  exact⟨by show q2 + 1=_;omega,FX⟩
 ·rw[dY FX]at e
  exact absurd e (by simp)
noncomputable def LN (s:YS)(p q:Int × Int):Prop:=(q.1=p.1/\q.2=p.2 + 1)∨(q.2=0/\∃ (m:Nat)(t:aW),p.1=(m:Int)/\s.yZ[m]? = some t/\p.2=t.len - 1)
structure Az (a:YA)(s:YS)(N D:Nat->Nat->Nat):Prop where
 g0:∀ (m:Nat)(t:aW),s.yZ[m]? = some t->((N m 0 + D m 0:Nat):Int)=t.gone
 gl:∀ (m:Nat)(t:aW),s.yZ[m]? = some t->t.gone <= t.len
 Ds:∀ (m:Nat)(t:aW),s.yZ[m]? = some t->∀ i,t.way.length < i->N m i + D m i=0
 top:∀ (m:Nat)(t:aW),s.yZ[m]? = some t->t.way=[]->N m 0=0
 dn:∀ (m:Nat)(t:aW),s.yZ[m]? = some t->∀ i,i < t.way.length->N m (i + 1) + D m (i + 1) <= N m i/\0 < N m i/\(N m i:Int) <= t.len
 q:∀ (m:Nat)(t:aW),s.yZ[m]? = some t->∀ (i k:Nat)(ln:bU),t.way[i]? = some k->s.lanes[k]? = some ln->eJ m ln.qs=je (N m (i + 1) + D m (i + 1)) (N m i)
 own:∀ (k:Nat)(ln:bU),s.lanes[k]? = some ln->∀ p ∈ ln.qs,∃ (m:Nat)(t:aW),p.1=(m:Int)/\s.yZ[m]? = some t/\k ∈ t.way
 nd:∀ (m:Nat)(t:aW),s.yZ[m]? = some t->t.way.Nodup
 Ar:∀ (m:Nat)(t:aW),s.yZ[m]? = some t->∀ (p:Nat)(qs:List (Int × Int)),s.lies[p]? = some qs->eJ m qs=if (p:Int)=t.goal then je 0 (N m t.way.length) else []
 BR:∀ (p:Nat)(qs:List (Int × Int)),s.lies[p]? = some qs->∀ q ∈ qs,∃ (m:Nat)(t:aW),q.1=(m:Int)/\s.yZ[m]? = some t
 hold:∀ (k:Nat)(ln:bU),s.lanes[k]? = some ln->∀ (m:Nat)(t:aW),s.yZ[m]? = some t->(ln.h=some (m:Int)↔∃ i,t.way[i]? = some k/\(N m i:Int) < t.len)
 BS:∀ (k:Nat)(ln:bU),s.lanes[k]? = some ln->∀ z,ln.h=some z->∃ (m:Nat)(t:aW),z=(m:Int)/\s.yZ[m]? = some t
 room:∀ (k:Nat)(ln:bU),s.lanes[k]? = some ln->s.rooms[k]? = some (.int (ln.r + ln.b + ln.qs.length))/\0 <= ln.r/\0 <= ln.b
 EZ:∀ (k:Nat)(ln:bU),s.lanes[k]? = some ln->∀ (i:Nat)(p q:Int × Int),ln.qs[i]? = some p->ln.qs[i + 1]? = some q->LN s p q
 lst:∀ (k:Nat)(ln:bU),s.lanes[k]? = some ln->∀ q,ln.qs.getLast? = some q->ln.h=some q.1∨(ln.h=none/\∃ (m:Nat)(t:aW),q.1=(m:Int)/\s.yZ[m]? = some t/\q.2=t.len - 1)
noncomputable def zr:Nat->Nat->Nat:=fun _ _=>0
noncomputable def cr (m0 i0:Nat):Nat->Nat->Nat:=fun m i=>if m=m0/\i=i0 then 1 else 0
theorem eW (m i:Nat):cr m i m i=1:=if_pos ⟨rfl,rfl⟩
theorem dM {m0 i0 m i:Nat}(h:m ≠ m0):cr m0 i0 m i=0:=if_neg fun z=>h z.1
theorem cp {m0 i0 m i:Nat}(h:i ≠ i0):cr m0 i0 m i=0:=if_neg fun z=>h z.2
theorem cj {l:List Nat}(h:l.Nodup){i j x:Nat}(hi:l[i]? = some x)(hj:l[j]? = some x):i=j:=by
 obtain⟨h1,e1⟩:=List.getElem?_eq_some_iff.mp hi
 obtain⟨h2,e2⟩:=List.getElem?_eq_some_iff.mp hj
 exact(List.getElem_inj h).mp (e1.trans e2.symm)
theorem uz {s:YS}{qs:List (Int × Int)}(h:∀ (i:Nat) (p q:Int × Int),qs[i]? = some p->qs[i + 1]? = some q->LN s p q):∀ (i:Nat)(p q:Int × Int),qs.tail[i]? = some p->qs.tail[i + 1]? = some q->LN s p q:=fun i p q hp hq=>by
 rw[List.getElem?_tail]at hp hq
 exact h (i + 1) p q hp hq
theorem qB {α:Type}{qs:List α}{q:α}(h:qs.tail.getLast? = some q):qs.getLast? = some q:=by
 cases qs with
 | nil=>cases h
 | cons x qs =>
  cases qs with
  | nil=>cases h
  | cons y qs=>rw[List.getLast?_cons_cons];exact h
theorem Az.pull {a:YA}{s:YS}{N:Nat->Nat->Nat}(G:Az a s N zr){k m:Nat}{c:Int}{lk:bU}{t:aW}(hk:s.lanes[k]? = some lk)(hq:lk.qs.head? = some ((m:Int),c))(ht:s.yZ[m]? = some t) :
  ∃ i,t.way[i]? = some k/\c=(N m (i + 1):Int)/\N m (i + 1) < N m i/\Az a { s with lanes:=s.lanes.set k (ck lk) } N (cr m (i + 1)):=by
 have Hy:((m:Int),c) ∈ lk.qs:=List.mem_of_mem_head? hq
 obtain⟨m',t',e,FY,ES⟩:=G.own k lk hk _ Hy
 have e:(m:Int)=(m':Int):=e
 have e:m' = m:=by omega
 subst e
 rw[ht]at FY;cases FY
 obtain⟨i,hi⟩:=List.getElem?_of_mem ES
 have Du:=(List.getElem?_eq_some_iff.mp hi).1
 obtain⟨f1,f2,f3,f4⟩:=qS hq (G.q m' t ht i k lk hi hk)
 have f1:N m' (i + 1) < N m' i:=f1
 have f3:eJ m' lk.qs.tail=je (N m' (i + 1) + 1) (N m' i):=f3
 refine⟨i,hi,f2,f1,?_⟩
 have tl:lk.qs=((m':Int),c) :: lk.qs.tail:=by
  cases hx:lk.qs with
  | nil=>rw[hx]at hq;cases hq
  | cons x xs=>rw[hx]at hq;cases hq;rfl
 refine⟨fun m t h=>?_,G.gl,fun m t h j hj=>?_,G.top,fun m t h j hj=>?_,fun m t h j kk ln hj hl=>?_,fun kk ln hl p hp=>?_,G.nd,G.Ar,G.BR,fun kk ln hl=>?_,fun kk ln hl=>?_,fun kk ln hl=>?_,fun kk ln hl=>?_,fun kk ln hl=>?_⟩
 ·have:=G.g0 m t h
  rw[cp (by omega)];exact this
 ·have h1:=G.Ds m t h j hj
  by_cases e:m=m'
  ·subst e
   rw[ht]at h;cases h
   rw[cp (by omega)];exact h1
  ·rw[dM e];exact h1
 ·obtain⟨h1,h2,h3⟩:=G.dn m t h j hj
  refine⟨?_,h2,h3⟩
  have h1:N m (j + 1) <= N m j:=h1
  by_cases e:m=m'/\j + 1=i + 1
  ·obtain⟨rfl,e⟩:=e
   have:j=i:=by omega
   subst this
   rw[eW];omega
  ·show N m (j + 1) + cr m' (i + 1) m (j + 1) <= _
   unfold cr;rw[if_neg e];omega
 ·rcases aV hl with ⟨rfl,rfl⟩ | ⟨zC,hl⟩
  ·show eJ m lk.qs.tail=_
   by_cases e:m=m'
   ·subst e
    rw[ht]at h;cases h
    have:j=i:=cj (G.nd _ _ ht) hj hi
    subst this
    rw[eW];exact f3
   ·rw[dM e,f4 m e];exact G.q m t h j kk lk hj hk
  ·by_cases e:m=m'/\j + 1=i + 1
   ·obtain⟨rfl,e⟩:=e
    have:j=i:=by omega
    subst this
    rw[ht]at h;cases h
    rw[hi]at hj;cases hj
    exact absurd rfl zC
   ·unfold cr;rw[if_neg e];exact G.q m t h j kk ln hj hl
 ·rcases aV hl with ⟨rfl,rfl⟩ | ⟨_,hl⟩
  ·exact G.own kk lk hk p (by rw[tl];exact mem_cons_of_mem _ hp)
  ·exact G.own kk ln hl p hp
 ·rcases aV hl with ⟨rfl,rfl⟩ | ⟨_,hl⟩
  ·exact G.hold kk lk hk
  ·exact G.hold kk ln hl
 ·rcases aV hl with ⟨rfl,rfl⟩ | ⟨_,hl⟩
  ·exact G.BS kk lk hk
  ·exact G.BS kk ln hl
 ·rcases aV hl with ⟨rfl,rfl⟩ | ⟨_,hl⟩
  ·obtain⟨r1,r2,r3⟩:=G.room kk lk hk
   refine⟨?_,r2,?_⟩
   ·show s.rooms[kk]? = some (.int (lk.r + (lk.b + 1) + lk.qs.tail.length))
    rw[r1]
    have:lk.qs.length=lk.qs.tail.length + 1:=by rw[tl];rfl
    rw[this]
    congr 2;omega
   ·show 0 <= lk.b + 1;omega
  ·exact G.room kk ln hl
 ·rcases aV hl with ⟨rfl,rfl⟩ | ⟨_,hl⟩
  ·exact uz (s:={ s with lanes:=s.lanes.set kk (ck lk) }) (G.EZ kk lk hk)
  ·exact G.EZ kk ln hl
 ·rcases aV hl with ⟨rfl,rfl⟩ | ⟨_,hl⟩
  ·exact fun q hq=>G.lst kk lk hk q (qB hq)
  ·exact G.lst kk ln hl
theorem Az.leave {a:YA}{s:YS}{N:Nat->Nat->Nat}(G:Az a s N zr){m:Nat}{t:aW}(ht:s.yZ[m]? = some t)(hg:t.gone ≠ t.len):Az a (dv s m t) N (cr m 0):=by
 have gl:=G.gl m t ht
 have key:∀ (m':Nat)(t':aW),(dv s m t).yZ[m']? = some t'->∃ t2,s.yZ[m']? = some t2/\t'.way=t2.way/\t'.len=t2.len/\t'.goal=t2.goal/\(m' ≠ m->t' = t2)/\(m' = m->t'.gone=t.gone + 1/\t2=t):=fun m' t' h=>by
  have h:(s.yZ.set m { t with gone:=t.gone + 1 })[m']? = some t':=h
  rcases aV h with ⟨rfl,rfl⟩ | ⟨zC,h⟩
  ·exact⟨t,ht,rfl,rfl,rfl,fun z=>absurd rfl z,fun _=>⟨rfl,rfl⟩⟩
  ·exact⟨t',h,rfl,rfl,rfl,fun _=>rfl,fun z=>absurd z zC⟩
 have back:∀ (m':Nat)(t2:aW),s.yZ[m']? = some t2->∃ t',(dv s m t).yZ[m']? = some t'/\t'.way=t2.way/\t'.len=t2.len:=fun m' t2 h=>by
  by_cases e:m' = m
  ·subst e
   rw[ht]at h;cases h
   exact⟨{ t with gone:=t.gone + 1 },dj ht,rfl,rfl⟩
  ·exact⟨t2,by show(s.yZ.set m _)[m']? = _;rw[List.getElem?_set_ne (Ne.symm e)];exact h,rfl,rfl⟩
 refine⟨fun m' t' h=>?_,fun m' t' h=>?_,fun m' t' h j hj=>?_,fun m' t' h hw=>?_,fun m' t' h j hj=>?_,fun m' t' h j kk ln hj hl=>?_,fun kk ln hl p hp=>?_,fun m' t' h=>?_,fun m' t' h p qs hp=>?_,fun p qs hp q hq=>?_,fun kk ln hl m' t' h=>?_,fun kk ln hl z hz=>?_,G.room,fun kk ln hl i p q hp hq=>?_,fun kk ln hl q hq=>?_⟩
 ·obtain⟨t2,h2,ew,el,eg,ne,eq⟩:=key m' t' h
  have h0:=G.g0 m' t2 h2
  by_cases e:m' = m
  ·obtain⟨e1,rfl⟩:=eq e
   subst e
   rw[eW,e1,← h0];show((N m' 0 + 1:Nat):Int)=((N m' 0 + 0:Nat):Int) + 1;omega
  ·rw[dM e,ne e];exact h0
 ·obtain⟨t2,h2,ew,el,eg,ne,eq⟩:=key m' t' h
  by_cases e:m' = m
  ·obtain⟨e1,rfl⟩:=eq e
   rw[e1,el];omega
  ·rw[ne e];exact G.gl m' t2 h2
 ·obtain⟨t2,h2,ew,el,eg,ne,eq⟩:=key m' t' h
  rw[cp (by omega)];exact G.Ds m' t2 h2 j (by rw[← ew];exact hj)
 ·obtain⟨t2,h2,ew,el,eg,ne,eq⟩:=key m' t' h
  exact G.top m' t2 h2 (by rw[← ew];exact hw)
 ·obtain⟨t2,h2,ew,el,eg,ne,eq⟩:=key m' t' h
  rw[cp (by omega),el];exact G.dn m' t2 h2 j (by rw[← ew];exact hj)
 ·obtain⟨t2,h2,ew,el,eg,ne,eq⟩:=key m' t' h
  rw[cp (by omega)];exact G.q m' t2 h2 j kk ln (by rw[← ew];exact hj) hl
 ·obtain⟨m',t2,e,h2,hw⟩:=G.own kk ln hl p hp
  obtain⟨t',h',ew,_⟩:=back m' t2 h2
  exact⟨m',t',e,h',by rw[ew];exact hw⟩
 ·obtain⟨t2,h2,ew,_⟩:=key m' t' h
  rw[ew];exact G.nd m' t2 h2
 ·obtain⟨t2,h2,ew,el,eg,_⟩:=key m' t' h
  rw[ew,eg];exact G.Ar m' t2 h2 p qs hp
 ·obtain⟨m',t2,e,h2⟩:=G.BR p qs hp q hq
  obtain⟨t',h',_⟩:=back m' t2 h2
  exact⟨m',t',e,h'⟩
 ·obtain⟨t2,h2,ew,el,eg,_⟩:=key m' t' h
  rw[ew,el];exact G.hold kk ln hl m' t2 h2
 ·obtain⟨m',t2,e,h2⟩:=G.BS kk ln hl z hz
  obtain⟨t',h',_⟩:=back m' t2 h2
  exact⟨m',t',e,h'⟩
 ·rcases G.EZ kk ln hl i p q hp hq with z | ⟨z,m',t2,e,h2,e2⟩
  ·exact .inl z
  ·obtain⟨t',h',_,el⟩:=back m' t2 h2
   exact .inr ⟨z,m',t',e,h',by rw[el];exact e2⟩
 ·rcases G.lst kk ln hl q hq with z | ⟨z,m',t2,e,h2,e2⟩
  ·exact .inl z
  ·obtain⟨t',h',_,el⟩:=back m' t2 h2
   exact .inr ⟨z,m',t',e,h',by rw[el];exact e2⟩
theorem Az.enter {a:YA}{s:YS}{N:Nat->Nat->Nat}{m i l:Nat}{c:Int}{t:aW}{ln:bU}(G:Az a s N (cr m i))(ht:s.yZ[m]? = some t)(hc:c=(N m i:Int))(h0:c=0->i=t.way.length/\l ∉ t.way)(h1:c ≠ 0->t.way[i]? = some l)(hlen:c + 1 <= t.len)(zE:s.lanes[l]? = some ln)(ho:bY ln.r ln.h m c=true) :
  Az a (bH s m c l t ln) (fun m' i'=>N m' i' + cr m i m' i') zr:=by
 obtain⟨Ks,BF⟩:ln.r ≠ 0/\if c=0 then ln.h=none else ln.h=some (m:Int):=by
  unfold bY at ho
  by_cases hr:ln.r=0
  ·rw[if_pos hr]at ho;cases ho
  ·rw[if_neg hr]at ho
   by_cases h:c=0
   ·rw[if_pos h]at ho ⊢;exact⟨hr,of_decide_eq_true ho⟩
   ·rw[if_neg h]at ho ⊢;exact⟨hr,of_decide_eq_true ho⟩
 obtain⟨t1,Et,w1,el,eg,V3,hw⟩:∃ t1:aW,(bH s m c l t ln).yZ[m]? = some t1/\t1.way=(if c=0 then t.way ++ [l] else t.way)/\t1.len=t.len/\t1.goal=t.goal/\t1.gone=t.gone/\t1.way[i]? = some l:=by
  by_cases h:c=0
  ·refine⟨{ t with way:=t.way ++ [l] },?_,by rw[if_pos h],rfl,rfl,rfl,?_⟩
   ·show(if c=0 then s.yZ.set m { t with way:=t.way ++ [l] } else s.yZ)[m]? = _
    rw[if_pos h];exact dj ht
   ·show(t.way ++ [l])[i]? = some l
    rw[(h0 h).1,List.getElem?_concat_length]
  ·refine⟨t,?_,by rw[if_neg h],rfl,rfl,rfl,h1 h⟩
   show(if c=0 then s.yZ.set m { t with way:=t.way ++ [l] } else s.yZ)[m]? = _
   rw[if_neg h];exact ht
 have key:∀ (m':Nat)(t':aW),(bH s m c l t ln).yZ[m']? = some t'->(m' = m/\t' = t1)∨(m' ≠ m/\s.yZ[m']? = some t'):=fun m' t' h=>by
  by_cases e:m' = m
  ·subst e
   rw[Et]at h;cases h;exact .inl ⟨rfl,rfl⟩
  ·refine .inr ⟨e,?_⟩
   have h:(if c=0 then s.yZ.set m { t with way:=t.way ++ [l] } else s.yZ)[m']? = some t':=h
   by_cases zY:c=0
   ·rw[if_pos zY,List.getElem?_set_ne (Ne.symm e)]at h;exact h
   ·rw[if_neg zY]at h;exact h
 have back:∀ (m':Nat)(t2:aW),s.yZ[m']? = some t2->∃ t',(bH s m c l t ln).yZ[m']? = some t'/\(∀ x ∈ t2.way,x ∈ t'.way)/\t'.len=t2.len:=fun m' t2 h=>by
  by_cases e:m' = m
  ·subst e
   rw[ht]at h;cases h
   refine⟨t1,Et,fun x hx=>?_,el⟩
   rw[w1];split
   ·exact mem_append_left _ hx
   ·exact hx
  ·refine⟨t2,?_,fun x hx=>hx,rfl⟩
   show(if c=0 then s.yZ.set m { t with way:=t.way ++ [l] } else s.yZ)[m']? = _
   split
   ·rw[List.getElem?_set_ne (Ne.symm e)];exact h
   ·exact h
 have LO:∀ (j k:Nat),t1.way[j]? = some k->j ≠ i->t.way[j]? = some k:=fun j k hj zC=>by
  rw[w1]at hj
  by_cases h:c=0
  ·rw[if_pos h]at hj
   have zL:=(List.getElem?_eq_some_iff.mp hj).1
   rw[length_append,length_singleton]at zL
   have:=(h0 h).1
   rwa [List.getElem?_append_left (by omega)]at hj
  ·rw[if_neg h]at hj;exact hj
 have HI:t1.way.length=if c=0 then i + 1 else t.way.length:=by
  rw[w1];split
  ·rename_i h
   rw[length_append,length_singleton,(h0 h).1]
  ·rfl
 have Du:c ≠ 0->i < t.way.length:=fun h=>(List.getElem?_eq_some_iff.mp (h1 h)).1
 have Fz:t1.way.Nodup:=by
  rw[w1];split
  ·rename_i h
   refine nodup_append.mpr ⟨G.nd m t ht,by simp,fun x hx y hy e=>?_⟩
   rw[mem_singleton]at hy
   subst hy;subst e
   exact(h0 h).2 hx
  ·exact G.nd m t ht
 have AB:∀ {kk:Nat}{zK:bU},(bH s m c l t ln).lanes[kk]? = some zK->(kk=l/\zK = gm ln m c t.len)∨(kk ≠ l/\s.lanes[kk]? = some zK):=fun h=>aV h
 have Dx:∀ m',m' ≠ m->eJ m' (ln.qs ++ [((m:Int),c)])=eJ m' ln.qs:=fun m' hm=>by
  rw[eB,fQ,if_neg (Ne.symm hm),append_nil]
 have NO:eJ m ln.qs=je (N m (i + 1)) (N m i)/\N m (i + 1) <= N m i:=by
  by_cases h:c=0
  ·have e0:N m i=0:=by omega
   have f1:=G.Ds m t ht (i + 1) (by have:=(h0 h).1;omega)
   rw[cp (by omega)]at f1
   have f1:N m (i + 1)=0:=by omega
   rw[e0,f1]
   refine⟨?_,Nat.le_refl _⟩
   rw[dY (Nat.le_refl _)]
   refine ls fun q hq e=>?_
   obtain⟨m',t',e',FY,Ep⟩:=G.own l ln zE q hq
   have:m' = m:=by rw[e]at e';omega
   subst this
   rw[ht]at FY;cases FY
   exact(h0 h).2 Ep
  ·have:=G.q m t ht i l ln (h1 h) zE
   rw[cp (by omega)]at this
   have hd:=(G.dn m t ht i (Du h)).1
   rw[cp (by omega)]at hd
   exact⟨this,hd⟩
 have z0:∀ m' j,(zr m' j)=0:=fun _ _=>rfl
 refine⟨fun m' t' h=>?_,fun m' t' h=>?_,fun m' t' h j hj=>?_,fun m' t' h Ep=>?_,fun m' t' h j hj=>?_,fun m' t' h j kk zK hj hl=>?_,fun kk zK hl p hp=>?_,fun m' t' h=>?_,fun m' t' h p qs hp=>?_,fun p qs hp q hq=>?_,fun kk zK hl m' t' h=>?_,fun kk zK hl z hz=>?_,fun kk zK hl=>?_,fun kk zK hl j p q hp hq=>?_,fun kk zK hl q hq=>?_⟩
 ·rcases key m' t' h with ⟨rfl,rfl⟩ | ⟨zC,h⟩
  ·rw[V3,← G.g0 _ t ht];rfl
  ·exact G.g0 m' t' h
 ·rcases key m' t' h with ⟨rfl,rfl⟩ | ⟨zC,h⟩
  ·rw[V3,el];exact G.gl _ t ht
  ·exact G.gl m' t' h
 ·rcases key m' t' h with ⟨rfl,rfl⟩ | ⟨zC,h⟩
  ·refine G.Ds _ t ht j ?_
   rw[HI]at hj
   by_cases zY:c=0
   ·rw[if_pos zY]at hj;have:=(h0 zY).1;omega
   ·rw[if_neg zY]at hj;exact hj
  ·exact G.Ds m' t' h j hj
 ·rcases key m' t' h with ⟨rfl,rfl⟩ | ⟨zC,h⟩
  ·rw[Ep]at hw;cases hw
  ·show N m' 0 + cr m i m' 0=0
   rw[dM zC];exact G.top m' t' h Ep
 ·rcases key m' t' h with ⟨rfl,rfl⟩ | ⟨zC,h⟩
  ·show N m' (j + 1) + cr m' i m' (j + 1) + 0 <= N m' j + cr m' i m' j/\0 < N m' j + cr m' i m' j/\((N m' j + cr m' i m' j:Nat):Int) <= t'.len
   rw[el]
   by_cases e:j=i
   ·subst e
    rw[eW,cp (by omega)]
    have:=NO.2
    exact⟨by omega,by omega,by omega⟩
   ·have Ra:j < t.way.length:=by
     rw[HI]at hj
     by_cases zY:c=0
     ·rw[if_pos zY]at hj;have:=(h0 zY).1;omega
     ·rw[if_neg zY]at hj;exact hj
    obtain⟨d1,d2,d3⟩:=G.dn _ t ht j Ra
    have:cr m' i m' j=0:=cp e
    rw[this]
    exact⟨by omega,by omega,by omega⟩
  ·show N m' (j + 1) + cr m i m' (j + 1) + 0 <= N m' j + cr m i m' j/\0 < N m' j + cr m i m' j/\((N m' j + cr m i m' j:Nat):Int) <= t'.len
   have:=G.dn m' t' h j hj
   rw[dM zC]at this ⊢
   rw[dM zC];exact this
 ·show eJ m' zK.qs=je (N m' (j + 1) + cr m i m' (j + 1) + 0) (N m' j + cr m i m' j)
  rcases key m' t' h with ⟨rfl,rfl⟩ | ⟨zC,h2⟩
  ·rcases AB hl with ⟨rfl,rfl⟩ | ⟨AY,hl⟩
   ·have:j=i:=cj Fz hj hw
    subst this
    show eJ m' (ln.qs ++ [((m':Int),c)])=_
    rw[eB,fQ,if_pos rfl,eW,cp (by omega),NO.1,hc,Nat.add_zero,Nat.add_zero]
    exact(jd NO.2).symm
   ·have FZ:j ≠ i:=fun e=>by rw[e,hw]at hj;cases hj;exact AY rfl
    rw[show cr m' i m' j=0 from cp FZ]
    exact G.q _ t ht j kk zK (LO j kk hj FZ) hl
  ·rcases AB hl with ⟨rfl,rfl⟩ | ⟨AY,hl⟩
   ·show eJ m' (ln.qs ++ [((m:Int),c)])=_
    rw[Dx m' zC,show cr m i m' j=0 from dM zC]
    exact G.q m' t' h2 j kk ln hj zE
   ·rw[show cr m i m' j=0 from dM zC]
    exact G.q m' t' h2 j kk zK hj hl
 ·rcases AB hl with ⟨rfl,rfl⟩ | ⟨AY,hl⟩
  ·rcases mem_append.mp hp with hp | hp
   ·obtain⟨m',t2,e,h2,EL⟩:=G.own kk ln zE p hp
    obtain⟨t',h',sub,_⟩:=back m' t2 h2
    exact⟨m',t',e,h',sub _ EL⟩
   ·rw[mem_singleton.mp hp]
    exact⟨m,t1,rfl,Et,mem_of_getElem? hw⟩
  ·obtain⟨m',t2,e,h2,EL⟩:=G.own kk zK hl p hp
   obtain⟨t',h',sub,_⟩:=back m' t2 h2
   exact⟨m',t',e,h',sub _ EL⟩
 ·rcases key m' t' h with ⟨rfl,rfl⟩ | ⟨zC,h⟩
  ·exact Fz
  ·exact G.nd m' t' h
 ·show eJ m' qs=if (p:Int)=t'.goal then je 0 (N m' t'.way.length + cr m i m' t'.way.length) else []
  rcases key m' t' h with ⟨rfl,rfl⟩ | ⟨zC,h⟩
  ·have e:=G.Ar _ t ht p qs hp
   rw[eg,e]
   by_cases BI:(p:Int)=t.goal
   ·rw[if_pos BI,if_pos BI,HI]
    by_cases zY:c=0
    ·rw[if_pos zY,cp (by omega),← (h0 zY).1]
     have f1:=G.Ds _ t ht (i + 1) (by have:=(h0 zY).1;omega)
     have e1:N m' (i + 1)=0:=by omega
     have e2:N m' i=0:=by omega
     rw[e1,e2]
    ·rw[if_neg zY,cp (by have:=Du zY;omega)];rfl
   ·rw[if_neg BI,if_neg BI]
  ·rw[dM zC];exact G.Ar m' t' h p qs hp
 ·obtain⟨m',t2,e,h2⟩:=G.BR p qs hp q hq
  obtain⟨t',h',_⟩:=back m' t2 h2
  exact⟨m',t',e,h'⟩
 ·show zK.h=some (m':Int)↔∃ j,t'.way[j]? = some kk/\((N m' j + cr m i m' j:Nat):Int) < t'.len
  rcases key m' t' h with ⟨rfl,rfl⟩ | ⟨zC,h2⟩
  ·rcases AB hl with ⟨rfl,rfl⟩ | ⟨AY,hl⟩
   ·show(if decide (c=t.len - 1)=true then none else some (m':Int))=_↔_
    rw[el]
    constructor
    ·intro z
     refine⟨i,hw,?_⟩
     rw[eW]
     by_cases e:c=t.len - 1
     ·rw[if_pos (decide_eq_true e)]at z;cases z
     ·omega
    ·rintro⟨j,hj,DB⟩
     have:j=i:=cj Fz hj hw
     subst this
     rw[eW]at DB
     rw[if_neg (by rw[decide_eq_true_eq];omega)]
   ·have e:=G.hold kk zK hl _ t ht
    rw[e,el]
    constructor
    ·rintro⟨j,hj,DB⟩
     refine⟨j,?_,?_⟩
     ·rw[w1];split
      ·rw[List.getElem?_append_left (List.getElem?_eq_some_iff.mp hj).1];exact hj
      ·exact hj
     ·rw[show cr m' i m' j=0 from cp fun e=>by
       subst e
       by_cases zY:c=0
       ·have:=(List.getElem?_eq_some_iff.mp hj).1;have:=(h0 zY).1;omega
       ·rw[h1 zY]at hj;cases hj;exact AY rfl]
      exact DB
    ·rintro⟨j,hj,DB⟩
     have FZ:j ≠ i:=fun e=>by rw[e,hw]at hj;cases hj;exact AY rfl
     rw[show cr m' i m' j=0 from cp FZ]at DB
     exact⟨j,LO j kk hj FZ,DB⟩
  ·have eN:∀ j,N m' j + cr m i m' j=N m' j:=fun j=>by rw[dM zC];rfl
   simp only[eN]
   rcases AB hl with ⟨rfl,rfl⟩ | ⟨AY,hl⟩
   ·show(if decide (c=t.len - 1)=true then none else some (m:Int))=_↔_
    rw[← G.hold kk ln zE m' t' h2]
    have a1:ln.h ≠ some (m':Int):=fun z=>by
     rw[z]at BF
     by_cases zY:c=0
     ·rw[if_pos zY]at BF;cases BF
     ·rw[if_neg zY]at BF
      have:=Option.some.inj BF
      omega
    refine⟨fun z=>?_,fun z=>absurd z a1⟩
    split at z
    ·cases z
    ·have:=Option.some.inj z
     exact absurd (show m' = m by omega) zC
   ·exact G.hold kk zK hl m' t' h2
 ·rcases AB hl with ⟨rfl,rfl⟩ | ⟨AY,hl⟩
  ·have z:(if decide (c=t.len - 1)=true then none else some (m:Int))=some z:=hz
   split at z
   ·cases z
   ·exact⟨m,t1,(Option.some.inj z).symm,Et⟩
  ·obtain⟨m',t2,e,h2⟩:=G.BS kk zK hl z hz
   obtain⟨t',h',_⟩:=back m' t2 h2
   exact⟨m',t',e,h'⟩
 ·rcases AB hl with ⟨rfl,rfl⟩ | ⟨AY,hl⟩
  ·obtain⟨r1,r2,r3⟩:=G.room kk ln zE
   refine⟨?_,by show 0 <= ln.r - 1;omega,r3⟩
   show s.rooms[kk]? = some (.int (ln.r - 1 + ln.b + ((ln.qs ++ [((m:Int),c)]).length:Nat)))
   rw[r1,length_append,length_singleton]
   congr 2;omega
  ·exact G.room kk zK hl
 ·have up:LN s p q->LN (bH s m c l t ln) p q:=fun z=>by
   rcases z with z | ⟨z,m',t2,e,h2,e2⟩
   ·exact .inl z
   ·obtain⟨t',h',_,R4⟩:=back m' t2 h2
    exact .inr ⟨z,m',t',e,h',by rw[R4];exact e2⟩
  rcases AB hl with ⟨rfl,rfl⟩ | ⟨AY,hl⟩
  ·have hp:(ln.qs ++ [((m:Int),c)])[j]? = some p:=hp
   have hq:(ln.qs ++ [((m:Int),c)])[j + 1]? = some q:=hq
   by_cases hj:j + 1 < ln.qs.length
   ·rw[List.getElem?_append_left (by omega)]at hp
    rw[List.getElem?_append_left hj]at hq
    exact up (G.EZ kk ln zE j p q hp hq)
   ·have zL:=(List.getElem?_eq_some_iff.mp hq).1
    rw[length_append,length_singleton]at zL
    have ej:j + 1=ln.qs.length:=by omega
    rw[ej,List.getElem?_concat_length]at hq
    cases hq
    rw[List.getElem?_append_left (by omega)]at hp
    have Gj:ln.qs.getLast? = some p:=by rw[List.getLast?_eq_getElem?,← ej];exact hp
    rcases G.lst kk ln zE p Gj with z | ⟨z,m',t2,e,h2,e2⟩
    ·by_cases zY:c=0
     ·rw[if_pos zY,z]at BF;cases BF
     ·rw[if_neg zY,z]at BF
      have e1:p.1=(m:Int):=Option.some.inj BF
      obtain⟨e2,_⟩:=uv Gj e1 NO.1
      exact .inl ⟨e1.symm,by show c=p.2 + 1;omega⟩
    ·by_cases zY:c=0
     ·exact up (.inr ⟨zY,m',t2,e,h2,e2⟩)
     ·rw[if_neg zY,z]at BF;cases BF
  ·exact up (G.EZ kk zK hl j p q hp hq)
 ·rcases AB hl with ⟨rfl,rfl⟩ | ⟨AY,hl⟩
  ·have hq:(ln.qs ++ [((m:Int),c)]).getLast? = some q:=hq
   rw[List.getLast?_concat]at hq
   cases hq
   show(if decide (c=t.len - 1)=true then none else some (m:Int))=_∨_
   by_cases e:c=t.len - 1
   ·exact .inr ⟨by show(if decide (c=t.len - 1)=true then none else some (m:Int))=none;rw[if_pos (decide_eq_true e)],m,t1,rfl,Et,by rw[el];exact e⟩
   ·exact .inl (by rw[if_neg (by rw[decide_eq_true_eq];exact e)])
  ·rcases G.lst kk zK hl q hq with z | ⟨z,m',t2,e,h2,e2⟩
   ·exact .inl z
   ·obtain⟨t',h',_,R4⟩:=back m' t2 h2
    exact .inr ⟨z,m',t',e,h',by rw[R4];exact e2⟩
theorem Az.lay {a:YA}{s:YS}{N:Nat->Nat->Nat}{m e:Nat}{c:Int}{t:aW}{qs:List (Int × Int)}(G:Az a s N (cr m t.way.length))(ht:s.yZ[m]? = some t)(hc:c=(N m t.way.length:Int))(hg:t.goal=(e:Int))(AS:s.lies[e]? = some qs)(hw:t.way ≠ []) :
  Az a { s with lies:=s.lies.set e (qs ++ [((m:Int),c)]) } (fun m' i'=>N m' i' + cr m t.way.length m' i') zr:=by
 have Ed:0 < t.way.length:=length_pos_iff.mpr hw
 have eN:∀ m' j,(m' = m->j ≠ t.way.length)->N m' j + cr m t.way.length m' j=N m' j:=fun m' j h=>by
  by_cases e:m' = m
  ·rw[cp (h e)];rfl
  ·rw[dM e];rfl
 refine⟨fun m' t' h=>?_,G.gl,fun m' t' h j hj=>?_,fun m' t' h Ep=>?_,fun m' t' h j hj=>?_,fun m' t' h j kk ln hj hl=>?_,G.own,G.nd,fun m' t' h p HJ hp=>?_,fun p HJ hp q hq=>?_,fun kk ln hl m' t' h=>?_,G.BS,G.room,G.EZ,G.lst⟩
 ·rw[← G.g0 m' t' h];rfl
 ·exact G.Ds m' t' h j hj
 ·show N m' 0 + cr m t.way.length m' 0=0
  rw[eN m' 0 (fun _=>by omega)];exact G.top m' t' h Ep
 ·show N m' (j + 1) + cr m t.way.length m' (j + 1) + 0 <= N m' j + cr m t.way.length m' j/\0 < N m' j + cr m t.way.length m' j/\((N m' j + cr m t.way.length m' j:Nat):Int) <= t'.len
  rw[eN m' j (fun e=>by subst e;rw[ht]at h;cases h;omega)]
  exact G.dn m' t' h j hj
 ·show eJ m' ln.qs=je (N m' (j + 1) + cr m t.way.length m' (j + 1) + 0) (N m' j + cr m t.way.length m' j)
  have DB:=(List.getElem?_eq_some_iff.mp hj).1
  rw[eN m' j (fun e=>by subst e;rw[ht]at h;cases h;omega)]
  exact G.q m' t' h j kk ln hj hl
 ·show eJ m' HJ = if (p:Int)=t'.goal then je 0 (N m' t'.way.length + cr m t.way.length m' t'.way.length) else []
  have h:s.yZ[m']? = some t':=h
  rcases aV hp with ⟨rfl,rfl⟩ | ⟨zC,D5⟩
  ·rw[eB,fQ]
   have e1:=G.Ar m' t' h p qs AS
   by_cases em:m' = m
   ·subst em
    rw[ht]at h;cases h
    rw[if_pos hg.symm]at e1
    rw[if_pos rfl,if_pos hg.symm,e1,eW,hc]
    exact(jd (zero_le _)).symm
   ·rw[if_neg (Ne.symm em),append_nil,eN m' _ (fun z=>absurd z em)];exact e1
  ·by_cases em:m' = m
   ·subst em
    rw[ht]at h;cases h
    have e1:=G.Ar m' t ht p HJ D5
    rw[if_neg (by rw[hg];omega)]at e1 ⊢
    exact e1
   ·rw[eN m' _ (fun z=>absurd z em)];exact G.Ar m' t' h p HJ D5
 ·rcases aV hp with ⟨rfl,rfl⟩ | ⟨zC,hp⟩
  ·rcases mem_append.mp hq with hq | hq
   ·exact G.BR p qs AS q hq
   ·rw[mem_singleton.mp hq];exact⟨m,t,rfl,ht⟩
  ·exact G.BR p HJ hp q hq
 ·show ln.h=some (m':Int)↔∃ j,t'.way[j]? = some kk/\((N m' j + cr m t.way.length m' j:Nat):Int) < t'.len
  have h:s.yZ[m']? = some t':=h
  rw[G.hold kk ln hl m' t' h]
  constructor
  ·rintro⟨j,hj,DB⟩
   have hjw:=(List.getElem?_eq_some_iff.mp hj).1
   exact⟨j,hj,by rw[eN m' j (fun e=>by subst e;rw[ht]at h;cases h;omega)];exact DB⟩
  ·rintro⟨j,hj,DB⟩
   have hjw:=(List.getElem?_eq_some_iff.mp hj).1
   rw[eN m' j (fun e=>by subst e;rw[ht]at h;cases h;omega)]at DB
   exact⟨j,hj,DB⟩
theorem Az.back {a:YA}{s:YS}{N D:Nat->Nat->Nat}(G:Az a s N D){k:Nat}{lk:bU}(hk:s.lanes[k]? = some lk)(hb:0 < lk.b):Az a { s with lanes:=s.lanes.set k (m7 lk) } N D:=by
 have kl:∀ {kk:Nat}{ln:bU},(s.lanes.set k (m7 lk))[kk]? = some ln->∃ l0,s.lanes[kk]? = some l0/\ln.qs=l0.qs/\ln.h=l0.h/\ln.r + ln.b=l0.r + l0.b/\l0.r <= ln.r/\(0 <= l0.b->0 <= ln.b):=fun h=>by
  rcases aV h with ⟨rfl,rfl⟩ | ⟨_,h⟩
  ·exact⟨lk,hk,rfl,rfl,by show lk.r + 1 + (lk.b - 1)=_;omega,by show lk.r <= lk.r + 1;omega,fun _=>by show 0 <= lk.b - 1;omega⟩
  ·exact⟨_,h,rfl,rfl,rfl,Int.le_refl _,id⟩
 refine⟨G.g0,G.gl,G.Ds,G.top,G.dn,fun m' t' h j kk ln hj hl=>?_,fun kk ln hl p hp=>?_,G.nd,G.Ar,G.BR,fun kk ln hl m' t' h=>?_,fun kk ln hl z hz=>?_,fun kk ln hl=>?_,fun kk ln hl j p q hp hq=>?_,fun kk ln hl q hq=>?_⟩
 ·obtain⟨l0,h0,e1,e2,e3,e4,e5⟩:=kl hl
  rw[e1];exact G.q m' t' h j kk l0 hj h0
 ·obtain⟨l0,h0,e1,e2,e3,e4,e5⟩:=kl hl
  rw[e1]at hp;exact G.own kk l0 h0 p hp
 ·obtain⟨l0,h0,e1,e2,e3,e4,e5⟩:=kl hl
  rw[e2];exact G.hold kk l0 h0 m' t' h
 ·obtain⟨l0,h0,e1,e2,e3,e4,e5⟩:=kl hl
  rw[e2]at hz;exact G.BS kk l0 h0 z hz
 ·obtain⟨l0,h0,e1,e2,e3,e4,e5⟩:=kl hl
  obtain⟨r1,r2,r3⟩:=G.room kk l0 h0
  exact⟨by rw[e1,e3];exact r1,by omega,e5 r3⟩
 ·obtain⟨l0,h0,e1,e2,e3,e4,e5⟩:=kl hl
  rw[e1]at hp hq;exact G.EZ kk l0 h0 j p q hp hq
 ·obtain⟨l0,h0,e1,e2,e3,e4,e5⟩:=kl hl
  rw[e1]at hq;rw[e2];exact G.lst kk l0 h0 q hq
theorem uJ {a:YA}{s:YS}{k m:Nat}{c:Int}{lk:bU}{t:aW}{l:Nat}(hk:s.lanes[k]? = some lk)(hq:lk.qs.head? = some ((m:Int),c))(ht:s.yZ[m]? = some t)(hl:l ∈ c3 a s k):if c=0 then l ∉ t.way else l ∈ (t.way.drop (t.way.idxOf k + 1)).take 1:=by
 have ef:bO s k=some ((m:Int),c):=by unfold bO;rw[hk];exact hq
 unfold c3 at hl
 rw[ef]at hl
 have hl:l ∈ (match s.yZ[(m:Int).toNat]? with | none=>[] | some t=>if c=0 then (pw a k t.goal.toNat).filter fun l=>!decide (l ∈ t.way) else (t.way.drop (t.way.idxOf k + 1)).take 1):=hl
 rw[toNat_natCast,ht]at hl
 have hl:l ∈ (if c=0 then (pw a k t.goal.toNat).filter fun l=>!decide (l ∈ t.way) else (t.way.drop (t.way.idxOf k + 1)).take 1):=hl
 by_cases h:c=0
 ·rw[if_pos h]at hl ⊢
  have:=(mem_filter.mp hl).2
  simpa using this
 ·rw[if_neg h]at hl ⊢;exact hl
theorem jR {l:List Nat}{j x:Nat}(h:x ∈ (l.drop j).take 1):l[j]? = some x:=by
 cases hd:l.drop j with
 | nil=>rw[hd]at h;cases h
 | cons y ys =>
  rw[hd]at h
  have h:x ∈ [y]:=h
  rw[mem_singleton]at h
  subst h
  have:=List.getElem?_drop (xs:=l) (i:=j) (j:=0)
  rw[hd]at this
  exact this.symm
theorem yD {l:List Nat}(h:l.Nodup){i x:Nat}(hi:l[i]? = some x):l.idxOf x=i:=by
 obtain⟨h1,e1⟩:=List.getElem?_eq_some_iff.mp hi
 have hx:x ∈ l:=mem_of_getElem? hi
 have h2:l.idxOf x < l.length:=List.idxOf_lt_length_of_mem hx
 have h3:l[l.idxOf x]? = some x:=by rw[List.getElem?_eq_getElem h2,List.getElem_idxOf h2]
 exact cj h h3 hi
theorem Az.R5 {a:YA}{s:YS}{N D:Nat->Nat->Nat}(G:Az a s N D)(d:List (List V)):Az a { s with done:=d } N D:=⟨G.g0,G.gl,G.Ds,G.top,G.dn,G.q,G.own,G.nd,G.Ar,G.BR,G.hold,G.BS,G.room,G.EZ,G.lst⟩
theorem Az.LP {a:YA}{s:YS}{N:Nat->Nat->Nat}(G:Az a s N zr){x y l u:Int}(hl:0 <= l):∃ N':Nat->Nat->Nat,(∀ m i,m ≠ s.yZ.length->N' m i=N m i)/\Az a (cI s x y l u) N' zr:=by
 have el:∀ (m:Nat)(t:aW),(cI s x y l u).yZ[m]? = some t->(m ≠ s.yZ.length/\s.yZ[m]? = some t)∨(m=s.yZ.length/\t = ⟨x,y,l,u,0,[]⟩):=fun m t ht=>by
  have ht:(s.yZ ++ [(⟨x,y,l,u,0,[]⟩:aW)])[m]? = some t:=ht
  by_cases hm:m < s.yZ.length
  ·rw[List.getElem?_append_left hm]at ht;exact .inl ⟨by omega,ht⟩
  ·have h3:=(List.getElem?_eq_some_iff.mp ht).1
   rw[length_append,length_singleton]at h3
   have em:m=s.yZ.length:=by omega
   subst em
   rw[List.getElem?_concat_length]at ht
   cases ht
   exact .inr ⟨rfl,rfl⟩
 have eo:∀ {m:Nat}{t:aW},s.yZ[m]? = some t->(cI s x y l u).yZ[m]? = some t:=fun ht=>by
  show(s.yZ ++ [(⟨x,y,l,u,0,[]⟩:aW)])[_]? = some _
  rw[List.getElem?_append_left (List.getElem?_eq_some_iff.mp ht).1];exact ht
 have nw:∀ {m:Nat}{t:aW},s.yZ[m]? = some t->m ≠ s.yZ.length:=fun ht z=>by
  rw[z,List.getElem?_eq_none (Nat.le_refl _)]at ht;cases ht
 refine⟨fun m i=>if m=s.yZ.length then 0 else N m i,(fun m i h=>if_neg h),fun m t h=>?_,fun m t h=>?_,fun m t h j hj=>?_,fun m t h hw=>?_,fun m t h j hj=>?_,fun m t h j kk ln hj hl=>?_,fun kk ln hl p hp=>?_,fun m t h=>?_,fun m t h p qs hp=>?_,fun p qs hp q hq=>?_,fun kk ln hl m t h=>?_,fun kk ln hl z hz=>?_,G.room,fun kk ln hl j p q hp hq=>?_,fun kk ln hl q hq=>?_⟩
 ·rcases el m t h with ⟨zC,h⟩ | ⟨e,rfl⟩
  ·simp only[if_neg zC];exact G.g0 m t h
  ·simp only[if_pos e];rfl
 ·rcases el m t h with ⟨zC,h⟩ | ⟨e,rfl⟩
  ·exact G.gl m t h
  ·exact hl
 ·rcases el m t h with ⟨zC,h⟩ | ⟨e,rfl⟩
  ·simp only[if_neg zC];exact G.Ds m t h j hj
  ·simp only[if_pos e];rfl
 ·rcases el m t h with ⟨zC,h⟩ | ⟨e,rfl⟩
  ·simp only[if_neg zC];exact G.top m t h hw
  ·simp only[if_pos e]
 ·rcases el m t h with ⟨zC,h⟩ | ⟨e,rfl⟩
  ·simp only[if_neg zC];exact G.dn m t h j hj
  ·cases hj
 ·rcases el m t h with ⟨zC,h⟩ | ⟨e,rfl⟩
  ·simp only[if_neg zC];exact G.q m t h j kk ln hj hl
  ·cases hj
 ·obtain⟨m,t,e,h,hw⟩:=G.own kk ln hl p hp
  exact⟨m,t,e,eo h,hw⟩
 ·rcases el m t h with ⟨zC,h⟩ | ⟨e,rfl⟩
  ·exact G.nd m t h
  ·exact nodup_nil
 ·rcases el m t h with ⟨zC,h⟩ | ⟨e,rfl⟩
  ·simp only[if_neg zC];exact G.Ar m t h p qs hp
  ·simp only[if_pos e]
   rw[dY (Nat.le_refl _),ite_self]
   refine ls fun q hq e2=>?_
   obtain⟨m',t',e3,h'⟩:=G.BR p qs hp q hq
   have:=nw h'
   rw[e2]at e3
   omega
 ·obtain⟨m,t,e,h⟩:=G.BR p qs hp q hq
  exact⟨m,t,e,eo h⟩
 ·rcases el m t h with ⟨zC,h⟩ | ⟨e,rfl⟩
  ·simp only[if_neg zC];exact G.hold kk ln hl m t h
  ·refine⟨fun z=>?_,fun⟨j,hj,_⟩=>by cases hj⟩
   obtain⟨m',t',e3,h'⟩:=G.BS kk ln hl _ z
   have:=nw h'
   omega
 ·obtain⟨m,t,e,h⟩:=G.BS kk ln hl z hz
  exact⟨m,t,e,eo h⟩
 ·rcases G.EZ kk ln hl j p q hp hq with z | ⟨z,m',t2,e,h2,e2⟩
  ·exact .inl z
  ·exact .inr ⟨z,m',t2,e,eo h2,e2⟩
 ·rcases G.lst kk ln hl q hq with z | ⟨z,m',t2,e,h2,e2⟩
  ·exact .inl z
  ·exact .inr ⟨z,m',t2,e,eo h2,e2⟩
theorem R6 {a:YA}{rs:List Int}{n:Nat}(h:∀ r ∈ rs,1 <= r/\r <= 60):Az a (Y0 (rs.map V.int) n) zr zr:=by
 have zE:∀ {k:Nat}{ln:bU},(Y0 (rs.map V.int) n).lanes[k]? = some ln->∃ r,rs[k]? = some r/\ln = ⟨r,0,none,[]⟩:=fun {k ln} hl=>by
  have hl:(((rs.map V.int).map p9))[k]? = some ln:=hl
  rw[List.getElem?_map,List.getElem?_map]at hl
  cases hr:rs[k]? with
  | none=>rw[hr]at hl;cases hl
  | some r=>rw[hr]at hl;cases hl;exact⟨r,rfl,rfl⟩
 have nl:∀ {m:Nat}{t:aW},(Y0 (rs.map V.int) n).yZ[m]? = some t->False:=fun h=>by cases h
 have R7:∀ {p:Nat}{qs:List (Int × Int)},(Y0 (rs.map V.int) n).lies[p]? = some qs->qs=[]:=fun {p qs} hp=>by
  have hp:(List.replicate n ([]:List (Int × Int)))[p]? = some qs:=hp
  rw[List.getElem?_replicate]at hp
  split at hp
  ·cases hp;rfl
  ·cases hp
 refine⟨fun m t h=>(nl h).elim,fun m t h=>(nl h).elim,fun m t h=>(nl h).elim,fun m t h=>(nl h).elim,fun m t h=>(nl h).elim,fun m t h=>(nl h).elim,fun kk ln hl p hp=>?_,fun m t h=>(nl h).elim,fun m t h=>(nl h).elim,fun p qs hp q hq=>?_,fun kk ln hl m t h=>(nl h).elim,fun kk ln hl z hz=>?_,fun kk ln hl=>?_,fun kk ln hl j p q hp hq=>?_,fun kk ln hl q hq=>?_⟩
 ·obtain⟨r,hr,rfl⟩:=zE hl
  cases hp
 ·rw[R7 hp]at hq;cases hq
 ·obtain⟨r,hr,rfl⟩:=zE hl
  cases hz
 ·obtain⟨r,hr,rfl⟩:=zE hl
  have EY:=h r (mem_of_getElem? hr)
  refine⟨?_,by show 0 <= r;omega,Int.le_refl _⟩
  show(rs.map V.int)[kk]? = some (.int (r + 0 + ((0:Nat):Int)))
  rw[List.getElem?_map,hr]
  show some (V.int r)=_
  congr 2;omega
 ·obtain⟨r,hr,rfl⟩:=zE hl
  cases hp
 ·obtain⟨r,hr,rfl⟩:=zE hl
  cases hq
noncomputable def Bl (F:List Nat)(m1 m2:Nat):Prop:=∃ i j:Nat,i < j/\F[i]? = some m1/\F[j]? = some m2
noncomputable def Ag (t1 t2:aW)(p:Nat):Prop:=p < t1.way.length/\p < t2.way.length/\t1.way.take (p + 1)=t2.way.take (p + 1)
theorem Bl.snoc {F:List Nat}{m m1 m2:Nat}(h:Bl (F ++ [m]) m1 m2):Bl F m1 m2∨(m2=m/\m1 ∈ F):=by
 obtain⟨i,j,HH,h1,h2⟩:=h
 have hj:=(List.getElem?_eq_some_iff.mp h2).1
 rw[length_append,length_singleton]at hj
 have hi:i < F.length:=by omega
 rw[List.getElem?_append_left hi]at h1
 rcases lt_or_ge j F.length with h | h
 ·rw[List.getElem?_append_left h]at h2
  exact .inl ⟨i,j,HH,h1,h2⟩
 ·have:j=F.length:=by omega
  subst this
  rw[List.getElem?_concat_length]at h2
  cases h2
  exact .inr ⟨rfl,mem_of_getElem? h1⟩
theorem Bl.ne {F:List Nat}(h:F.Nodup){m1 m2:Nat}(b:Bl F m1 m2):m1 ≠ m2:=fun e=>by
 obtain⟨i,j,HH,h1,h2⟩:=b
 rw[e]at h1
 have:=cj h h1 h2
 omega
theorem Bl.left {F:List Nat}{m1 m2:Nat}(b:Bl F m1 m2):m1 ∈ F:=by
 obtain⟨i,j,HH,h1,h2⟩:=b
 exact mem_of_getElem? h1
theorem Bl.right {F:List Nat}{m1 m2:Nat}(b:Bl F m1 m2):m2 ∈ F:=by
 obtain⟨i,j,HH,h1,h2⟩:=b
 exact mem_of_getElem? h2
theorem oJ {l l':List Nat}{p j:Nat}(h:l.take (p + 1)=l'.take (p + 1))(hj:j <= p):l[j]? = l'[j]?:=by
 have:=congrArg (fun x=>x[j]?) h
 simp only[List.getElem?_take]at this
 rwa [if_pos (by omega),if_pos (by omega)]at this
theorem pY {l l':List Nat}{p q:Nat}(h:l.take (p + 1)=l'.take (p + 1))(hq:q <= p):l.take (q + 1)=l'.take (q + 1):=by
 have:=congrArg (List.take (q + 1)) h
 rwa [List.take_take,List.take_take,min_eq_left (by omega)]at this
theorem Ag.at {t1 t2:aW}{p:Nat}(h:Ag t1 t2 p):t1.way[p]? = t2.way[p]?:=oJ h.2.2 (Nat.le_refl _)
theorem Ag.less {t1 t2:aW}{p q:Nat}(h:Ag t1 t2 p)(hq:q <= p):Ag t1 t2 q:=⟨by have:=h.1;omega,by have:=h.2.1;omega,pY h.2.2 hq⟩
structure Ord (s:YS)(N:Nat->Nat->Nat)(F:List Nat):Prop where
 nd:F.Nodup
 mem:∀ (m:Nat)(t:aW),s.yZ[m]? = some t->(m ∈ F↔t.way ≠ [])
 full:∀ (m1 m2:Nat)(t1 t2:aW)(p:Nat),Bl F m1 m2->s.yZ[m1]? = some t1->s.yZ[m2]? = some t2->Ag t1 t2 p->(N m1 p:Int)=t1.len/\(0 < N m2 (p + 1)->(N m1 (p + 1):Int)=t1.len)
 AN:∀ (m1 m2:Nat)(t1 t2:aW)(p:Nat),Bl F m1 m2->s.yZ[m1]? = some t1->s.yZ[m2]? = some t2->Ag t1 t2 p->∀ (k:Nat)(ln:bU),t1.way[p]? = some k->s.lanes[k]? = some ln->∀ (x y:Nat)(c1 c2:Int),ln.qs[x]? = some ((m1:Int),c1)->ln.qs[y]? = some ((m2:Int),c2)->x < y
 heap:∀ (m1 m2:Nat)(t1 t2:aW),Bl F m1 m2->s.yZ[m1]? = some t1->s.yZ[m2]? = some t2->t1.way=t2.way->∀ (p:Nat)(qs:List (Int × Int)),s.lies[p]? = some qs->∀ (x y:Nat)(c1 c2:Int),qs[x]? = some ((m1:Int),c1)->qs[y]? = some ((m2:Int),c2)->x < y
theorem uu {m:Nat}{qs:List (Int × Int)}(h:eJ m qs=[]){c:Int}:((m:Int),c) ∉ qs:=fun hm=>by
 have h2:c ∈ eJ m qs:=mem_map.mpr ⟨((m:Int),c),mem_filter.mpr ⟨hm,by simp⟩,rfl⟩
 rw[h]at h2;cases h2
theorem Ord.pull {a:YA}{s:YS}{N:Nat->Nat->Nat}{F:List Nat}(O:Ord s N F)(G:Az a s N zr){k m i:Nat}{c:Int}{lk:bU}{t:aW}(hk:s.lanes[k]? = some lk)(hq:lk.qs.head? = some ((m:Int),c))(ht:s.yZ[m]? = some t)(hi:t.way[i]? = some k) :
  Ord { s with lanes:=s.lanes.set k (ck lk) } N F/\∀ (m1:Nat)(t1:aW),Bl F m1 m->s.yZ[m1]? = some t1->Ag t1 t i->(N m1 (i + 1):Int)=t1.len:=by
 refine⟨⟨O.nd,O.mem,O.full,fun m1 m2 t1 t2 p hb h1 h2 ha kk ln BU hl x y c1 c2 hx hy=>?_,O.heap⟩,fun m1 t1 hb h1 ha=>?_⟩
 ·rcases aV hl with ⟨rfl,rfl⟩ | ⟨_,hl⟩
  ·have hx:lk.qs.tail[x]? = some ((m1:Int),c1):=hx
   have hy:lk.qs.tail[y]? = some ((m2:Int),c2):=hy
   rw[List.getElem?_tail]at hx hy
   have:=O.AN m1 m2 t1 t2 p hb h1 h2 ha kk lk BU hk _ _ c1 c2 hx hy
   omega
  ·exact O.AN m1 m2 t1 t2 p hb h1 h2 ha kk ln BU hl x y c1 c2 hx hy
 ·have zC:=hb.ne O.nd
  have e0:=(O.full m1 m t1 t i hb h1 ht ha).1
  have hk1:t1.way[i]? = some k:=ha.at.trans hi
  have eq1:eJ m1 lk.qs=je (N m1 (i + 1)) (N m1 i):=G.q m1 t1 h1 i k lk hk1 hk
  have hd:N m1 (i + 1) <= N m1 i:=(G.dn m1 t1 h1 i ha.1).1
  rcases lt_or_ge (N m1 (i + 1)) (N m1 i) with zL | hge
  ·exfalso
   rw[lM zL]at eq1
   have hc:((N m1 (i + 1):Nat):Int) ∈ eJ m1 lk.qs:=by rw[eq1];exact mem_cons_self ..
   obtain⟨q,Nl,hqe⟩:=mem_map.mp hc
   obtain⟨Q3,hqf⟩:=mem_filter.mp Nl
   have Pn:q.1=(m1:Int):=by simpa using hqf
   obtain⟨x,hx⟩:=List.getElem?_of_mem Q3
   have h0:lk.qs[0]? = some ((m:Int),c):=by rw[← List.head?_eq_getElem?];exact hq
   have:=O.AN m1 m t1 t i hb h1 ht ha k lk hk1 hk x 0 q.2 c (by rw[hx,← Pn]) h0
   omega
  ·omega
theorem Ord.leave {s:YS}{N:Nat->Nat->Nat}{F:List Nat}(O:Ord s N F){m:Nat}{t:aW}(ht:s.yZ[m]? = some t):Ord (dv s m t) N F:=by
 have key:∀ (m':Nat)(t':aW),(dv s m t).yZ[m']? = some t'->∃ t2,s.yZ[m']? = some t2/\t'.way=t2.way/\t'.len=t2.len:=fun m' t' h=>by
  have h:(s.yZ.set m { t with gone:=t.gone + 1 })[m']? = some t':=h
  rcases aV h with ⟨rfl,rfl⟩ | ⟨zC,h⟩
  ·exact⟨t,ht,rfl,rfl⟩
  ·exact⟨t',h,rfl,rfl⟩
 have ag:∀ {t1 t2 V4 V5:aW}{p:Nat},V4.way=t1.way->V5.way=t2.way->Ag V4 V5 p->Ag t1 t2 p:=fun e1 e2 h=>by unfold Ag at h;rw[e1,e2]at h;exact h
 refine⟨O.nd,fun m' t' h=>?_,fun m1 m2 t1 t2 p hb h1 h2 ha=>?_,fun m1 m2 t1 t2 p hb h1 h2 ha kk ln BU hl=>?_,fun m1 m2 t1 t2 hb h1 h2 hw=>?_⟩
 ·obtain⟨t2,h2,ew,_⟩:=key m' t' h
  rw[ew];exact O.mem m' t2 h2
 ·obtain⟨r1,g1,e1,l1⟩:=key m1 t1 h1
  obtain⟨r2,g2,e2,_⟩:=key m2 t2 h2
  rw[l1];exact O.full m1 m2 r1 r2 p hb g1 g2 (ag e1 e2 ha)
 ·obtain⟨r1,g1,e1,l1⟩:=key m1 t1 h1
  obtain⟨r2,g2,e2,_⟩:=key m2 t2 h2
  exact O.AN m1 m2 r1 r2 p hb g1 g2 (ag e1 e2 ha) kk ln (by rw[← e1];exact BU) hl
 ·obtain⟨r1,g1,e1,l1⟩:=key m1 t1 h1
  obtain⟨r2,g2,e2,_⟩:=key m2 t2 h2
  exact O.heap m1 m2 r1 r2 hb g1 g2 (by rw[← e1,← e2];exact hw)
theorem Ord.enter {a:YA}{s:YS}{N:Nat->Nat->Nat}{F F':List Nat}{m i l:Nat}{c:Int}{t:aW}{ln:bU}(O:Ord s N F)(G:Az a s N (cr m i))(ht:s.yZ[m]? = some t)(hc:c=(N m i:Int))(h0:c=0->i=t.way.length/\l ∉ t.way)(h1:c ≠ 0->t.way[i]? = some l)(hlen:c + 1 <= t.len)(zE:s.lanes[l]? = some ln)(ho:bY ln.r ln.h m c=true)
  (hh:∀ (m1:Nat)(t1:aW)(p:Nat),p + 1=i->Bl F m1 m->s.yZ[m1]? = some t1->Ag t1 t p->(N m1 i:Int)=t1.len) (hF:(t.way=[]/\F' = F ++ [m])∨(t.way ≠ []/\F' = F)) :
  Ord (bH s m c l t ln) (fun m' i'=>N m' i' + cr m i m' i') F':=by
 have BF:c=0->ln.h=none:=fun h=>by
  unfold bY at ho
  by_cases hr:ln.r=0
  ·rw[if_pos hr]at ho;cases ho
  ·rw[if_neg hr,if_pos h]at ho;exact of_decide_eq_true ho
 obtain⟨t1,Et,w1,el,hw⟩:∃ t1:aW,(bH s m c l t ln).yZ[m]? = some t1/\t1.way=(if c=0 then t.way ++ [l] else t.way)/\t1.len=t.len/\t1.way[i]? = some l:=by
  by_cases h:c=0
  ·refine⟨{ t with way:=t.way ++ [l] },?_,by rw[if_pos h],rfl,?_⟩
   ·show(if c=0 then s.yZ.set m { t with way:=t.way ++ [l] } else s.yZ)[m]? = _
    rw[if_pos h];exact dj ht
   ·show(t.way ++ [l])[i]? = some l
    rw[(h0 h).1,List.getElem?_concat_length]
  ·refine⟨t,?_,by rw[if_neg h],rfl,h1 h⟩
   show(if c=0 then s.yZ.set m { t with way:=t.way ++ [l] } else s.yZ)[m]? = _
   rw[if_neg h];exact ht
 have key:∀ (m':Nat)(t':aW),(bH s m c l t ln).yZ[m']? = some t'->(m' = m/\t' = t1)∨(m' ≠ m/\s.yZ[m']? = some t'):=fun m' t' h=>by
  by_cases e:m' = m
  ·subst e
   rw[Et]at h;cases h;exact .inl ⟨rfl,rfl⟩
  ·refine .inr ⟨e,?_⟩
   have h:(if c=0 then s.yZ.set m { t with way:=t.way ++ [l] } else s.yZ)[m']? = some t':=h
   by_cases zY:c=0
   ·rw[if_pos zY,List.getElem?_set_ne (Ne.symm e)]at h;exact h
   ·rw[if_neg zY]at h;exact h
 have Fz:t1.way.Nodup:=by
  rw[w1];split
  ·rename_i h
   refine nodup_append.mpr ⟨G.nd m t ht,by simp,fun x hx y hy e=>?_⟩
   rw[mem_singleton]at hy
   subst hy;subst e
   exact(h0 h).2 hx
  ·exact G.nd m t ht
 have wt:∀ p,p ≠ i->p < t1.way.length->p < t.way.length/\t1.way.take (p + 1)=t.way.take (p + 1):=fun p hp hl=>by
  rw[w1]at hl ⊢
  by_cases h:c=0
  ·rw[if_pos h]at hl ⊢
   rw[length_append,length_singleton]at hl
   have:=(h0 h).1
   have Aj:p < t.way.length:=by omega
   exact⟨Aj,List.take_append_of_le_length (by omega)⟩
  ·rw[if_neg h]at hl ⊢;exact⟨hl,rfl⟩
 have R8:∀ {t':aW}{p:Nat},p ≠ i->Ag t' t1 p->Ag t' t p:=fun hp h=>by
  obtain⟨e1,e2⟩:=wt _ hp h.2.1
  exact⟨h.1,e1,h.2.2.trans e2⟩
 have R9:∀ {t':aW}{p:Nat},p ≠ i->Ag t1 t' p->Ag t t' p:=fun hp h=>by
  obtain⟨e1,e2⟩:=wt _ hp h.1
  exact⟨e1,h.2.1,e2.symm.trans h.2.2⟩
 have LQ:c ≠ 0->t1.way=t.way:=fun h=>by rw[w1,if_neg h]
 have fN:∀ m' j,m' ≠ m->N m' j + cr m i m' j=N m' j:=fun m' j h=>by rw[dM h];rfl
 have fI:∀ m' j,j ≠ i->N m' j + cr m i m' j=N m' j:=fun m' j h=>by rw[cp h];rfl
 have bB:∀ {m1 m2:Nat},m2 ≠ m->Bl F' m1 m2->Bl F m1 m2:=fun zC hb=>by
  rcases hF with ⟨_,e⟩ | ⟨_,e⟩
  ·rw[e]at hb
   rcases hb.snoc with h | ⟨h,_⟩
   ·exact h
   ·exact absurd h zC
  ·rw[e]at hb;exact hb
 have bM:∀ {m1:Nat},t.way ≠ []->Bl F' m1 m->Bl F m1 m:=fun zC hb=>by
  rcases hF with ⟨h,_⟩ | ⟨_,e⟩
  ·exact absurd h zC
  ·rw[e]at hb;exact hb
 have mF:Bl F m m∨m ∈ F->t.way ≠ []:=fun h=>by
  rcases h with h | h
  ·exact absurd rfl (h.ne O.nd)
  ·exact(O.mem m t ht).mp h
 have NP:F'.Nodup:=by
  rcases hF with ⟨h,e⟩ | ⟨_,e⟩
  ·rw[e]
   refine nodup_append.mpr ⟨O.nd,by simp,fun x hx y hy e2=>?_⟩
   rw[mem_singleton]at hy
   subst hy;subst e2
   exact(O.mem _ t ht).mp hx h
  ·rw[e];exact O.nd
 have V6:∀ {m2:Nat}{t2:aW},Bl F m m2->s.yZ[m2]? = some t2->¬ Ag t1 t2 i:=fun {m2 t2} hb h2 ha=>by
  by_cases h:c=0
  ·have hi:=(h0 h).1
   have zC:=mF (.inr hb.left)
   have Ed:0 < i:=by rw[hi];exact length_pos_iff.mpr zC
   obtain⟨j,rfl⟩:∃ j,i=j + 1:=⟨i - 1,by omega⟩
   have HK:=R9 (by omega) (ha.less (q:=j) (by omega))
   have D5:=(G.dn m2 t2 h2 (j + 1) ha.2.1).2.1
   have:=(O.full m m2 t t2 j hb ht h2 HK).2 D5
   omega
  ·have HK:Ag t t2 i:=by unfold Ag at ha ⊢;rw[LQ h]at ha;exact ha
   have:=(O.full m m2 t t2 i hb ht h2 HK).1
   omega
 have nel:∀ {m':Nat},m' ∈ F->m' = m->t.way ≠ []:=fun hm e=>by subst e;exact(O.mem _ t ht).mp hm
 refine⟨NP,fun m' t' h=>?_,fun m1 m2 r1 r2 p hb g1 g2 ha=>?_,fun m1 m2 r1 r2 p hb g1 g2 ha kk zK BU hl x y c1 c2 hx hy=>?_,fun m1 m2 r1 r2 hb g1 g2 Dt p qs hp x y c1 c2 hx hy=>?_⟩
 ·rcases key m' t' h with ⟨rfl,rfl⟩ | ⟨zC,h⟩
  ·refine⟨(fun _ z=>by rw[z]at hw;cases hw),fun _=>?_⟩
   rcases hF with ⟨_,e⟩ | ⟨hn,e⟩
   ·rw[e];simp
   ·rw[e];exact(O.mem _ t ht).mpr hn
  ·rw[← O.mem m' t' h]
   rcases hF with ⟨_,e⟩ | ⟨hn,e⟩
   ·rw[e];simp[zC]
   ·rw[e]
 ·show((N m1 p + cr m i m1 p:Nat):Int)=r1.len/\(0 < N m2 (p + 1) + cr m i m2 (p + 1)->((N m1 (p + 1) + cr m i m1 (p + 1):Nat):Int)=r1.len)
  have Cz:=hb.ne NP
  rcases key m1 r1 g1 with ⟨rfl,rfl⟩ | ⟨FW,k1⟩
  ·rcases key m2 r2 g2 with ⟨rfl,rfl⟩ | ⟨AV,k2⟩
   ·exact absurd rfl Cz
   ·have zW:=bB AV hb
    by_cases e:p=i
    ·subst e;exact absurd ha (V6 zW k2)
    ·obtain⟨f1,f2⟩:=O.full m1 m2 t r2 p zW ht k2 (R9 e ha)
     rw[fI m1 p e,fN m2 _ AV,el]
     refine⟨f1,fun z=>?_⟩
     have:=f2 z
     by_cases e2:p + 1=i
     ·rw[e2]at this;omega
     ·rw[fI m1 _ e2];exact this
  ·rw[fN m1 p FW,fN m1 (p + 1) FW]
   rcases key m2 r2 g2 with ⟨rfl,rfl⟩ | ⟨AV,k2⟩
   ·by_cases e:p=i
    ·subst e
     have hd3:=(G.dn m1 r1 k1 p ha.1).2.2
     by_cases h:c=0
     ·have hN:¬ (N m1 p:Int) < r1.len:=fun z=>by
       have:=(G.hold l ln zE m1 r1 k1).mpr ⟨p,ha.at.trans hw,z⟩
       rw[BF h]at this;cases this
      have hf:=G.Ds m2 t ht (p + 1) (by have:=(h0 h).1;omega)
      refine⟨by omega,fun z=>?_⟩
      omega
     ·have zW:=bM (fun z=>by have h9:=h1 h;rw[z]at h9;cases h9) hb
      have HK:Ag r1 t p:=by unfold Ag at ha ⊢;rw[LQ h]at ha;exact ha
      obtain⟨f1,f2⟩:=O.full m1 m2 r1 t p zW k1 ht HK
      exact⟨f1,fun z=>f2 (by rw[fI m2 _ (by omega)]at z;exact z)⟩
    ·have Aj:=(wt p e ha.2.1).1
     have zW:=bM (fun z=>by rw[z]at Aj;cases Aj) hb
     obtain⟨f1,f2⟩:=O.full m1 m2 r1 t p zW k1 ht (R8 e ha)
     refine⟨f1,fun z=>?_⟩
     by_cases e2:p + 1=i
     ·rw[e2];exact hh m1 r1 p e2 zW k1 (R8 e ha)
     ·rw[fI m2 _ e2]at z;exact f2 z
   ·rw[fN m2 (p + 1) AV]
    exact O.full m1 m2 r1 r2 p (bB AV hb) k1 k2 ha
 ·have Cz:=hb.ne NP
  have Bh:(kk=l/\zK = gm ln m c t.len)∨(kk ≠ l/\s.lanes[kk]? = some zK):=aV hl
  rcases key m1 r1 g1 with ⟨rfl,rfl⟩ | ⟨FW,k1⟩
  ·rcases key m2 r2 g2 with ⟨rfl,rfl⟩ | ⟨AV,k2⟩
   ·exact absurd rfl Cz
   ·have zW:=bB AV hb
    by_cases e:p=i
    ·subst e;exact absurd ha (V6 zW k2)
    ·rcases Bh with ⟨rfl,_⟩ | ⟨_,Bh⟩
     ·exact absurd (cj Fz BU hw) e
     ·have Ke:t.way[p]? = some kk:=by rw[← oJ (wt p e ha.1).2 (Nat.le_refl _)];exact BU
      exact O.AN m1 m2 t r2 p zW ht k2 (R9 e ha) kk zK Ke Bh x y c1 c2 hx hy
  ·rcases key m2 r2 g2 with ⟨rfl,rfl⟩ | ⟨AV,k2⟩
   ·rcases Bh with ⟨rfl,rfl⟩ | ⟨AY,Bh⟩
    ·have e:p=i:=cj Fz (ha.at.symm.trans BU) hw
     subst e
     have hx:(ln.qs ++ [((m2:Int),c)])[x]? = some ((m1:Int),c1):=hx
     have hy:(ln.qs ++ [((m2:Int),c)])[y]? = some ((m2:Int),c2):=hy
     have V7:x < ln.qs.length:=by
      rcases lt_or_ge x ln.qs.length with h | h
      ·exact h
      ·have h3:=(List.getElem?_eq_some_iff.mp hx).1
       rw[length_append,length_singleton]at h3
       have:x=ln.qs.length:=by omega
       rw[this,List.getElem?_concat_length]at hx
       have:=congrArg Prod.fst (Option.some.inj hx)
       have:(m2:Int)=(m1:Int):=this
       omega
     rcases lt_or_ge y ln.qs.length with h | h
     ·rw[List.getElem?_append_left V7]at hx
      rw[List.getElem?_append_left h]at hy
      have V8:c ≠ 0:=fun z=>by
       obtain⟨m',t',e',FY,Ep⟩:=G.own kk ln zE _ (mem_of_getElem? hy)
       have e':(m2:Int)=(m':Int):=e'
       have:m' = m2:=by omega
       subst this
       rw[ht]at FY;cases FY
       exact(h0 z).2 Ep
      have HK:Ag r1 t p:=by unfold Ag at ha ⊢;rw[LQ V8]at ha;exact ha
      have zW:=bM (fun z=>by have h9:=h1 V8;rw[z]at h9;cases h9) hb
      exact O.AN m1 m2 r1 t p zW k1 ht HK kk ln BU zE x y c1 c2 hx hy
     ·omega
    ·have e:p ≠ i:=fun e=>by
      subst e
      rw[ha.at,hw]at BU
      cases BU
      exact AY rfl
     have Aj:=(wt p e ha.2.1).1
     have zW:=bM (fun z=>by rw[z]at Aj;cases Aj) hb
     exact O.AN m1 m2 r1 t p zW k1 ht (R8 e ha) kk zK BU Bh x y c1 c2 hx hy
   ·have zW:=bB AV hb
    rcases Bh with ⟨rfl,rfl⟩ | ⟨AY,Bh⟩
    ·have hx:(ln.qs ++ [((m:Int),c)])[x]? = some ((m1:Int),c1):=hx
     have hy:(ln.qs ++ [((m:Int),c)])[y]? = some ((m2:Int),c2):=hy
     have lo:∀ {x m':Nat}{c':Int},m' ≠ m->(ln.qs ++ [((m:Int),c)])[x]? = some ((m':Int),c')->ln.qs[x]? = some ((m':Int),c'):=fun {x m' c'} hn hx=>by
      rcases lt_or_ge x ln.qs.length with h | h
      ·rwa [List.getElem?_append_left h]at hx
      ·have h3:=(List.getElem?_eq_some_iff.mp hx).1
       rw[length_append,length_singleton]at h3
       have:x=ln.qs.length:=by omega
       rw[this,List.getElem?_concat_length]at hx
       have:=congrArg Prod.fst (Option.some.inj hx)
       have:(m:Int)=(m':Int):=this
       omega
     exact O.AN m1 m2 r1 r2 p zW k1 k2 ha kk ln BU zE x y c1 c2 (lo FW hx) (lo AV hy)
    ·exact O.AN m1 m2 r1 r2 p zW k1 k2 ha kk zK BU Bh x y c1 c2 hx hy
 ·have Cz:=hb.ne NP
  have V9:c=0->∀ {z:Nat}{c':Int},qs[z]? ≠ some ((m:Int),c'):=fun h z c' hz=>by
   have e1:=G.Ar m t ht p qs hp
   have hN:N m t.way.length=0:=by have:=(h0 h).1;rw[← this];omega
   rw[hN,dY (Nat.le_refl _),ite_self]at e1
   exact uu e1 (mem_of_getElem? hz)
  rcases key m1 r1 g1 with ⟨rfl,rfl⟩ | ⟨FW,k1⟩
  ·rcases key m2 r2 g2 with ⟨rfl,rfl⟩ | ⟨AV,k2⟩
   ·exact absurd rfl Cz
   ·by_cases h:c=0
    ·exact absurd hx (V9 h)
    ·exact O.heap m1 m2 t r2 (bB AV hb) ht k2 (by rw[← LQ h];exact Dt) p qs hp x y c1 c2 hx hy
  ·rcases key m2 r2 g2 with ⟨rfl,rfl⟩ | ⟨AV,k2⟩
   ·by_cases h:c=0
    ·exact absurd hy (V9 h)
    ·exact O.heap m1 m2 r1 t (bM (fun z=>by have h9:=h1 h;rw[z]at h9;cases h9) hb) k1 ht (by rw[← LQ h];exact Dt) p qs hp x y c1 c2 hx hy
   ·exact O.heap m1 m2 r1 r2 (bB AV hb) k1 k2 Dt p qs hp x y c1 c2 hx hy
theorem Ord.lay {a:YA}{s:YS}{N:Nat->Nat->Nat}{F:List Nat}{m e:Nat}{c:Int}{t:aW}{qs:List (Int × Int)}(O:Ord s N F)(G:Az a s N (cr m t.way.length))(ht:s.yZ[m]? = some t)(hc:c=(N m t.way.length:Int))(hlen:c + 1 <= t.len)(AS:s.lies[e]? = some qs)(hw:t.way ≠ [])
  (hh:∀ (m1:Nat)(t1:aW)(p:Nat),p + 1=t.way.length->Bl F m1 m->s.yZ[m1]? = some t1->Ag t1 t p->(N m1 t.way.length:Int)=t1.len) :
  Ord { s with lies:=s.lies.set e (qs ++ [((m:Int),c)]) } (fun m' i'=>N m' i' + cr m t.way.length m' i') F:=by
 have fN:∀ m' j,m' ≠ m->N m' j + cr m t.way.length m' j=N m' j:=fun m' j h=>by rw[dM h];rfl
 have fI:∀ m' j,j ≠ t.way.length->N m' j + cr m t.way.length m' j=N m' j:=fun m' j h=>by rw[cp h];rfl
 have Ed:0 < t.way.length:=length_pos_iff.mpr hw
 refine⟨O.nd,O.mem,fun m1 m2 t1 t2 p hb g1 g2 ha=>?_,O.AN,fun m1 m2 t1 t2 hb g1 g2 Dt p HJ hp x y c1 c2 hx hy=>?_⟩
 ·show((N m1 p + cr m t.way.length m1 p:Nat):Int)=t1.len/\(0 < N m2 (p + 1) + cr m t.way.length m2 (p + 1)->((N m1 (p + 1) + cr m t.way.length m1 (p + 1):Nat):Int)=t1.len)
  have g1:s.yZ[m1]? = some t1:=g1
  have g2:s.yZ[m2]? = some t2:=g2
  have zC:=hb.ne O.nd
  obtain⟨f1,f2⟩:=O.full m1 m2 t1 t2 p hb g1 g2 ha
  by_cases e1:m1=m
  ·subst e1
   rw[ht]at g1;cases g1
   have:=ha.1
   rw[fI m1 p (by omega),fN m2 _ (Ne.symm zC)]
   refine⟨f1,fun z=>?_⟩
   have f3:=f2 z
   by_cases e2:p + 1=t.way.length
   ·rw[e2]at f3;omega
   ·rw[fI m1 _ e2];exact f3
  ·rw[fN m1 p e1,fN m1 (p + 1) e1]
   refine⟨f1,fun z=>?_⟩
   by_cases e2:m2=m
   ·subst e2
    rw[ht]at g2;cases g2
    by_cases e3:p + 1=t.way.length
    ·rw[e3];exact hh m1 t1 p e3 hb g1 ha
    ·rw[fI m2 _ e3]at z;exact f2 z
   ·rw[fN m2 _ e2]at z;exact f2 z
 ·have g1:s.yZ[m1]? = some t1:=g1
  have g2:s.yZ[m2]? = some t2:=g2
  have zC:=hb.ne O.nd
  rcases aV hp with ⟨rfl,rfl⟩ | ⟨_,D5⟩
  ·have at':∀ {z m':Nat}{c':Int},(qs ++ [((m:Int),c)])[z]? = some ((m':Int),c')->(z < qs.length/\qs[z]? = some ((m':Int),c'))∨(z=qs.length/\m' = m):=fun {z m' c'} hz=>by
    rcases lt_or_ge z qs.length with h | h
    ·rw[List.getElem?_append_left h]at hz;exact .inl ⟨h,hz⟩
    ·have h3:=(List.getElem?_eq_some_iff.mp hz).1
     rw[length_append,length_singleton]at h3
     have:z=qs.length:=by omega
     rw[this,List.getElem?_concat_length]at hz
     have:=congrArg Prod.fst (Option.some.inj hz)
     have:(m:Int)=(m':Int):=this
     exact .inr ⟨by omega,by omega⟩
   rcases at' hx with ⟨V7,BW⟩ | ⟨hxe,hxm⟩
   ·rcases at' hy with ⟨hyl,hy'⟩ | ⟨hye,hym⟩
    ·exact O.heap m1 m2 t1 t2 hb g1 g2 Dt p qs AS x y c1 c2 BW hy'
    ·omega
   ·rcases at' hy with ⟨hyl,hy'⟩ | ⟨hye,hym⟩
    ·exfalso
     subst hxm
     rw[ht]at g1;cases g1
     have e1:=G.Ar m2 t2 g2 p qs AS
     have hN:0 < N m2 t2.way.length:=by
      rcases Nat.eq_zero_or_pos (N m2 t2.way.length) with h | h
      ·rw[h,dY (Nat.le_refl _),ite_self]at e1
       exact absurd (mem_of_getElem? hy') (uu e1)
      ·exact h
     rw[← Dt]at hN
     obtain⟨j,hj⟩:∃ j,t.way.length=j + 1:=⟨t.way.length - 1,by omega⟩
     have ha:Ag t t2 j:=⟨by omega,by rw[← Dt];omega,by rw[Dt]⟩
     have:=(O.full m1 m2 t t2 j hb ht g2 ha).2 (by rw[← hj];exact hN)
     rw[← hj]at this
     omega
    ·omega
  ·exact O.heap m1 m2 t1 t2 hb g1 g2 Dt p HJ D5 x y c1 c2 hx hy
theorem Ord.back {s:YS}{N:Nat->Nat->Nat}{F:List Nat}(O:Ord s N F){k:Nat}{lk:bU}(hk:s.lanes[k]? = some lk):Ord { s with lanes:=s.lanes.set k (m7 lk) } N F:=by
 refine⟨O.nd,O.mem,O.full,fun m1 m2 t1 t2 p hb g1 g2 ha kk ln BU hl x y c1 c2 hx hy=>?_,O.heap⟩
 rcases aV hl with ⟨rfl,rfl⟩ | ⟨_,hl⟩
 ·exact O.AN m1 m2 t1 t2 p hb g1 g2 ha kk lk BU hk x y c1 c2 hx hy
 ·exact O.AN m1 m2 t1 t2 p hb g1 g2 ha kk ln BU hl x y c1 c2 hx hy
theorem Ord.R5 {s:YS}{N:Nat->Nat->Nat}{F:List Nat}(O:Ord s N F)(d:List (List V)):Ord { s with done:=d } N F:=⟨O.nd,O.mem,O.full,O.AN,O.heap⟩
theorem Ord.post {a:YA}{s:YS}{N:Nat->Nat->Nat}{F:List Nat}(O:Ord s N F)(G:Az a s N zr)(hF:∀ m ∈ F,m < s.yZ.length){x y l u:Int}(hl:0 <= l):∃ N',Az a (cI s x y l u) N' zr/\Ord (cI s x y l u) N' F:=by
 have el:∀ (m:Nat)(t:aW),(cI s x y l u).yZ[m]? = some t->(m ≠ s.yZ.length/\s.yZ[m]? = some t)∨(m=s.yZ.length/\t = ⟨x,y,l,u,0,[]⟩):=fun m t ht=>by
  have ht:(s.yZ ++ [(⟨x,y,l,u,0,[]⟩:aW)])[m]? = some t:=ht
  by_cases hm:m < s.yZ.length
  ·rw[List.getElem?_append_left hm]at ht;exact .inl ⟨by omega,ht⟩
  ·have h3:=(List.getElem?_eq_some_iff.mp ht).1
   rw[length_append,length_singleton]at h3
   have em:m=s.yZ.length:=by omega
   subst em
   rw[List.getElem?_concat_length]at ht
   cases ht
   exact .inr ⟨rfl,rfl⟩
 obtain⟨N',RA,hG⟩:=G.LP (x:=x) (y:=y) (l:=l) (u:=u) hl
 refine⟨N',hG,O.nd,fun m t h=>?_,fun m1 m2 t1 t2 p hb g1 g2 ha=>?_,fun m1 m2 t1 t2 p hb g1 g2 ha kk ln BU hl=>?_,fun m1 m2 t1 t2 hb g1 g2 hw=>?_⟩
 ·rcases el m t h with ⟨_,h⟩ | ⟨rfl,rfl⟩
  ·exact O.mem m t h
  ·exact⟨fun h=>absurd (hF _ h) (lt_irrefl _),fun h=>absurd rfl h⟩
 ·rcases el m1 t1 g1 with ⟨n1,k1⟩ | ⟨_,rfl⟩
  ·rcases el m2 t2 g2 with ⟨n2,k2⟩ | ⟨_,rfl⟩
   ·rw[RA _ _ n1,RA _ _ n1,RA _ _ n2];exact O.full m1 m2 t1 t2 p hb k1 k2 ha
   ·exact absurd ha.2.1 (by show ¬ p < 0;omega)
  ·exact absurd ha.1 (by show ¬ p < 0;omega)
 ·rcases el m1 t1 g1 with ⟨n1,k1⟩ | ⟨_,rfl⟩
  ·rcases el m2 t2 g2 with ⟨n2,k2⟩ | ⟨_,rfl⟩
   ·exact O.AN m1 m2 t1 t2 p hb k1 k2 ha kk ln BU hl
   ·exact absurd ha.2.1 (by show ¬ p < 0;omega)
  ·exact absurd ha.1 (by show ¬ p < 0;omega)
 ·rcases el m1 t1 g1 with ⟨n1,k1⟩ | ⟨e,_⟩
  ·rcases el m2 t2 g2 with ⟨n2,k2⟩ | ⟨e,_⟩
   ·exact O.heap m1 m2 t1 t2 hb k1 k2 hw
   ·exact absurd (hF _ hb.right) (by omega)
  ·exact absurd (hF _ hb.left) (by omega)
noncomputable def ue (F:List Nat):Mv->List Nat
 | .Aw k _=>if k ∈ F then F else F ++ [k]
 | _=>F
theorem Ord.step {a:YA}{s s':YS}{N:Nat->Nat->Nat}{F:List Nat}{mv:Mv}(O:Ord s N F)(G:Az a s N zr)(J:AK a s)(h:Cy a s mv s'):∃ N',Az a s' N' zr/\Ord s' N' (ue F mv):=by
 cases h with
 | @Aw m l t ln ht hg hl zE ho =>
  have G1:=G.leave ht hg
  have O1:=O.leave ht
  have g0:(N m 0:Int)=t.gone:=G.g0 m t ht
  have gl:=G.gl m t ht
  have Et:(dv s m t).yZ[m]? = some { t with gone:=t.gone + 1 }:=dj ht
  have h0:t.gone=0->0=t.way.length/\l ∉ t.way:=fun h0=>by
   have:=J.Aa m t ht h0
   rw[this];exact⟨rfl,not_mem_nil⟩
  have h1:t.gone ≠ 0->t.way[0]? = some l:=fun h0=>by
   unfold cz at hl
   rw[if_neg h0]at hl
   exact jR (j:=0) hl
  refine⟨_,G1.enter Et g0.symm h0 h1 (by show t.gone + 1 <= t.len;omega) zE ho,O1.enter G1 Et g0.symm h0 h1 (by show t.gone + 1 <= t.len;omega) zE ho (fun m1 t1 p hp=>absurd hp (by omega)) ?_⟩
  show(t.way=[]/\ue F (.Aw m l)=F ++ [m])∨(t.way ≠ []/\ue F (.Aw m l)=F)
  have hm:=O.mem m t ht
  by_cases hw:t.way=[]
  ·exact .inl ⟨hw,if_neg fun z=>hm.mp z hw⟩
  ·exact .inr ⟨hw,if_pos (hm.mpr hw)⟩
 | @on k l m c lk ln t hk hq ht hl zE ho =>
  obtain⟨i,hi,hc,zL,G1⟩:=G.pull hk hq ht
  obtain⟨O1,hh⟩:=O.pull G hk hq ht hi
  have hw:=uJ hk hq ht hl
  have Du:=(List.getElem?_eq_some_iff.mp hi).1
  obtain⟨d1,d2,d3⟩:=G.dn m t ht i Du
  have h0:c=0->i + 1=t.way.length/\l ∉ t.way:=fun h0=>by
   rw[if_pos h0]at hw
   refine⟨?_,hw⟩
   rcases lt_or_ge (i + 1) t.way.length with h | h
   ·have:=(G.dn m t ht (i + 1) h).2.1
    omega
   ·omega
  have h1:c ≠ 0->t.way[i + 1]? = some l:=fun h0=>by
   rw[if_neg h0]at hw
   rw[yD (G.nd m t ht) hi]at hw
   exact jR hw
  refine⟨_,G1.enter (t:=t) ht hc h0 h1 (by omega) zE ho,O1.enter (t:=t) G1 ht hc h0 h1 (by omega) zE ho (fun m1 t1 p hp hb g1 ha=>?_) (.inr ⟨(fun z=>by rw[z]at hi;cases hi),rfl⟩)⟩
  have:p=i:=by omega
  subst this
  exact hh m1 t1 hb g1 ha
 | @Ar k m e c lk t qs hk hq ht hg he AS =>
  obtain⟨i,hi,hc,zL,G1⟩:=G.pull hk hq ht
  obtain⟨O1,hh⟩:=O.pull G hk hq ht hi
  have Du:=(List.getElem?_eq_some_iff.mp hi).1
  obtain⟨d1,d2,d3⟩:=G.dn m t ht i Du
  have ew:i + 1=t.way.length:=J.last m t ht i k hi (by show(a.ps.getD k (0,0)).2=_;rw[he,hg])
  have hlen:c + 1 <= t.len:=by omega
  rw[ew]at hc G1
  have VA:t.way ≠ []:=fun z=>by rw[z]at hi;cases hi
  refine⟨_,G1.lay (t:=t) ht hc hg AS VA,O1.lay (t:=t) G1 ht hc hlen AS VA (fun m1 t1 p hp hb g1 ha=>?_)⟩
  have:p=i:=by omega
  subst this
  rw[← ew]
  exact hh m1 t1 hb g1 ha
 | @back k lk hk hb=>exact⟨N,G.back hk hb,O.back hk⟩
theorem RB (rs:List V)(n:Nat)(N:Nat->Nat->Nat):Ord (Y0 rs n) N []:=by
 have nb:∀ {m1 m2:Nat},¬ Bl [] m1 m2:=fun⟨i,j,_,h,_⟩=>by cases h
 exact⟨nodup_nil,(fun m t h=>by cases h),fun m1 m2 _ _ _ h=>absurd h nb,fun m1 m2 _ _ _ h=>absurd h nb,fun m1 m2 _ _ h=>absurd h nb⟩
noncomputable def ow (F:List Nat)(row:List V):List Nat:=match row with
 | [.str t, .int k, .int _]=>if t = "in" then (if k.toNat ∈ F then F else F ++ [k.toNat]) else F
 | _=>F
noncomputable def bK (d:List (List V)):List Nat:=d.foldl ow []
theorem fP (d:List (List V))(r:List V):bK (d ++ [r])=ow (bK d) r:=by unfold bK;rw[List.foldl_append];rfl
theorem fO (F:List Nat)(m:Mv):ow F (eG m)=ue F m:=by
 cases m with
 | Aw k l =>
  show(if ("in":Str) = "in" then (if (k:Int).toNat ∈ F then F else F ++ [(k:Int).toNat]) else F)=_
  rw[if_pos rfl,toNat_natCast];rfl
 | on k l =>
  show(if ("on":Str) = "in" then (if (k:Int).toNat ∈ F then F else F ++ [(k:Int).toNat]) else F)=F
  rw[if_neg (by decide +kernel)]
 | Ar k=>rfl
 | back k=>rfl
noncomputable def wN (d:List V):Prop:=(∃ m,d=eG m)∨∃ x y l u:Int,d=[.str "post", .int x, .int y, .int l, .int u]
structure Rv (K:Frag)(c:Cs)(TC:Addr)(J:TJ)(ys:Ys)(H H':Hp)(a:YA)(s:YS)(N:Nat->Nat->Nat)(lb db:Nat):Prop where
 e:za H H'
 I:Eo K c TC J (yx ys []) H' a s
 J:AK a s
 G:Az a s N zr
 O:Ord s N (bK s.done)
 lt:∀ m ∈ bK s.done,m < s.yZ.length
 rows:∀ d ∈ s.done,wN d
 l5:s.yZ.length <= lb
 d5:s.done.length <= db
theorem Rv.same {K:Frag}{c:Cs}{TC fw:Addr}{dw:FuncData}{J:TJ}{ys:Ys}{H H' H2:Hp}{a:YA}{s:YS}{N:Nat->Nat->Nat}{lb db:Nat}(W:Wy K TC fw dw J)(h:Rv K c TC J ys H H' a s N lb db)(e:za H' H2):Rv K c TC J ys H H2 a s N lb db:=⟨h.e.trans e,h.I.same W e,h.J,h.G,h.O,h.lt,h.rows,h.l5,h.d5⟩
theorem Rv.weak {K:Frag}{c:Cs}{TC:Addr}{J:TJ}{ys:Ys}{H H':Hp}{a:YA}{s:YS}{N:Nat->Nat->Nat}{lb db VB VC:Nat}(h:Rv K c TC J ys H H' a s N lb db)(h1:lb <= VB)(h2:db <= VC):Rv K c TC J ys H H' a s N VB VC:=⟨h.e,h.I,h.J,h.G,h.O,h.lt,h.rows,le_trans h.l5 h1,le_trans h.d5 h2⟩
theorem Rv.move {K:Frag}{c:Cs}{TC fw:Addr}{dw:FuncData}{J:TJ}{ys:Ys}{H H' H2:Hp}{a:YA}{s s':YS}{N:Nat->Nat->Nat}{lb db:Nat}{m:Mv}(W:Wy K TC fw dw J)(h:Rv K c TC J ys H H' a s N lb db)(B8:∀ z ∈ a.four,H z=none)(B0:Cy a s m s')(o:zk a.four H' H2)(hY:An K (yx ys []) H2 a { s' with done:=s.done ++ [eG m] }) :
  ∃ N',Rv K c TC J ys H H2 a { s' with done:=s.done ++ [eG m] } N' lb (db + 1):=by
 obtain⟨N',RC,LR⟩:=h.O.step h.G h.J B0
 have LS:AK a { s' with done:=s.done ++ [eG m] }:=(h.J.step B0).done _
 have kh:=zk.zz (fun z hz=>h.I.Y.Ct z hz) o
 have ef:bK (s.done ++ [eG m])=ue (bK s.done) m:=by rw[fP,fO]
 refine⟨N',lF h.e o B8,⟨hY,AX.keep W h.I.T kh,h.I.O,LS.ok⟩,LS,RC.R5 _,?_,?_,?_,?_,?_⟩
 ·show Ord { s' with done:=s.done ++ [eG m] } N' (bK (s.done ++ [eG m]))
  rw[ef];exact LR.R5 _
 ·show ∀ z ∈ bK (s.done ++ [eG m]),z < s'.yZ.length
  rw[ef,B0.len]
  intro z hz
  cases B0 with
  | @Aw k l t ln ht _ _ _ _ =>
   have hz:z ∈ (if k ∈ bK s.done then bK s.done else bK s.done ++ [k]):=hz
   split at hz
   ·exact h.lt z hz
   ·rcases mem_append.mp hz with hz | hz
    ·exact h.lt z hz
    ·rw[mem_singleton.mp hz];exact(List.getElem?_eq_some_iff.mp ht).1
  | on=>exact h.lt z hz
  | Ar=>exact h.lt z hz
  | back=>exact h.lt z hz
 ·intro d hd
  rcases mem_append.mp hd with hd | hd
  ·exact h.rows d hd
  ·rw[mem_singleton.mp hd];exact .inl ⟨m,rfl⟩
 ·show s'.yZ.length <= lb
  rw[B0.len];exact h.l5
 ·show(s.done ++ [eG m]).length <= _
  rw[length_append,length_singleton];have:=h.d5;omega
noncomputable def rO (K:Frag)(c:Cs)(TC:Addr)(J:TJ)(ys:Ys):Sp:=fun vs H Q _=>∃ (a:YA)(s:YS)(N:Nat->Nat->Nat)(lb db d0 n:Nat)(sc:Addr)(ns:List Int)(H0:Hp),vs=[.ref a.y, .ref sc, .int d0, .int ((d0 + n:Nat):Int)]/\Rv K c TC J ys H0 H a s N lb db/\(∀ z ∈ a.four,H0 z=none)/\zf K H0 sc (ns.map V.int)/\ns.length <= 63/\lb <= 60/\d0 + n <= 10000/\db + n <= 10000 /\
 ∀ (H':Hp)(s':YS)(N':Nat->Nat->Nat)(d':Nat),d0 <= d'->d' <= d0 + n->Rv K c TC J ys H0 H' a s' N' lb (db + n)->s'.yZ.length=s.yZ.length->zk a.four H H'->Q (.int d') H'
abbrev NGo:List Str:=["_law_yard", "_law_script", "_law_done", "_law_most", "_law_moves", "_law_cell"]
theorem Fb:ap NGo ["_law_yard", "_law_script", "_law_done", "_law_most"] (aj sD):=L2.zF
theorem vF {c:Cs}{ys:Ys}{J:TJ}{TC f fw fm VD fc fx:Addr}{fd dw dm dd dc dx:FuncData}(F:zA K "_law_goes_on" "_law_goes_on" sD f fd)(T:fB mg)(Y:i7 K ys)(W:Wy K TC fw dw J)
  (mm:bA K ys.zd "moves" fm) (bm:Binds K dm ["self"] []) (Gm:zb P w K mg base aG 7 fm dm ["self"] (oQ K c TC J (yx ys [])))
  (md:bA K ys.zd "do" VD) (bd:Binds K dd ["self", "move"] []) (Gd:zb P w K mg base (eE P w) 8 VD dd ["self", "move"] (Lv K c TC J (yx ys [])))
  (mc:mg "_law_cell_at" = some (.ref fc)) (kc:keepIn K (.ref fc)=true) (bc:Binds K dc ["_law_script", "_law_k"] []) (Gc:zb P w K mg base aG 1 fc dc ["_law_script", "_law_k"] (kE K))
  (mx:mg "_law_mixed" = some (.ref fx)) (kx:keepIn K (.ref fx)=true) (bx:Binds K dx ["_law_cell", "_law_k"] []) (Gx:zb P w K mg base aG 1 fx dx ["_law_cell", "_law_k"] jH) :
  zb P w K mg base aG 9 f fd ["_law_yard", "_law_script", "_law_done", "_law_most"] (rO K c TC J ys):=by
 refine F.ok Fb (fun vs H Q E h=>?_) (fun cdv A outer s H vs Q E hr h=>?_)
 ·obtain⟨a,s,N,lb,db,d0,n,sc,ns,H0,rfl,_⟩:=h
  rfl
 ·obtain⟨a,st,N,lb,db,d0,n,sc,ns,H0,rfl,hR,B8,hS,hlen,hlb,BA,Dz,q⟩:=h
  have hu:=hr.units
  have zU:zm 1 _:=hr.mono (by decide)
  have RD:zm 7 _:=hr.mono (by decide)
  have hr8:zm 8 _:=hr.mono (by decide)
  refine⟨_,af (lN PassesOwn.never (av lT (pv 2) (pv 3) (az _))
    (af (aD (i:=4) Fb.nd rfl (Or.inl rfl) (ci (pv 0) Y.cl mm Gm RD bm .nil aq))
    (af (aO (av (kX hu) (pv 4) (aU ad) (az _)) (ai (ar (pv 2))) aI)
    (af (aD (i:=5) Fb.nd rfl (Or.inl rfl) (au Gc zU rfl mc kc bc .nil aq (aa (pv 1) (aa (aC bv (pv 2) (aF (qT rfl) rfl T.max PyProof.Rows.boot_max (aa ak (aa (aF ax rfl T.len PySem.boot_len (aa (pv 1) ad)) ad)))) ad))))
    (af (aQ (aB (pv 0) Y.cl md Gd hr8 bd .nil ia (aa (aw aM (pv 4) (aC bv (au Gx zU rfl mx kx bx .nil aq (aa (pv 5) (aa (pv 2) ad))) (aF ax rfl T.len PySem.boot_len (aa (pv 4) ad))) (fun _ _=>rfl)) ad)))
    (ai (aD (i:=2) Fb.nd rfl (Or.inl rfl) (aC bE (pv 2) ak))))))))
   (ai (ar (pv 2))),?_⟩
  refine rb (fun σ H2=>∃ (a4 a5:Option V)(s2:YS)(N2:Nat->Nat->Nat)(j:Nat),j <= n/\Rv K c TC J ys H0 H2 a s2 N2 lb (db + j)/\s2.yZ.length=st.yZ.length/\zk a.four H H2/\σ=[some (.ref a.y),some (.ref sc),some (.int ((d0 + j:Nat):Int)),some (.int ((d0 + n:Nat):Int)),a4,a5])
   (fun (σ:St) _=>match σ[2]? with | some (some (V.int i))=>(((d0 + n:Nat):Int) - i).toNat | _=>0) ⟨none,none,st,N,0,zero_le _,hR,rfl,za.zJ (za.refl _),rfl⟩ ?_ ?_
  ·rintro σ H2 ⟨a4,a5,s2,N2,j,hj,LU,E4,o2,rfl⟩
   refine⟨_,rfl,_,rfl,_,_,rfl,rfl,_,rfl,?_⟩
   by_cases zL:((d0 + j:Nat):Int) < ((d0 + n:Nat):Int)
   ·rw[decide_eq_true zL]
    have h60:=LU.l5
    refine aK ⟨_,rfl,a.y,a.dy,_,rfl,LU.I.Y.ins,rfl,a,s2,rfl,LU.I,fun Dm zN Hb sb hDm gDm hpm=>?_⟩
    have CK:=LU.same W sb
    refine⟨_,rfl,zero_le _,fun o1 HF=>?_⟩
    have u1:=(za.refl Hb).new (o := .lst []) HF
    have DA:(upd Hb o1 (.lst [])) o1=some (.lst []):=ac
    generalize upd Hb o1 (.lst [])=Hc at u1 DA ⊢
    have Eu:=CK.same W u1
    have RE:=u1 _ _ gDm
    have RF:=Paired.mono (fun _ _ z=>AE.keep (za.zz u1) z) hpm
    refine Rf (f:=uD) (l:=dD a s2) (.lst (zf.of RE) (lp RF)) (.lst (zf.of DA) .nil) (uO _) ⟨_,rfl,?_⟩
    cases VE:(dD a s2).isEmpty with
    | true=>exact aK ⟨_,rfl,q Hc s2 N2 (d0 + j) (by omega) (by omega) (Eu.weak (Nat.le_refl _) (by omega)) E4 (o2.trans (za.zJ (sb.trans u1)))⟩
    | false =>
    have RG:zN.length=(dD a s2).length:=by rw[Paired.length RF,length_map]
    have Ed:0 < zN.length:=by
     rw[RG]
     cases hx:dD a s2 with
     | nil=>rw[hx]at VE;cases VE
     | cons _ _=>exact Nat.succ_pos _
    have np:(0:Int) < ((zN.length:Nat):Int):=by omega
    obtain⟨L,hL,FJ⟩:∃ L:Nat,(if ((ns.length:Nat):Int) > 1 then ((ns.length:Nat):Int) else 1)=(L:Int)/\0 < L:=by
     by_cases h:((ns.length:Nat):Int) > 1
     ·exact⟨ns.length,if_pos h,by omega⟩
     ·exact⟨1,if_neg h,by omega⟩
    refine aH ⟨_,rfl,_,rfl,_,rfl,sc,_,rfl, .inl (Eu.e.seq hS),_,_,rfl,?_⟩
    rw[length_map,hL]
    refine⟨_,_,rfl,rfl,by show (0:Int) < (L:Int);omega,sc,ns,(d0 + j) % L,?_,Eu.e.seq hS,fun d5=>?_⟩
    ·show [V.ref sc,V.int (((d0 + j:Nat):Int) % (L:Int))] ++ []=_
     rw[← Int.natCast_emod];rfl
    refine⟨_,rfl,a.y,a.dy,_,rfl,Eu.I.Y.ins,rfl,_,rfl,_,rfl,_,rfl,d5,d0 + j,rfl,by omega,fun dd VF=>?_⟩
    have z1:=emod_nonneg dd (show((zN.length:Nat):Int) ≠ 0 by omega)
    have z2:=emod_lt_of_pos dd np
    obtain⟨k,hk,RH⟩:∃ k:Nat,dd % ((zN.length:Nat):Int)=(k:Int)/\k < zN.length:=⟨(dd % ((zN.length:Nat):Int)).toNat,by omega,by omega⟩
    have IE:=List.getElem?_eq_getElem RH
    obtain⟨mv,LV,p,RI,hp⟩:=Paired.at RF IE
    obtain⟨m,hmm,rfl⟩:∃ m,m ∈ dD a s2/\eG m=mv:=by
     rw[List.getElem?_map]at LV
     cases hx:(dD a s2)[k]? with
     | none=>rw[hx]at LV;cases LV
     | some m=>rw[hx]at LV;exact⟨m,mem_of_getElem? hx,Option.some.inj LV⟩
    rw[RI]at IE
    refine⟨_,rfl,Dm,_,rfl, .inl (zf.of RE),_,_,rfl,rfl,np,Dm,zN,(k:Int), .ref p,rfl,congrArg V.int hk,zf.of RE,al IE,?_⟩
    have VG:=Eu.d5
    refine⟨a,s2,p,m,rfl,Eu.I,hp,hmm,Eu.J.sml (by omega),fun Hf s' B0 CV RJ=>?_⟩
    obtain⟨N',NQ⟩:=Eu.move W B8 B0 CV RJ
    refine⟨_,rfl,_,_,rfl,rfl,⟨_,_,_,N',j + 1,by omega,NQ,by show s'.yZ.length=_;rw[B0.len];exact E4,(o2.trans (za.zJ (sb.trans u1))).trans CV,rfl⟩,?_⟩
    show(((d0 + n:Nat):Int) - (((d0 + j:Nat):Int) + 1)).toNat < (((d0 + n:Nat):Int) - ((d0 + j:Nat):Int)).toNat
    omega
   ·rw[decide_eq_false zL]
    exact aH ⟨_,rfl,q H2 s2 N2 (d0 + j) (by omega) (by omega) (LU.weak (Nat.le_refl _) (by omega)) E4 o2⟩
  ·intro σ H1 Q1 Q2 hm h
   obtain⟨x,e1,y,e2,i,j,e3,e4,b,e5,h⟩:=h
   exact⟨x,e1,y,e2,i,j,e3,e4,b,e5,hm _ _ h⟩
theorem jy (d:List (List V)):∀ i,(bK (d.take i)).length <= i
 | 0=>by rw[List.take_zero];exact Nat.le_refl _
 | i + 1=>by
  rw[take_succ]
  have ih:=jy d i
  cases hd:d[i]? with
  | none=>rw[Option.toList_none,append_nil];omega
  | some r =>
   rw[Option.toList_some,fP]
   have:(ow (bK (d.take i)) r).length <= (bK (d.take i)).length + 1:=by
    unfold ow
    split
    ·split
     ·split
      ·omega
      ·rw[length_append,length_singleton];omega
     ·omega
    ·omega
   omega
noncomputable def oV (K:Frag)(ys:Ys):Sp:=fun vs H Q _=>∃ (a:YA)(s:YS),vs=[.ref a.y]/\An K ys H a s/\(∀ d ∈ s.done,wN d)/\s.done.length <= 100000 /\
 ∀ (D:Addr)(H':Hp),za H H'->H D=none->H' D=some (.lst (nV (bK s.done)))->Q (.ref D) H'
abbrev NFi:List Str:=["_law_yard", "_law_found", "_law_row"]
theorem HL:ap NFi ["_law_yard"] (aj nJ):=L2.zF
theorem tG {ys:Ys}{f fh:Addr}{fd dh:FuncData}(F:zA K "_law_first_in" "_law_first_in" nJ f fd)(Y:i7 K ys)
  (mh:bA K ys.zd "history" fh) (bh:Binds K dh ["self"] []) (Gh:zb P w K mg base aG 1 fh dh ["self"] (rN K ys)) :
  zb P w K mg base aG 2 f fd ["_law_yard"] (oV K ys):=by
 refine F.ok HL (fun vs H Q E h=>?_) (fun cdv A outer s H vs Q E hr h=>?_)
 ·obtain⟨a,s,rfl,_⟩:=h
  rfl
 ·obtain⟨a,st,rfl,hY,LW,Ii,q⟩:=h
  refine⟨_,af (aD (i:=1) HL.nd rfl (Or.inl rfl) (aU ad))
   (af (bD PassesOwn.never rfl (bC (ci (pv 0) Y.cl mh Gh hr bh .nil aq)) (ay (i:=2) HL.nd rfl (Or.inl rfl))
    (ai (aO (PW.pt (kN (av bz (aw aA (pv 2) ak (fun _ _=>rfl)) bu (az _)) (iG (av gM (aw aA (pv 2) ak (fun _ _=>rfl)) (pv 1) (by with_unfolding_all rfl)))))
     (ai (aQ (c4 plainAttrs_list PySem.F.slot_list_append PySem.F.type_list_append bN (pv 1) (aa (aw aA (pv 2) ak (fun _ _=>rfl)) ad)))) aI)))
   (ai (ar (pv 1)))),?_⟩
  refine⟨zero_le _,fun D hD=>?_⟩
  have v1:=(za.refl H).new (o := .lst []) hD
  have gD:(upd H D (.lst [])) D=some (.lst []):=ac
  show cU 1 (V.ref D) _ (upd H D (.lst [])) _
  generalize upd H D (.lst [])=H1 at v1 gD ⊢
  have Bt:=zj.same hY v1
  refine⟨_,rfl,a.y,a.dy,_,rfl,Bt.ins,rfl,a.y,a.dy,a.tb,a.ro,a.la,a.le,a.li,a.dn,st,rfl,Bt,fun Hi BO H2 s2 VH VI VJ=>?_⟩
  have hhl:BO.length=st.done.length:=Paired.length VJ
  have neD:Hi ≠ D:=fun z=>by rw[z,gD]at VH;cases VH
  refine⟨Hi,rfl,⟨_,zf.of VI⟩,?_⟩
  refine fv (K:=K) (a:=Hi) (xs:=BO) (fun i σ H3=>∃ a2:Option V,za H H3/\H3 Hi=some (.lst BO)/\Paired (AE H3) BO st.done/\H3 D=some (.lst (nV (bK (st.done.take i))))/\σ=[some (.ref a.y),some (.ref D),a2]) ⟨none,v1.trans s2,VI,VJ,s2 _ _ gD,rfl⟩ (fun i σ H3 _ ⟨_,_,g,_⟩=>zf.of g) ?_ ?_
  ·rintro i v σ H3 hv ⟨a2,s3,g3,p3,Ea,rfl⟩
   have Du:i < BO.length:=(List.getElem?_eq_some_iff.mp hv).1
   obtain⟨d,hd,p,rfl,hp⟩:=Paired.at p3 hv
   have hlen:=jy st.done i
   have Gq:bK (st.done.take (i + 1))=ow (bK (st.done.take i)) d:=by rw[take_succ,hd,Option.toList_some,fP]
   have Ac:ow (bK (st.done.take i)) d=bK (st.done.take i)->∃ a2:Option V,za H H3/\H3 Hi=some (.lst BO)/\Paired (AE H3) BO st.done/\H3 D=some (.lst (nV (bK (st.done.take (i + 1)))))/\[some (.ref a.y),some (.ref D),some (.ref p)]=[some (.ref a.y),some (.ref D),a2]:=fun e=>⟨_,s3,g3,p3,by rw[Gq,e];exact Ea,rfl⟩
   obtain⟨w0,rest,FL⟩:∃ w0 rest,d=V.str w0 :: rest:=by
    rcases LW d (mem_of_getElem? hd) with ⟨m,rfl⟩ | ⟨x,y,l,u,rfl⟩
    ·cases m<;>exact⟨_,_,rfl⟩
    ·exact⟨_,_,rfl⟩
   refine⟨_,rfl,p,_,0,_,rfl,rfl,zh.of hp,al (j:=0) (by rw[FL];rfl),rfl,_,rfl,?_⟩
   rcases LW d (mem_of_getElem? hd) with ⟨m,rfl⟩ | ⟨x,y,l,u,rfl⟩
   ·cases m with
    | Aw k l =>
     cases FL
     rw[iw]
     refine aK ⟨_,rfl,p,_,1,_,rfl,rfl,zh.of hp,al (j:=1) rfl,_,rfl,D,_,rfl, .inl (zf.of Ea),rfl,by rw[jP];exact fM _,_,rfl,?_⟩
     show(if (if true=true then !uE (V.int k) (nV (bK (st.done.take i))) else uE (V.int k) (nV (bK (st.done.take i))))=true then _ else _)
     rw[show(if true=true then !uE (V.int k) (nV (bK (st.done.take i))) else uE (V.int k) (nV (bK (st.done.take i)))) = !decide ((k:Int) ∈ iz (bK (st.done.take i))) by rw[if_pos rfl,jP,iP]]
     by_cases hk:k ∈ bK (st.done.take i)
     ·rw[decide_eq_true (show (k:Int) ∈ iz (bK (st.done.take i)) from mem_map.mpr ⟨k,hk,rfl⟩)]
      exact aH (Ac (by rw[fO];exact if_pos hk))
     ·rw[decide_eq_false (show (k:Int) ∉ iz (bK (st.done.take i)) from fun z=>by
       obtain⟨x,hx,e⟩:=mem_map.mp z
       have:x=k:=by omega
       subst this
       exact hk hx)]
      refine aK ⟨_,rfl, .inl ⟨rfl,_,zf.of Ea⟩,_,rfl,p,_,1,_,rfl,rfl,zh.of hp,al (j:=1) rfl,D,_,_,rfl,rfl,Ea,by rw[cy,sizeLine_eq];omega,?_⟩
      have kk:=jo (o := .lst (nV (bK (st.done.take i)) ++ [V.int k])) Ea
      refine⟨_,fun z o e=>by rw[ae (ah e hD)];exact s3 _ _ e,by rw[ae neD];exact g3,Paired.mono (fun v m z=>AE.keep kk z) p3,?_,rfl⟩
      rw[ac,Gq,fO]
      show _=some (HO.lst (nV (if k ∈ bK (st.done.take i) then bK (st.done.take i) else bK (st.done.take i) ++ [k])))
      rw[if_neg hk,nR];rfl
    | on k l =>
     cases FL
     rw[fS (by decide +kernel)]
     exact aH (aH (Ac (by rw[fO];rfl)))
    | Ar k =>
     cases FL
     rw[fS (by decide +kernel)]
     exact aH (aH (Ac (by rw[fO];rfl)))
    | back k =>
     cases FL
     rw[fS (by decide +kernel)]
     exact aH (aH (Ac (by rw[fO];rfl)))
   ·cases FL
    rw[fS (by decide +kernel)]
    exact aH (aH (Ac rfl))
  rintro σ H3 ⟨a2,s3,g3,p3,Ea,rfl⟩
  rw[hhl,take_length]at Ea
  exact⟨_,rfl,q D H3 s3 hD Ea⟩
noncomputable def j8 (m1 m2:Nat)(qs:List (Int × Int)):List Int:=(qs.filter fun q=>decide (q.1=(m1:Int)) || decide (q.1=(m2:Int))).map (·.1)
theorem vg (m1 m2:Nat)(qs:List (Int × Int))(l c:Int):j8 m1 m2 (qs ++ [(l,c)])=if l=(m1:Int)∨l=(m2:Int) then j8 m1 m2 qs ++ [l] else j8 m1 m2 qs:=by
 unfold j8
 rw[filter_append,map_append]
 by_cases h:l=(m1:Int)∨l=(m2:Int)
 ·rw[if_pos h,filter_cons_of_pos (by simpa using h)];rfl
 ·rw[if_neg h,filter_cons_of_neg (by simpa using h)];simp
theorem sS (m1 m2:Nat)(qs:List (Int × Int)):(j8 m1 m2 qs).length <= qs.length:=by
 unfold j8;rw[length_map];exact length_filter_le _ _
theorem ph {m1 m2:Nat}(zC:m1 ≠ m2):∀ qs:List (Int × Int),(∀ (x y:Nat)(c1 c2:Int),qs[x]? = some ((m1:Int),c1)->qs[y]? = some ((m2:Int),c2)->x < y)->j8 m1 m2 qs=List.replicate (eJ m1 qs).length (m1:Int) ++ List.replicate (eJ m2 qs).length (m2:Int)
 | [],_=>rfl
 | (l,c) :: qs,h=>by
  have ih:=ph zC qs fun x y c1 c2 hx hy=>by
   have:=h (x + 1) (y + 1) c1 c2 hx hy
   omega
  have ec:∀ m:Nat,eJ m ((l,c) :: qs)=(if l=(m:Int) then [c] else []) ++ eJ m qs:=fun m=>by
   rw[show(l,c) :: qs=[(l,c)] ++ qs from rfl,eB]
   congr 1
   unfold eJ
   by_cases h:l=(m:Int)
   ·rw[if_pos h,filter_cons_of_pos (by simpa using h)];rfl
   ·rw[if_neg h,filter_cons_of_neg (by simpa using h)];rfl
  have ep:j8 m1 m2 ((l,c) :: qs)=(if l=(m1:Int)∨l=(m2:Int) then [l] else []) ++ j8 m1 m2 qs:=by
   unfold j8
   by_cases h:l=(m1:Int)∨l=(m2:Int)
   ·rw[if_pos h,filter_cons_of_pos (by simpa using h)];rfl
   ·rw[if_neg h,filter_cons_of_neg (by simpa using h)];rfl
  rw[ep,ec,ec,ih]
  by_cases e1:l=(m1:Int)
  ·rw[if_pos (.inl e1),if_pos e1,if_neg (by omega),e1]
   rfl
  ·by_cases e2:l=(m2:Int)
   ·have Ir:eJ m1 qs=[]:=ls fun q hq e=>by
     obtain⟨x,hx⟩:=List.getElem?_of_mem hq
     have:=h (x + 1) 0 q.2 c (by rw[List.getElem?_cons_succ,hx,← e]) (by rw[← e2];rfl)
     omega
    rw[if_pos (.inr e2),if_neg e1,if_pos e2,Ir,e2]
    rfl
   ·rw[if_neg (by rintro (h | h);exact e1 h;exact e2 h),if_neg e1,if_neg e2];rfl
theorem pU {a b:Int}{c1 c2 l:Nat}(h1:c1 <= l)(h2:c2=0∨c1=l):(∀ z ∈ (List.replicate c1 a ++ List.replicate c2 b).take l,z=a)/\∀ z ∈ (List.replicate c1 a ++ List.replicate c2 b).drop l,z=b:=by
 rcases h2 with rfl | rfl
 ·rw[List.replicate_zero,append_nil]
  refine⟨fun z hz=>eq_of_mem_replicate (mem_of_mem_take hz),fun z hz=>?_⟩
  rw[drop_of_length_le (by rw[length_replicate];exact h1)]at hz
  cases hz
 ·have e:(List.replicate c1 a).length=c1:=length_replicate
  rw[List.take_append_of_le_length (by omega),take_of_length_le (by omega),List.drop_append_of_le_length (by omega),drop_of_length_le (by omega),nil_append]
  exact⟨fun z hz=>eq_of_mem_replicate hz,fun z hz=>eq_of_mem_replicate hz⟩
theorem tX {a:YA}{s:YS}{N:Nat->Nat->Nat}{F:List Nat}(G:Az a s N zr)(O:Ord s N F){m1 m2:Nat}{t1 t2:aW}(hb:Bl F m1 m2)(h1:s.yZ[m1]? = some t1)(h2:s.yZ[m2]? = some t2)(hw:t1.way=t2.way){p l:Nat}{qs:List (Int × Int)}(hp:s.lies[p]? = some qs)(hg:t1.goal=(p:Int))(hl:t1.len=(l:Int)) :
  (∀ z ∈ (j8 m1 m2 qs).take l,z=(m1:Int))/\∀ z ∈ (j8 m1 m2 qs).drop l,z=(m2:Int):=by
 rw[ph (hb.ne O.nd) qs fun x y c1 c2 hx hy=>O.heap m1 m2 t1 t2 hb h1 h2 hw p qs hp x y c1 c2 hx hy]
 have zC:t1.way ≠ []:=(O.mem m1 t1 h1).mp hb.left
 have Ed:0 < t1.way.length:=length_pos_iff.mpr zC
 obtain⟨j,hj⟩:∃ j,t1.way.length=j + 1:=⟨t1.way.length - 1,by omega⟩
 have e1:=G.Ar m1 t1 h1 p qs hp
 have e2:=G.Ar m2 t2 h2 p qs hp
 rw[if_pos hg.symm]at e1
 have c1:(eJ m1 qs).length=N m1 t1.way.length:=by rw[e1,uX];omega
 have d1:N m1 (j + 1) <= N m1 j/\0 < N m1 j/\(N m1 j:Int) <= t1.len:=G.dn m1 t1 h1 j (by omega)
 rw[← hj]at d1
 refine pU (by omega) ?_
 rcases Nat.eq_zero_or_pos (N m2 t2.way.length) with h | h
 ·left
  rw[e2,h,dY (Nat.le_refl _),ite_self];rfl
 ·right
  rw[← hw]at h
  have ha:Ag t1 t2 j:=⟨by omega,by rw[← hw];omega,by rw[hw]⟩
  have:=(O.full m1 m2 t1 t2 j hb h1 h2 ha).2 (by rw[← hj];exact h)
  rw[← hj]at this
  omega
theorem wl {K:Frag}{a:Addr}{vs:List V}{qs:List (Int × Int)}{m1 m2:Nat}{g:TG}{tt:TT}{te:TE}{σ0:St}{H:Hp}{Q:VK}(ha:H a=some (.lst vs))(hL:zy H vs qs)(hn:qs.length < sizeLine)
  (hs:∀ (x:Addr)(l c:Int)(acc:List V)(N:List V->Hp->Prop),H x=some (.tup [.int l, .int c])->N (if l=(m1:Int)∨l=(m2:Int) then acc ++ [.int l] else acc) H->g (.ref x) σ0 H fun σ2 H2=>tt σ2 H2 fun b H3=>if b=true then te σ2 H3 fun y H4=>N (acc ++ [y]) H4 else N acc H3)
  (hq:∀ D,H D=none->Q (.ref D) (upd H D (.lst ((j8 m1 m2 qs).map V.int)))):dz (uA K a) g tt te σ0 Q H:=by
 have hl:vs.length=qs.length:=Paired.length hL
 refine bT qs.length hn (fun i acc H'=>H' = H/\acc=(j8 m1 m2 (qs.take i)).map V.int) ⟨rfl,rfl⟩ (fun i acc H' h=>by rw[h.2,length_map];exact le_trans (sS _ _ _) (length_take_le _ _)) (fun i acc H' hi h=>?_) (fun acc H' h=>?_)
 ·obtain⟨rfl,rfl⟩:=h
  have hx:vs[i]? = some (vs[i]'(by omega)):=List.getElem?_eq_getElem (by omega)
  refine⟨⟨vs,_,zf.of ha,hx⟩,fun v H2 y=>?_⟩
  obtain⟨rfl,y⟩:=y
  have hv:=y vs (zf.of ha)
  obtain⟨pr,hpr,x,rfl,gx⟩:=Paired.at hL hv
  obtain⟨l,c⟩:=pr
  refine hs x l c _ (fun zT H3=>H3=H2/\zT = (j8 m1 m2 (qs.take (i + 1))).map V.int) gx ⟨rfl,?_⟩
  rw[take_succ,hpr]
  show _=(j8 m1 m2 (qs.take i ++ [(l,c)])).map V.int
  rw[vg]
  split
  ·rw[map_append];rfl
  ·rfl
 ·obtain⟨rfl,rfl⟩:=h
  rw[take_of_length_le (Nat.le_refl _)]
  exact⟨⟨vs,zf.of ha,by omega⟩,fun D hD=>hq D hD⟩
theorem qP (xs:List Int)(k:Nat):gr (xs.map V.int) (some (k:Int)) none=(xs.drop k).map V.int:=by
 unfold gr
 have e1:HT.Bm (xs.map V.int).length (xs.map V.int).length none=(xs.map V.int).length:=rfl
 rw[e1,show HT.Bm (xs.map V.int).length 0 (some (k:Int))=min k (xs.map V.int).length from HT.AH _ _ k,take_of_length_le (by rw[length_drop];exact Nat.le_refl _),List.map_drop]
 rcases Nat.le_total k (xs.map V.int).length with h | h
 ·rw[min_eq_left h]
 ·rw[min_eq_right h,drop_of_length_le (Nat.le_refl _),drop_of_length_le h]
theorem wj (xs:List Int)(k:Nat):gr (xs.map V.int) none (some (k:Int))=(xs.take k).map V.int:=by rw[pN,map_take]
theorem lC (xs:List Int):By (.list (xs.map PyData.int)) 64:=(eM (m:=0) fun z hz=>by
 obtain⟨x,_,rfl⟩:=mem_map.mp hz
 exact c5 _).le (by decide)
theorem ki {K:Frag}{a:Addr}{xs:List Int}{m:Int}{g:TG}{tt:TT}{te:TE}{σ0:St}{H:Hp}{Q:VK}(ha:H a=some (.lst (xs.map V.int)))(hn:xs.length < sizeLine)(Ak:∀ z ∈ xs,z=m)
  (hs:∀ (acc:List V)(N:List V->Hp->Prop),N acc H->g (.int m) σ0 H fun σ2 H2=>tt σ2 H2 fun b H3=>if b=true then te σ2 H3 fun y H4=>N (acc ++ [y]) H4 else N acc H3)
  (hq:∀ D,H D=none->Q (.ref D) (upd H D (.lst []))):dz (uA K a) g tt te σ0 Q H:=by
 refine bT xs.length hn (fun i acc H'=>H' = H/\acc=[]) ⟨rfl,rfl⟩ (fun i acc H' h=>by rw[h.2];exact zero_le _) (fun i acc H' hi h=>?_) (fun acc H' h=>?_)
 ·obtain⟨rfl,rfl⟩:=h
  have hx:(xs.map V.int)[i]? = some (.int m):=by rw[List.getElem?_map,List.getElem?_eq_getElem hi,Ak _ (getElem_mem hi)];rfl
  refine⟨⟨_,_,zf.of ha,hx⟩,fun v H2 y=>?_⟩
  obtain⟨rfl,y⟩:=y
  have hv:=y _ (zf.of ha)
  rw[hx]at hv;cases hv
  exact hs [] (fun zT H3=>H3=H2/\zT = []) ⟨rfl,rfl⟩
 ·obtain⟨rfl,rfl⟩:=h
  exact⟨⟨_,zf.of ha,by rw[length_map];exact Nat.le_refl _⟩,fun D hD=>hq D hD⟩
noncomputable def lB (K:Frag)(ys:Ys):Sp:=fun vs H Q _=>∃ (a:YA)(s:YS)(N:Nat->Nat->Nat)(F:List Nat)(m1 m2:Nat)(t1 t2:aW),vs=[.ref a.y, .int m1, .int m2]/\An K ys H a s/\AK a s/\Az a s N zr/\Ord s N F/\Bl F m1 m2/\s.yZ[m1]? = some t1/\s.yZ[m2]? = some t2/\t1.way=t2.way /\
 ∀ (H':Hp),za H H'->Q (.bl true) H'
abbrev NR:List Str:=["_law_yard", "_law_one", "_law_other", "_law_heap", "_law_pieces", "_law_behind", "_law_ahead"]
noncomputable def ifC (s:Stmt):Scope:=match s with
 | .If (.Compare (.ListComp _ _ sc _) _ _ _) _ _ _=>sc
 | _=>{ kind := .function,names:=[],isGenerator:=false,isCoroutine:=false }
noncomputable def reC (s:Stmt):Scope:=match s with
 | .Return (some (.Compare (.ListComp _ _ sc _) _ _ _)) _=>sc
 | _=>{ kind := .function,names:=[],isGenerator:=false,isCoroutine:=false }
theorem Ee:ap NR ["_law_yard", "_law_one", "_law_other"] (aj c6):=L2.zF
theorem LX:As NR (aj c6) (yR ((aJ c6).getD 1 (.Pass ⟨0,0,0,0⟩))) ["_law_one", "_law_other"] [1,2]:=L2.B3
theorem LY:As NR (aj c6) (ifC ((aJ c6).getD 4 (.Pass ⟨0,0,0,0⟩))) ["_law_one"] [1]:=L2.B3
theorem LZ:As NR (aj c6) (reC ((aJ c6).getD 5 (.Pass ⟨0,0,0,0⟩))) ["_law_other"] [2]:=L2.B3
theorem wS:(["_law_letter", "_law_count", "_law_one", "_law_other"]:List Str).Nodup:=by decide +kernel
theorem Mb:(["_law_letter", "_law_one"]:List Str).Nodup:=by decide +kernel
theorem Mc:(["_law_letter", "_law_other"]:List Str).Nodup:=by decide +kernel
theorem qv {ys:Ys}{f fl fy:Addr}{fd dl dy:FuncData}(F:zA K "_law_right" "_law_right" c6 f fd)(Y:i7 K ys)
  (ml:bA K ys.zd "letter_told" fl) (bl:Binds K dl ["self", "number"] []) (Gl:zb P w K mg base aG 1 fl dl ["self", "number"] (rJ K ys))
  (my:bA K ys.zd "lying" fy) (QJ:Binds K dy ["self", "place"] []) (Gy:zb P w K mg base aG 1 fy dy ["self", "place"] (oR K ys)) :
  zb P w K mg base aG 2 f fd ["_law_yard", "_law_one", "_law_other"] (lB K ys):=by
 refine F.ok Ee (fun vs H Q E h=>?_) (fun cdv A outer s H vs Q E hr h=>?_)
 ·obtain⟨a,s,N,F,m1,m2,t1,t2,rfl,_⟩:=h
  rfl
 ·obtain⟨a,st,N,Fo,m1,m2,t1,t2,rfl,hY,hJ,hG,hO,hb,h1,h2,hw,q⟩:=h
  have hu:=hr.units
  refine⟨_,af (aD (i:=3) Ee.nd rfl (Or.inl rfl) (aB (pv 0) Y.cl my Gy hr QJ .nil aq (aa (aw aA (aB (pv 0) Y.cl ml Gl hr bl .nil aq (aa (pv 1) ad)) ak (fun _ _=>rfl)) ad)))
   (af (gk (i:=4) (own:=["_law_letter", "_law_count"]) (capN:=["_law_one", "_law_other"]) (cap:=[1,2]) LX rfl Ee.nd rfl rfl (bC (pv 3))
    (fun C s' H' fp=>⟨(show PG _ _ (wb K 2 _) from hZ rfl (bJ (ay (i:=0) wS rfl (Or.inl rfl)) (bJ (ay (i:=1) wS rfl (Or.inl rfl)) fH))),bV (PW.pt (i3 (av bz (pv 0) (pv 2) (az _)) (eP (av bz (pv 0) (pv 3) (az _))))),pv 0⟩))
   (af (aD (i:=5) Ee.nd rfl (Or.inl rfl) (eU gG (pv 4) (fG (aw aA (aB (pv 0) Y.cl ml Gl hr bl .nil aq (aa (pv 1) ad)) ak (fun _ _=>rfl))) iI))
   (af (aD (i:=6) Ee.nd rfl (Or.inl rfl) (eU gG (pv 4) iI (fG (aw aA (aB (pv 0) Y.cl ml Gl hr bl .nil aq (aa (pv 1) ad)) ak (fun _ _=>rfl)))))
   (af (aO (av (sW hu) (b5 (own:=["_law_letter"]) (capN:=["_law_one"]) (cap:=[1]) LY rfl (bC (pv 6)) (fun C s' H' fp=>⟨ay (i:=0) Mb rfl (Or.inl rfl),bV (av jk (pv 0) (pv 1) (az _)),pv 0⟩)) (aU ad) (az _)) (ai (ar ji)) aI)
   (ai (ar (c8 (kX hu) (b5 (own:=["_law_letter"]) (capN:=["_law_other"]) (cap:=[2]) LZ rfl (bC (pv 5)) (fun C s' H' fp=>⟨ay (i:=0) Mc rfl (Or.inl rfl),bV (av jk (pv 0) (pv 1) (az _)),pv 0⟩)) (aU ad) (az _)))))))),?_⟩
  obtain⟨x,y,es,eg,hx,hy⟩:=hJ.lets m1 t1 h1
  have hgl:=hJ.Bk m1 t1 h1
  obtain⟨l,hl⟩:∃ l:Nat,t1.len=(l:Int):=⟨t1.len.toNat,by omega⟩
  have Du:y < st.lies.length:=by rw[hJ.lies];exact hy
  have AS:=List.getElem?_eq_getElem Du
  generalize st.lies[y]=qs at AS
  have hq36:qs.length <= 3600:=by
   have e1:=gQ (fun q:List (Int × Int)=>q.length) AS
   have e2:=hJ.FU.2
   have e1:qs.length <= i8 st:=e1
   omega
  obtain⟨io1,io2⟩:=tX hG hO hb h1 h2 hw AS eg hl
  have Aj:=sS m1 m2 qs
  refine⟨_,rfl,a.y,a.dy,_,rfl,hY.ins,rfl,_,rfl,a.y,a.dy,_,rfl,hY.ins,rfl,_,rfl,a.y,a.dy,a.tb,a.ro,a.la,a.le,a.li,a.dn,st,m1,t1,rfl,hY,h1,fun tp H1 s1 gtp=>?_⟩
  have Bt:=zj.same hY s1
  refine⟨tp,_,1,_,rfl,rfl,zh.of gtp,al (j:=1) rfl,?_⟩
  rw[eg]
  refine⟨a,st,y,qs,rfl,Bt,AS,fun Hp zx H2 s2 hHp VL hLp=>?_⟩
  have C2:=zj.same Bt s2
  refine⟨_,rfl,Hp,rfl,⟨_,zf.of VL⟩,?_⟩
  refine wl (m1:=m1) (m2:=m2) VL hLp (by rw[sizeLine_eq];omega) (fun x l c acc N hx h=>?_) (fun Pc hPc=>?_)
  ·refine⟨x,_,rfl,zh.of hx,rfl,_,_,rfl,_,_,rfl,rfl,_,rfl,_,rfl,rfl,_,rfl,?_⟩
   by_cases e1:l=(m1:Int)
   ·rw[if_pos (.inl e1)]at h
    rw[decide_eq_true (show V.int l=V.int m1 by rw[e1])]
    exact aK (aK ⟨_,rfl,h⟩)
   ·rw[decide_eq_false (show ¬ V.int l=V.int m1 from fun z=>e1 (V.int.inj z))]
    refine aH ⟨_,rfl,_,rfl,rfl,_,rfl,?_⟩
    by_cases e2:l=(m2:Int)
    ·rw[if_pos (.inr e2)]at h
     rw[decide_eq_true (show V.int l=V.int m2 by rw[e2])]
     exact aK ⟨_,rfl,h⟩
    ·rw[if_neg (by rintro (z | z);exact e1 z;exact e2 z)]at h
     rw[decide_eq_false (show ¬ V.int l=V.int m2 from fun z=>e2 (V.int.inj z))]
     exact aH h
  have u1:=(za.refl H2).new (o := .lst ((j8 m1 m2 qs).map V.int)) hPc
  have RK:(upd H2 Pc (.lst ((j8 m1 m2 qs).map V.int))) Pc=some (.lst ((j8 m1 m2 qs).map V.int)):=ac
  show cU 4 (V.ref Pc) _ (upd H2 Pc (.lst ((j8 m1 m2 qs).map V.int))) _
  generalize upd H2 Pc (.lst ((j8 m1 m2 qs).map V.int))=H3 at u1 RK ⊢
  have B4:=zj.same C2 u1
  generalize j8 m1 m2 qs=ps at *
  refine⟨_,rfl,_,rfl,a.y,a.dy,_,rfl,B4.ins,rfl,_,rfl,a.y,a.dy,a.tb,a.ro,a.la,a.le,a.li,a.dn,st,m1,t1,rfl,B4,h1,fun tq H4 s4 gtq=>?_⟩
  refine⟨tq,_,2,_,rfl,rfl,zh.of gtq,al (j:=2) rfl,?_⟩
  rw[hl]
  refine⟨_,rfl,Pc,_,rfl,zf.of (s4 _ _ RK),fun Be hBe=>?_⟩
  rw[qP]
  have u2:=(za.refl H4).new (o := .lst ((ps.drop l).map V.int)) hBe
  have VM:(upd H4 Be (.lst ((ps.drop l).map V.int))) Be=some (.lst ((ps.drop l).map V.int)):=ac
  show cU 5 (V.ref Be) _ (upd H4 Be (.lst ((ps.drop l).map V.int))) _
  generalize upd H4 Be (.lst ((ps.drop l).map V.int))=H5 at u2 VM ⊢
  have Ho:=zj.same B4 (s4.trans u2)
  refine⟨_,rfl,_,rfl,a.y,a.dy,_,rfl,Ho.ins,rfl,_,rfl,a.y,a.dy,a.tb,a.ro,a.la,a.le,a.li,a.dn,st,m1,t1,rfl,Ho,h1,fun tr H6 s6 gtr=>?_⟩
  refine⟨tr,_,2,_,rfl,rfl,zh.of gtr,al (j:=2) rfl,?_⟩
  rw[hl]
  refine⟨_,rfl,Pc,_,rfl,zf.of (s6 _ _ (u2 _ _ (s4 _ _ RK))),fun Ah hAh=>?_⟩
  rw[wj]
  have u3:=(za.refl H6).new (o := .lst ((ps.take l).map V.int)) hAh
  have RL:(upd H6 Ah (.lst ((ps.take l).map V.int))) Ah=some (.lst ((ps.take l).map V.int)):=ac
  show cU 6 (V.ref Ah) _ (upd H6 Ah (.lst ((ps.take l).map V.int))) _
  generalize upd H6 Ah (.lst ((ps.take l).map V.int))=H7 at u3 RL ⊢
  refine⟨_,rfl,Ah,rfl,⟨_,zf.of RL⟩,?_⟩
  refine ki (m:=(m1:Int)) RL (by rw[length_take,sizeLine_eq];omega) io1 (fun acc N h=>?_) (fun D1 hD1=>?_)
  ·refine⟨_,rfl,_,rfl,rfl,_,rfl,?_⟩
   rw[decide_eq_true rfl]
   exact aH h
  have u4:=(za.refl H7).new (o := .lst []) hD1
  have VN:(upd H7 D1 (.lst [])) D1=some (.lst []):=ac
  generalize upd H7 D1 (.lst [])=H8 at u4 VN ⊢
  refine⟨zero_le _,fun o1 HF=>?_⟩
  have u5:=(za.refl H8).new (o := .lst []) HF
  have DA:(upd H8 o1 (.lst [])) o1=some (.lst []):=ac
  generalize upd H8 o1 (.lst [])=H9 at u5 DA ⊢
  refine neN (f:=PyData.int) (l:=[]) (.lst (zf.of (u5 _ _ VN)) .nil) (.lst (zf.of DA) .nil) (lC []) ⟨_,rfl,aH ?_⟩
  have VO:=u5 _ _ (u4 _ _ (u3 _ _ (s6 _ _ VM)))
  refine⟨_,rfl,Be,rfl,⟨_,zf.of VO⟩,?_⟩
  refine ki (m:=(m2:Int)) VO (by rw[length_drop,sizeLine_eq];omega) io2 (fun acc N h=>?_) (fun D2 B9=>?_)
  ·refine⟨_,rfl,_,rfl,rfl,_,rfl,?_⟩
   rw[decide_eq_true rfl]
   exact aH h
  have u6:=(za.refl H9).new (o := .lst []) B9
  have VP:(upd H9 D2 (.lst [])) D2=some (.lst []):=ac
  generalize upd H9 D2 (.lst [])=Dg at u6 VP ⊢
  refine⟨zero_le _,fun o2 AG=>?_⟩
  have u7:=(za.refl Dg).new (o := .lst []) AG
  have go2:(upd Dg o2 (.lst [])) o2=some (.lst []):=ac
  generalize upd Dg o2 (.lst [])=IF at u7 go2 ⊢
  exact Rf (f:=PyData.int) (l:=[]) (.lst (zf.of (u7 _ _ VP)) .nil) (.lst (zf.of go2) .nil) (lC []) (q IF ((s1.trans (s2.trans u1)).trans ((s4.trans u2).trans ((s6.trans u3).trans ((u4.trans u5).trans (u6.trans u7))))))
noncomputable def oS (K:Frag):Sp:=fun vs H Q _=>∃ (a:Addr)(ns:List Int),vs=[.ref a]/\zf K H a (ns.map V.int)/\ns.length <= 63/\∀ H',Q (.bl true) H'
abbrev NLw:List Str:=["_law_script", "_law_table_here", "_law_begins_here", "_law_yard", "_law_cell", "_law_some", "_law_done", "_law_k", "_law_begin", "_law_goal", "_law_order", "_law_one"]
structure Fns (P:Program)(w:World)(K:Frag)(mg:Str->Option Value)(base:Heap)(c:Cs)(ts:Ts)(tn:pR)(ys:Ys)(x:Xs)(nr:Addr)(tk:Tok)(fc fx ft fb Md fy fp fg ff fr fw:Addr)(dc dx dt db NS dy dp dg df dr dw:FuncData):Prop where
 mc:mg "_law_cell_at" = some (.ref fc)
 kc:keepIn K (.ref fc)=true
 bc:Binds K dc ["_law_script", "_law_k"] []
 Gc:zb P w K mg base aG 1 fc dc ["_law_script", "_law_k"] (kE K)
 mx:mg "_law_mixed" = some (.ref fx)
 kx:keepIn K (.ref fx)=true
 bx:Binds K dx ["_law_cell", "_law_k"] []
 Gx:zb P w K mg base aG 1 fx dx ["_law_cell", "_law_k"] jH
 mt:mg "_law_table" = some (.ref ft)
 kt:keepIn K (.ref ft)=true
 bt:Binds K dt ["_law_script"] []
 Gt:zb P w K mg base aG 7 ft dt ["_law_script"] (rK P w K c ts tn)
 mb:mg "_law_begins" = some (.ref fb)
 kb:keepIn K (.ref fb)=true
 bb:Binds K db ["_law_table_here"] []
 Gb:∀ b,zb P w K mg base aG 4 fb db ["_law_table_here"] (oX c (TC ts tn b) (JJ P w ts tn b))
 mro:mg "_law_rooms" = some (.ref Md)
 kro:keepIn K (.ref Md)=true
 bro:Binds K NS ["_law_table_here", "_law_cell"] []
 RM:∀ b,zb P w K mg base aG 2 Md NS ["_law_table_here", "_law_cell"] (lA c (TC ts tn b) (JJ P w ts tn b))
 my:mg "Yard" = some (.ref ys.zd)
 My:Mk K ys.zd fy
 RN:Binds K dy ["self", "table", "rooms"] []
 Gy:∀ b,zb P w K mg base (eE P w) 4 fy dy ["self", "table", "rooms"] (l9 K c (TC ts tn b) (JJ P w ts tn b) (yx ys []) nr)
 mp:bA K ys.zd "post" fp
 bp:Binds K dp La [Value.int 0 tk]
 Gp:∀ b,zb P w K mg base (eE P w) 4 fp dp La (nu K c (TC ts tn b) (JJ P w ts tn b) (yx ys []) x)
 VQ:mg "_law_goes_on" = some (.ref fg)
 VR:keepIn K (.ref fg)=true
 VS:Binds K dg ["_law_yard", "_law_script", "_law_done", "_law_most"] []
 RO:∀ b,zb P w K mg base aG 9 fg dg ["_law_yard", "_law_script", "_law_done", "_law_most"] (rO K c (TC ts tn b) (JJ P w ts tn b) ys)
 mf:mg "_law_first_in" = some (.ref ff)
 kf:keepIn K (.ref ff)=true
 bf:Binds K df ["_law_yard"] []
 Gf:zb P w K mg base aG 2 ff df ["_law_yard"] (oV K (yx ys []))
 mr:mg "_law_right" = some (.ref fr)
 kr:keepIn K (.ref fr)=true
 br:Binds K dr ["_law_yard", "_law_one", "_law_other"] []
 Gr:zb P w K mg base aG 2 fr dr ["_law_yard", "_law_one", "_law_other"] (lB K (yx ys []))
 mw:bA K ys.zd "way_told" fw
 bw:Binds K dw ["self", "number"] []
 Gw:zb P w K mg base aG 1 fw dw ["self", "number"] (rp K (yx ys []))
noncomputable def wA (y:List Nat):PyData := .list (y.map fun z:Nat => .int z)
theorem wc:∀ {x y:List Nat},PyData.eqv (wA x) (wA y)=true->x=y:=by
 have h:∀ {x y:List Nat},PyData.eqvAll (x.map fun z:Nat=>PyData.int z) (y.map fun z:Nat=>PyData.int z)=true->x=y:=by
  intro x
  induction x with
  | nil =>
   intro y h
   cases y with
   | nil=>rfl
   | cons b y=>simp[PyData.eqvAll]at h
  | cons a x ih =>
   intro y h
   cases y with
   | nil=>simp[PyData.eqvAll]at h
   | cons b y =>
    rw[map_cons,map_cons,PyData.eqvAll,Bool.and_eq_true]at h
    have h1:(a:Int)=(b:Int):=by simpa [PyData.eqv] using h.1
    have:a=b:=by omega
    rw[this,ih h.2]
 intro x y e
 unfold wA at e
 rw[PyData.eqv]at e
 exact h e
theorem oY (y:List Nat):By (wA y) 64:=(eM (m:=0) fun z hz=>by
 obtain⟨x,_,rfl⟩:=mem_map.mp hz
 exact c5 _).le (by decide)
theorem Rv.post {K:Frag}{c:Cs}{TC fw:Addr}{dw:FuncData}{J:TJ}{ys:Ys}{H H' H2:Hp}{a:YA}{s:YS}{N:Nat->Nat->Nat}{lb db:Nat}(W:Wy K TC fw dw J)(h:Rv K c TC J ys H H' a s N lb db)(B8:∀ z ∈ a.four,H z=none){x y:Nat}{l u:Int}(hx:x < a.n)(hy:y < a.n)(hl:1 <= l/\l <= 60)(hs:s.yZ.length < 60)(o:zk a.four H' H2)(hY:An K (yx ys []) H2 a (cI s x y l u)) :
  ∃ N',Rv K c TC J ys H H2 a (cI s x y l u) N' (lb + 1) (db + 1):=by
 obtain⟨N',RC,LR⟩:=h.O.post h.G h.lt (x:=x) (y:=y) (l:=l) (u:=u) (by omega)
 have LS:=h.J.post (x:=x) (y:=y) (l:=l) (u:=u) hx hy ⟨by omega,hl.2⟩ hs
 have kh:=zk.zz (fun z hz=>h.I.Y.Ct z hz) o
 have ef:bK (cI s x y l u).done=bK s.done:=by
  show bK (s.done ++ [_])=_
  rw[fP];rfl
 refine⟨N',lF h.e o B8,⟨hY,AX.keep W h.I.T kh,h.I.O,LS.ok⟩,LS,RC,by rw[ef];exact LR,?_,?_,?_,?_⟩
 ·rw[ef]
  intro m hm
  have:=h.lt m hm
  show m < (s.yZ ++ [_]).length
  rw[length_append,length_singleton];omega
 ·intro d hd
  have hd:d ∈ s.done ++ [_]:=hd
  rcases mem_append.mp hd with hd | hd
  ·exact h.rows d hd
  ·rw[mem_singleton.mp hd];exact .inr ⟨_,_,_,_,rfl⟩
 ·show(s.yZ ++ [_]).length <= _
  rw[length_append,length_singleton];have:=h.l5;omega
 ·show(s.done ++ [_]).length <= _
  rw[length_append,length_singleton];have:=h.d5;omega
theorem uH {K:Frag}{c:Cs}{TC:Addr}{J:TJ}{ys:Ys}{nr:Addr}{vs:List V}{H:Hp}{Q Q':VK}{E:XK}(h:l9 K c TC J ys nr vs H Q E)(k:∀ v H',Q v H'->Q' v H'):l9 K c TC J ys nr vs H Q' E:=by
 obtain⟨y,dy,tb,lx,zD,lt,n,zi,ps,wy,rv,zq,h1,h2,h3,h4,h5,h6⟩:=h
 exact⟨y,dy,tb,lx,zD,lt,n,zi,ps,wy,rv,zq,h1,h2,h3,h4,h5,fun o ro la le li dn H' a1 a2 a3 a4 a5 a6=>k _ _ (h6 o ro la le li dn H' a1 a2 a3 a4 a5 a6)⟩
theorem AO:ap NLw ["_law_script"] (aj kJ):=L2.zF
theorem ym {c:Cs}{ts:Ts}{tn:pR}{ys:Ys}{x:Xs}{nr f fc fx ft fb Md fy fp fg ff fr fw:Addr}{tk:Tok}{fW:Bool->Addr}{dW:Bool->FuncData}{VT dc dx dt db NS dy dp dg df dr dw:FuncData}(F:zA K "law" "law" kJ f VT)(T:fB mg)(Y:i7 K ys)(W:∀ b,Wy K (TC ts tn b) (fW b) (dW b) (JJ P w ts tn b))
  (D:Fns P w K mg base c ts tn ys x nr tk fc fx ft fb Md fy fp fg ff fr fw dc dx dt db NS dy dp dg df dr dw):zb P w K mg base aG 10 f VT ["_law_script"] (oS K):=by
 refine F.ok AO (fun vs H Q E h=>?_) (fun cdv A0 outer s H vs Q E hr h=>?_)
 ·obtain⟨a,ns,rfl,_⟩:=h
  rfl
 ·obtain⟨sc,ns,rfl,hS,hlen,q⟩:=h
  have hu:=hr.units
  have zU:zm 1 _:=hr.mono (by decide)
  have Au:zm 2 _:=hr.mono (by decide)
  have BY:zm 4 _:=hr.mono (by decide)
  have Lx:zm 5 _:=hr.mono (by decide)
  have RD:zm 7 _:=hr.mono (by decide)
  have GRo:=zb.ex D.RM
  have GY:=zb.ex D.Gy
  have GB:=zb.ex D.Gb
  have GP:=zb.ex D.Gp
  have GG:=zb.ex D.RO
  refine⟨_,af (aD (i:=1) AO.nd rfl (Or.inl rfl) (au D.Gt RD rfl D.mt D.kt D.bt .nil aq (aa (pv 0) ad)))
   (af (aD (i:=2) AO.nd rfl (Or.inl rfl) (au GB BY rfl D.mb D.kb D.bb .nil aq (aa (pv 1) ad)))
   (af (aO (av (kX hu) (pv 2) (aU ad) (az _)) (ai (ar ji)) aI)
   (af (aD (i:=3) AO.nd rfl (Or.inl rfl) (kR (du D.My GY Lx rfl D.my D.RN .nil ia (aa (pv 1) (aa (au GRo Au rfl D.mro D.kro D.bro .nil aq (aa (pv 1) (aa (au D.Gc zU rfl D.mc D.kc D.bc .nil aq (aa (pv 0) (aa ak ad))) ad))) ad)))))
   (af (aD (i:=4) AO.nd rfl (Or.inl rfl) (au D.Gc zU rfl D.mc D.kc D.bc .nil aq (aa (pv 0) (aa ak ad))))
   (af (aD (i:=5) AO.nd rfl (Or.inl rfl) (aC sX (aC xU (aU (aa (aw aM (pv 2) (aC bv (pv 4) (aF ax rfl T.len PySem.boot_len (aa (pv 2) ad))) (fun _ _=>rfl)) ad)) ak) (aU (aa (aw aM (pv 2) (aC bv (au D.Gx zU rfl D.mx D.kx D.bx .nil aq (aa (pv 4) (aa ak ad))) (aF ax rfl T.len PySem.boot_len (aa (pv 2) ad))) (fun _ _=>rfl)) ad))))
   (af (aD (i:=6) AO.nd rfl (Or.inl rfl) ak)
   (af (bD PassesOwn.never rfl (aR rfl T.range (aa (aC bE ak (aC bv (au D.Gx zU rfl D.mx D.kx D.bx .nil aq (aa (pv 4) (aa ak ad))) ak)) ad)) (ay (i:=7) AO.nd rfl (Or.inl rfl))
    (af (kP (aw aM (pv 5) (aC bv (au D.Gx zU rfl D.mx D.kx D.bx .nil aq (aa (pv 4) (aa (aC bE (pv 7) ak) ad))) ak) (fun _ _=>rfl)) (hZ rfl (bJ (ay (i:=8) AO.nd rfl (Or.inl rfl)) (bJ (ay (i:=9) AO.nd rfl (Or.inl rfl)) fH))))
    (af (aQ (aB (pv 3) Y.cl D.mp GP BY D.bp (.cons (show RelV (.int 0) _ from ⟨_,rfl⟩) .nil) ia (aa (pv 8) (aa (pv 9) (aa (aC bE ak (aC bv (au D.Gx zU rfl D.mx D.kx D.bx .nil aq (aa (pv 4) (aa (aC bE (pv 7) ak) ad))) ak)) ad)))))
    (ai (aD (i:=6) AO.nd rfl (Or.inl rfl) (au GG hr rfl D.VQ D.VR D.VS .nil aq (aa (pv 3) (aa (pv 0) (aa (pv 6) (aa (aC bE (pv 6) (aC bv (au D.Gx zU rfl D.mx D.kx D.bx .nil aq (aa (pv 4) (aa (aC bE (pv 7) ak) ad))) ak)) ad))))))))))
   (af (aQ (au GG hr rfl D.VQ D.VR D.VS .nil aq (aa (pv 3) (aa (pv 0) (aa (pv 6) (aa (aC bE (pv 6) (aC bv (au D.Gc zU rfl D.mc D.kc D.bc .nil aq (aa (pv 0) (aa ak ad))) ak)) ad))))))
   (af (aD (i:=10) AO.nd rfl (Or.inl rfl) (au D.Gf Au rfl D.mf D.kf D.bf .nil aq (aa (pv 3) ad)))
   (af (bD PassesOwn.never rfl (aR rfl T.range (aa (aF ax rfl T.len PySem.boot_len (aa (pv 10) ad)) ad)) (ay (i:=7) AO.nd rfl (Or.inl rfl))
    (ai (bD PassesOwn.never rfl (bC (eU gG (pv 10) iI (fG (pv 7)))) (ay (i:=11) AO.nd rfl (Or.inl rfl))
     (ai (aO (PW.pt (kN (av (kX hu) (aB (pv 3) Y.cl D.mw D.Gw zU D.bw .nil aq (aa (pv 11) ad)) (aB (pv 3) Y.cl D.mw D.Gw zU D.bw .nil aq (aa (aw aM (pv 10) (pv 7) (fun _ _=>rfl)) ad)) (az _)) (iG (bZ (bF (au D.Gr Au rfl D.mr D.kr D.br .nil aq (aa (pv 3) (aa (pv 11) (aa (aw aM (pv 10) (pv 7) (fun _ _=>rfl)) ad))))))))) (ai (ar ji)) aI)))))
   (ai (ar ji)))))))))))),?_⟩
  refine⟨_,rfl,sc,ns,rfl,hS,fun b tb lx zD lt n zi ps wy H1 s1 Qc hT C9 zg hp8 AV LG=>?_⟩
  refine⟨_,rfl,b,⟨tb,tb,tb,tb,tb,tb,tb,tb,lx,zD,lt,n,zi,ps,wy⟩,rfl,hT,fun Bg Ay bs H2 s2 hBg gBg RP RQ Vx=>?_⟩
  have VU:=hT.keep (W b) (za.zz s2)
  have sH2:=s1.trans s2
  refine⟨_,rfl,zero_le _,fun o1 HF=>?_⟩
  have u1:=(za.refl H2).new (o := .lst []) HF
  have DA:(upd H2 o1 (.lst [])) o1=some (.lst []):=ac
  generalize upd H2 o1 (.lst [])=H3 at u1 DA ⊢
  have HM:=zy.same u1 RP
  have Mf:=u1 _ _ gBg
  refine Rf (f:=sT) (l:=bs) (.lst (zf.of Mf) (mG HM)) (.lst (zf.of DA) .nil) (qd _) ⟨_,rfl,?_⟩
  cases BD:bs.isEmpty with
  | true=>exact aK (q _)
  | false =>
  have hbn:bs ≠ []:=fun z=>by rw[z]at BD;cases BD
  have Er:=sH2.trans u1
  have DQ:=VU.keep (W b) (za.zz u1)
  have hbv:Ay.length=bs.length:=Paired.length RP
  have Ed:0 < Ay.length:=by rw[hbv];exact length_pos_iff.mpr hbn
  refine aH ⟨fun v H5=>∃ (H4:Hp)(rs:List Int),za H3 H4/\rs.length=ps.length/\(∀ r ∈ rs,1 <= r/\r <= 60)/\V2 K c (TC ts tn b) (JJ P w ts tn b) ys [] H4 tb ps n wy rs v H5,?_,?_⟩
  ·refine⟨_,rfl,_,rfl,_,rfl,sc,ns,3,rfl,Er.seq hS,fun d3=>⟨b,⟨tb,tb,tb,tb,tb,tb,tb,tb,lx,zD,lt,n,zi,ps,wy⟩,d3,rfl,DQ,fun Ro rs H4 s4 hRo gRo CH EY=>?_⟩⟩
   have CH:rs.length=ps.length:=CH
   have Kn:=DQ.keep (W b) (za.zz s4)
   exact fun y dy ny R0 R1=>⟨b,uH (uI (P:=P) (w:=w) (ys:=ys) (ex:=[]) (nr:=nr) (W b) Kn C9 zg (zf.of gRo) CH EY hp8 (fun z hz=>by cases hz) y dy ny R0 R1) fun v H5 h=>⟨h.1,H4,rs,s4,CH,EY,h.2⟩⟩
  rintro v H5 ⟨H4,rs,s4,CH,EY,a,rfl,e1,e2,e3,e4,s5,fr,VW,VX⟩
  have RS:=s4.trans s5
  have VY:=Er.trans RS
  have B8:∀ z ∈ a.four,H z=none:=fun z hz=>(Er.trans s4).free (fr z hz)
  have Fc:=RS _ _ Mf
  have RT:=zy.same RS HM
  have VZ:Rv K c (TC ts tn b) (JJ P w ts tn b) ys H H5 a (Y0 (rs.map V.int) n) zr 0 0:=⟨VY,VW,VX,R6 EY,RB _ _ _,(fun m hm=>by cases hm),(fun d hd=>by cases hd),Nat.le_refl _,Nat.le_refl _⟩
  have RQ:iJ a bs:=fun p hp=>by
   obtain⟨x,y,h1,h2,h3,h4,h5⟩:=RQ p hp
   exact⟨x,y,h1,by rw[e3];exact h2,by rw[e3];exact h3,h4,by rw[e4];exact h5⟩
  clear DQ VU RP HM VX VW
  refine⟨_,rfl,sc,ns,4,rfl,VY.seq hS,fun cl=>?_⟩
  have np:(0:Int) < ((Ay.length:Nat):Int):=by omega
  have pick:∀ d:Int,∃ (k:Nat)(p:Addr)(x y:Nat),d % ((Ay.length:Nat):Int)=(k:Int)/\Ay[k]? = some (.ref p)/\H5 p=some (.tup [.int x, .int y])/\x < a.n/\y < a.n/\x ≠ y/\a.wy x y none ≠ []:=fun d=>by
   have z1:=emod_nonneg d (show((Ay.length:Nat):Int) ≠ 0 by omega)
   have z2:=emod_lt_of_pos d np
   have RH:(d % ((Ay.length:Nat):Int)).toNat < Ay.length:=by omega
   have IE:=List.getElem?_eq_getElem RH
   obtain⟨pr,hpr,pt,RI,Cv⟩:=Paired.at RT IE
   obtain⟨x,y,rfl,h1,h2,h3,h4⟩:=RQ pr (mem_of_getElem? hpr)
   exact⟨(d % ((Ay.length:Nat):Int)).toNat,pt,x,y,by omega,by rw[IE,RI],Cv,h1,h2,h3,h4⟩
  obtain⟨k1,p1,x1,y1,hk1,Qu,g1,RU⟩:=pick cl
  refine⟨_,rfl,_,rfl,_,rfl,Bg,_,rfl, .inl (zf.of Fc),_,_,rfl,rfl,np,Bg,Ay,(k1:Int), .ref p1,rfl,congrArg V.int hk1,zf.of Fc,al Qu,by show 1 <= sizeLine;decide,fun o2 AG=>?_⟩
  have u6:=(za.refl H5).new (o := .lst [.ref p1]) AG
  have go2:(upd H5 o2 (.lst [.ref p1])) o2=some (.lst [.ref p1]):=ac
  generalize upd H5 o2 (.lst [.ref p1])=H6 at u6 go2 ⊢
  refine⟨o2,3,_,rfl,rfl,go2,by decide,by decide,by show 1 * 3 <= sizeLine;decide,fun o3 ho3=>?_⟩
  rw[show(List.replicate (3:Int).toNat [V.ref p1]).flatten=[V.ref p1,V.ref p1,V.ref p1] from rfl]
  have u7:=(za.refl H6).new (o := .lst [.ref p1, .ref p1, .ref p1]) ho3
  have Wc:(upd H6 o3 (.lst [.ref p1, .ref p1, .ref p1])) o3=some (.lst [.ref p1, .ref p1, .ref p1]):=ac
  generalize upd H6 o3 (.lst [.ref p1, .ref p1, .ref p1])=H7 at u7 Wc ⊢
  have NU:=u6.trans u7
  refine⟨_,rfl,_,rfl,cl,1,rfl,by decide,fun d1 Uw=>?_⟩
  obtain⟨k2,p2,x2,y2,Iw,hv2,g2,ok2⟩:=pick d1
  refine⟨_,rfl,Bg,_,rfl, .inl (zf.of (NU _ _ Fc)),_,_,rfl,rfl,np,Bg,Ay,(k2:Int), .ref p2,rfl,congrArg V.int Iw,zf.of (NU _ _ Fc),al hv2,by show 1 <= sizeLine;decide,fun o4 ho4=>?_⟩
  have u8:=(za.refl H7).new (o := .lst [.ref p2]) ho4
  have Wd:(upd H7 o4 (.lst [.ref p2])) o4=some (.lst [.ref p2]):=ac
  generalize upd H7 o4 (.lst [.ref p2])=H8 at u8 Wd ⊢
  refine⟨o3,o4,_,_,rfl,rfl,u8 _ _ Wc,Wd,by show 3 + 1 <= sizeLine;decide,fun Sm Wg=>?_⟩
  have u9:=(za.refl H8).new (o := .lst [.ref p1, .ref p1, .ref p1, .ref p2]) Wg
  have Wh:(upd H8 Sm (.lst [.ref p1, .ref p1, .ref p1, .ref p2])) Sm=some (.lst [.ref p1, .ref p1, .ref p1, .ref p2]):=ac
  show cU 5 (V.ref Sm) _ (upd H8 Sm (.lst [.ref p1, .ref p1, .ref p1, .ref p2])) _
  generalize upd H8 Sm (.lst [.ref p1, .ref p1, .ref p1, .ref p2])=H9 at u9 Wh ⊢
  have Mg:=NU.trans (u8.trans u9)
  have hR9:=VZ.same (W b) Mg
  have Wi:Sm ∉ a.four:=tK (zj.same VZ.I.Y (NU.trans u8)) Wg
  have Nt:∀ k:Nat,k < 4->∃ (p:Addr)(x y:Nat),([.ref p1, .ref p1, .ref p1, .ref p2]:List V)[k]? = some (.ref p)/\H9 p=some (.tup [.int x, .int y])/\x < a.n/\y < a.n/\x ≠ y/\a.wy x y none ≠ []:=fun k hk=>by
   rcases (by omega:k=0∨k=1∨k=2∨k=3) with rfl | rfl | rfl | rfl
   ·exact⟨p1,x1,y1,rfl,Mg _ _ g1,RU⟩
   ·exact⟨p1,x1,y1,rfl,Mg _ _ g1,RU⟩
   ·exact⟨p1,x1,y1,rfl,Mg _ _ g1,RU⟩
   ·exact⟨p2,x2,y2,rfl,Mg _ _ g2,ok2⟩
  refine⟨_,rfl,cl,2,rfl,by decide,fun d2 hd2=>⟨_,_,rfl,rfl,(by show (0:Int) < 5;decide),_,_,rfl,rfl,?_⟩⟩
  obtain⟨am,ham,ham5⟩:∃ am:Nat,(1:Int) + d2 % 5=(am:Int)/\am <= 5:=⟨(1 + d2 % 5).toNat,by omega,by omega⟩
  refine⟨(am:Int),congrArg (fun x=>[V.int x]) ham,by omega,by omega,?_⟩
  rw[toNat_natCast]
  refine b7 (lo:=0) (fun i σ Ha=>∃ (a7 a8 a9:Option V)(sa:YS)(N:Nat->Nat->Nat)(dd:Nat),Rv K c (TC ts tn b) (JJ P w ts tn b) ys H Ha a sa N i (6 * i)/\Ha Sm=some (.lst [.ref p1, .ref p1, .ref p1, .ref p2])/\zH H9 Ha/\dd <= 5 * i/\σ=[some (.ref sc),some (.ref tb),some (.ref Bg),some (.ref a.y),some (.int cl),some (.ref Sm),some (.int dd),a7,a8,a9,none,none]) ⟨none,none,none,_,_,0,hR9,Wh,za.zz (za.refl _),zero_le _,rfl⟩ ?_ ?_
  ·rintro i σ Ha hi ⟨a7,a8,a9,sa,N,dd,hR,RV,kA,VF,rfl⟩
   rw[zero_add]
   have UL:=hR.l5
   have VG:=hR.d5
   refine⟨_,rfl,_,rfl,_,rfl,_,_,rfl,rfl,cl,i + 10,rfl,by omega,fun d3 hd3=>?_⟩
   obtain⟨k,hk,hk4⟩:∃ k:Nat,d3 % 4=(k:Int)/\k < 4:=⟨(d3 % 4).toNat,by omega,by omega⟩
   obtain⟨p,x',y',hv,gp,hx,hy,FX,Dt⟩:=Nt k hk4
   have gpA:=kA _ _ gp True.intro
   refine⟨_,_,rfl,rfl,(by show (0:Int) < 4;decide),Sm,_,(k:Int), .ref p,rfl,congrArg V.int hk,zf.of RV,al hv,p,_,rfl,zh.of gpA,rfl,_,_,rfl,_,_,rfl,rfl,?_⟩
   refine⟨_,rfl,a.y,a.dy,_,rfl,hR.I.Y.ins,rfl,_,rfl,_,rfl,_,rfl,_,rfl,_,_,rfl,rfl,cl,i + 20,rfl,by omega,fun d4 hd4=>⟨_,_,rfl,rfl,(by show (0:Int) < 4;decide),_,_,rfl,rfl,?_⟩⟩
   obtain⟨len,Mj,Kz⟩:∃ len:Int,1 + d4 % 4=len/\1 <= len/\len <= 60:=⟨_,rfl,by omega,by omega⟩
   dsimp only
   rw[Mj]
   have gd:=qi (n:=a.n) (wy:=a.wy) (m:=sa.yZ.length) (u:=0) hx hy Kz (by decide +kernel) FX Dt (by omega)
   refine⟨b,a.y,a.dy,a.tb,a.ro,a.la,a.le,a.li,a.dn,a.lx,a.zD,a.lt,a.n,a.zi,a.ps,a.wy,sa, .int x', .int y', .int len, .int 0,rfl,hR.I.Y,hR.I.T, .int _, .int _, .int _, .int _,by omega,by omega,(fun h=>by rw[gd]at h;cases h),(fun h=>by rw[gd]at h;cases h),(fun h=>by rw[gd]at h;cases h),(fun h=>by rw[gd]at h;cases h),(fun h=>by rw[gd]at h;cases h),fun _ Hf CV RJ=>?_⟩
   have two:∀ z:Addr,z ∈ [a.le,a.dn]->z ∈ a.four:=fun z hz=>by simp only[mem_cons,not_mem_nil,or_false]at hz ⊢;rcases hz with rfl | rfl<;>simp
   have RW:zk a.four Ha Hf:=CV.mono two
   obtain⟨N',NQ⟩:=hR.post (W b) B8 hx hy Kz (by omega) RW RJ
   have kf:=zk.zz (fun z hz=>hR.I.Y.Ct z hz) RW
   refine⟨_,rfl,_,rfl,_,rfl,_,rfl,_,rfl,_,rfl,_,_,rfl,rfl,cl,i + 30,rfl,by omega,fun d6 hd6=>⟨_,_,rfl,rfl,(by show (0:Int) < 6;decide),_,_,rfl,rfl,?_⟩⟩
   obtain⟨m,hm,hm6⟩:∃ m:Nat,d6 % 6=(m:Int)/\m <= 5:=⟨(d6 % 6).toNat,by omega,by omega⟩
   dsimp only
   rw[hm]
   refine⟨b,a,_,N',i + 1,6 * i + 1,dd,m,sc,ns,H,rfl,NQ,B8,hS,hlen,by omega,by omega,by omega,fun Hg s' N2 d' h1 h2 Mm Bh og=>?_⟩
   have gSf:=RW _ _ Wi RV
   refine⟨_,_,_,s',N2,d',Mm.weak (Nat.le_refl _) (by omega),?_,?_,by omega,rfl⟩
   ·exact og _ _ Wi gSf
   ·exact(kA.trans kf).trans (zk.zz (fun z hz=>NQ.I.Y.Ct z hz) og)
  rintro σ Ha ⟨a7,a8,a9,sa,N,dd,hR,RV,kA,VF,rfl⟩
  refine⟨_,rfl,_,rfl,_,rfl,_,rfl,_,rfl,sc,ns,5,rfl,hR.e.seq hS,fun d5=>⟨_,_,rfl,rfl,(by show (0:Int) < 150;decide),_,_,rfl,rfl,?_⟩⟩
  obtain⟨m,hm,hm6⟩:∃ m:Nat,d5 % 150=(m:Int)/\m < 150:=⟨(d5 % 150).toNat,by omega,by omega⟩
  dsimp only
  rw[hm]
  refine⟨b,a,sa,N,am,6 * am,dd,m,sc,ns,H,rfl,hR,B8,hS,hlen,by omega,by omega,by omega,fun Hb sb Nb d' h1 h2 CK Bh _=>?_⟩
  have VG:=CK.d5
  have UL:=CK.l5
  refine⟨_,rfl,a,sb,rfl,CK.I.Y,CK.rows,by omega,fun Or Hc sc1 hOr Mp=>?_⟩
  have Eu:=CK.same (W b) sc1
  obtain⟨F,hF⟩:∃ F,F=bK sb.done:=⟨_,rfl⟩
  have hO:=CK.O
  have zL:=CK.lt
  have Wj:=jy sb.done sb.done.length
  rw[take_length]at Wj
  rw[← hF]at Mp hO zL Wj
  have EC:(nV F).length=F.length:=cy _
  refine⟨_,rfl,Or,_,rfl, .inl (zf.of Mp),((nV F).length:Int),rfl,by omega,by omega,?_⟩
  rw[toNat_natCast,EC]
  refine b7 (lo:=0) (fun i σ Hd=>∃ (a7 NV:Option V),za Hc Hd/\σ=[some (.ref sc),some (.ref tb),some (.ref Bg),some (.ref a.y),some (.int cl),some (.ref Sm),some (.int dd),a7,a8,a9,some (.ref Or),NV]) ⟨_,none,za.refl _,rfl⟩ ?_ ?_
  rotate_left
  ·rintro σ Hd ⟨_,_,_,rfl⟩
   exact q _
  rintro i σ Hd hi ⟨a7',NV,sd,rfl⟩
  rw[zero_add]
  refine⟨_,rfl,_,rfl,_,rfl,Or,_,rfl,zf.of (sd _ _ Mp),fun Sl hSl=>?_⟩
  rw[show gr (nV F) none (some (i:Int))=(nV F).take i from pN (nV F) i]
  have v1:=(za.refl Hd).new (o := .lst ((nV F).take i)) hSl
  have RX:(upd Hd Sl (.lst ((nV F).take i))) Sl=some (.lst ((nV F).take i)):=ac
  generalize upd Hd Sl (.lst ((nV F).take i))=He at v1 RX ⊢
  refine⟨Sl,rfl,⟨_,zf.of RX⟩,?_⟩
  refine fv (K:=K) (a:=Sl) (xs:=(nV F).take i) (fun j σ Hf=>∃ NV:Option V,za He Hf/\σ=[some (.ref sc),some (.ref tb),some (.ref Bg),some (.ref a.y),some (.int cl),some (.ref Sm),some (.int dd),some (.int i),a8,a9,some (.ref Or),NV]) ⟨_,za.refl _,rfl⟩ (fun j σ Hf _ ⟨_,s,_⟩=>zf.of (s _ _ RX)) ?_ ?_
  rotate_left
  ·rintro σ Hf ⟨_,sf,rfl⟩
   exact⟨_,_,(sd.trans v1).trans sf,rfl⟩
  rintro j v σ Hf hv ⟨_,sf,rfl⟩
  have FZ:j < i:=by
   have:=(List.getElem?_eq_some_iff.mp hv).1
   rw[length_take]at this
   omega
  have Wk:=List.getElem?_eq_getElem (show j < F.length by omega)
  have Wl:=List.getElem?_eq_getElem hi
  have Fi:v = .int F[j]:=by
   rw[List.getElem?_take,if_pos FZ,ij Wk]at hv
   exact(Option.some.inj hv).symm
  subst Fi
  have hb:Bl F F[j] F[i]:=⟨j,i,FZ,Wk,Wl⟩
  obtain⟨t1,RY⟩:∃ t1,sb.yZ[F[j]]? = some t1:=⟨_,List.getElem?_eq_getElem (zL _ (getElem_mem (show j < F.length by omega)))⟩
  obtain⟨t2,RZ⟩:∃ t2,sb.yZ[F[i]]? = some t2:=⟨_,List.getElem?_eq_getElem (zL _ (getElem_mem hi))⟩
  have HN:(nV F)[i]? = some (.int F[i]):=ij Wl
  generalize F[j]=m1 at hb RY
  generalize F[i]=m2 at hb RZ HN
  have Sb:=(sd.trans v1).trans sf
  have LK:=Eu.same (W b) Sb
  refine⟨_,rfl,a.y,a.dy,_,rfl,LK.I.Y.ins,rfl,_,rfl,a.y,a.dy,a.tb,a.ro,a.la,a.le,a.li,a.dn,sb,m1,t1,rfl,LK.I.Y,RY,fun w1 Hg sg DU gw1=>?_⟩
  have Mm:=LK.same (W b) sg
  refine⟨_,rfl,a.y,a.dy,_,rfl,Mm.I.Y.ins,rfl,_,rfl,_,rfl,Or,_,_,_,rfl,rfl,zf.of (sg _ _ (Sb _ _ Mp)),al HN,a.y,a.dy,a.tb,a.ro,a.la,a.le,a.li,a.dn,sb,m2,t2,rfl,Mm.I.Y,RZ,fun w2 Hh sh EL gw2=>?_⟩
  have Sd:=Mm.same (W b) sh
  have Se:=sg.trans sh
  refine⟨wA t1.way,wA t2.way, .lst (zf.of (sh _ _ gw1)) (lm _), .lst (zf.of gw2) (lm _),(oY _).shaped (by decide),(oY _).shaped (by decide),_,rfl,?_⟩
  cases he:PyData.eqv (wA t1.way) (wA t2.way) with
  | false=>exact aH (aH ⟨_,sf.trans Se,rfl⟩)
  | true =>
   have LR:Ord sb Nb F:=hO
   refine aK ⟨_,rfl,_,rfl,_,rfl,_,rfl,Or,_,_,_,rfl,rfl,zf.of (Se _ _ (Sb _ _ Mp)),al HN,a,sb,Nb,F,m1,m2,t1,t2,rfl,Sd.I.Y,Sd.J,Sd.G,LR,hb,RY,RZ,wc he,fun Hk sk=>⟨_,rfl,aH ⟨_,(sf.trans Se).trans sk,rfl⟩⟩⟩
theorem len_of1 {α:Type}{P:List α->Prop}(h:∀ a0,P [a0]):∀ us:List α,us.length=1->P us
 | [a0],_=>h a0
theorem len_of2 {α:Type}{P:List α->Prop}(h:∀ a0 a1,P [a0,a1]):∀ us:List α,us.length=2->P us
 | [a0,a1],_=>h a0 a1
theorem len_of3 {α:Type}{P:List α->Prop}(h:∀ a0 a1 a2,P [a0,a1,a2]):∀ us:List α,us.length=3->P us
 | [a0,a1,a2],_=>h a0 a1 a2
theorem len_of4 {α:Type}{P:List α->Prop}(h:∀ a0 a1 a2 a3,P [a0,a1,a2,a3]):∀ us:List α,us.length=4->P us
 | [a0,a1,a2,a3],_=>h a0 a1 a2 a3
theorem len_of5 {α:Type}{P:List α->Prop}(h:∀ a0 a1 a2 a3 a4,P [a0,a1,a2,a3,a4]):∀ us:List α,us.length=5->P us
 | [a0,a1,a2,a3,a4],_=>h a0 a1 a2 a3 a4
structure FT (K:Frag)(mg:Str->Option Value)(n:Str)(st:Stmt)(ps:List Str)(f:Addr)(fd:FuncData):Prop where
 F:zA K n n st f fd
 m:mg n=some (.ref f)
 k:keepIn K (.ref f)=true
 b:Binds K fd ps []
structure FM (K:Frag)(C:Addr)(n q:Str)(st:Stmt)(ps:List Str)(f:Addr)(fd:FuncData):Prop where
 F:zA K n q st f fd
 m:bA K C n f
 b:Binds K fd ps []
section
variable {K:Frag}{mg:Str->Option Value}{C f:Addr}{n q:Str}{st:Stmt}{ps:List Str}{h:Heap}{oc:Value}{od an:Option Addr}{C8:Array (Option Value)}{kV doc pm cdv ct:Value}
theorem mkT (X:K.In h)(G:h.Ns mainGlobals mg)(hb:∀ (kV doc pm:Value) (an:Option Addr) (cdv ct:Value) (us:List Value),us.length=ps.length->bindArgs (fnOf n n (bI st) (aJ st) (aj st) .none kV doc pm an cdv ct) ⟨us,[]⟩ = pure (ps.zip us))
  (a:nsIn K mainGlobals n=some (some (.ref f))) (l:K.lookup f=some ⟨oc,od, .func (fnOf n n (bI st) (aJ st) (aj st) .none kV doc pm an cdv ct),C8⟩) (c:codeIn K cdv n=true) (k:keepIn K (.ref f)=true):∃ fd,FT K mg n st ps f fd :=
 ⟨_,jw l c k,mg_of X G a,k,(jw l c k).binds hb⟩
theorem mkM (hb:∀ (kV doc pm:Value) (an:Option Addr) (cdv ct:Value) (us:List Value),us.length=ps.length->bindArgs (fnOf n q (bI st) (aJ st) (aj st) .none kV doc pm an cdv ct) ⟨us,[]⟩ = pure (ps.zip us))
  (a:findIn K (.ref C) n=some (some (.ref f))) (l:K.lookup f=some ⟨oc,od, .func (fnOf n q (bI st) (aJ st) (aj st) .none kV doc pm an cdv ct),C8⟩) (c:codeIn K cdv q=true) (k:keepIn K (.ref f)=true) (i:isFn K (.ref f)=true):∃ fd,FM K C n q st ps f fd :=
 ⟨_,jw l c k,⟨a,i,k⟩,(jw l c k).binds hb⟩
end
section
variable {l:PySem.W.OpenLaw}{w:World}{K:Frag}{h:Heap}{mg:Str->Option Value}{fa cL cN cT cR cE cB cD cO cM cP cG cW cZ cF cQ cA cH cJ f1 f2 f3 f4 f5 f6 f7 f8 f9 Wm Nh Wn Wo Wq Wr Ws Wt Wu Wv Ww Wx Wz W0 W2 Sf Sg W3 NW Sh Si Sj Sk Sn So Mq Sr f37 Ss f39 Sv W4 Sw W5 Sy Sz W6 W7 S0 W8 HP IG W9 S1 S2 S3 S4 WA S5 WB S6 S7 S8 S9 SA WC WD WE WH:Addr}{t1 t2 t3 t4 t5:Tok}
theorem both {α β:Type}{P:Bool->α->β->Prop}{a1 a2:α}{b1 b2:β}(h1:P true a1 b1)(h2:P false a2 b2):∃ (f:Bool->α)(g:Bool->β),∀ b,P b (f b) (g b):=⟨fun b=>cond b a1 a2,fun b=>cond b b1 b2,fun b=>by cases b<;>assumption⟩
theorem all_mk (X:K.In h)(G:h.Ns mainGlobals mg)(CU:mg "law" = some (.ref fa))
  {SD Mr SE Ms SG Mu:Option Addr} {SH SI SJ:Array (Option Value)} {SK Mw Mx Mz HQ M0 SM M3 M4 M5 HR M6 SN M7 M8 M9 HS MA:Value}
  {MB MC:Addr} {SO SQ:Value} {SR SS:Option Addr} {SU SV:Nat} {SW:Tok}  {SX SY:Array (Option Value)}
  (gcL:nsIn K mainGlobals "Land" = some (some (.ref cL)))
  (gcN:nsIn K mainGlobals "NoPlaces" = some (some (.ref cN)))
  (gcT:nsIn K mainGlobals "TooMany" = some (some (.ref cT)))
  (gcR:nsIn K mainGlobals "NoRoad" = some (some (.ref cR)))
  (gcE:nsIn K mainGlobals "NoEntry" = some (some (.ref cE)))
  (gcB:nsIn K mainGlobals "Table" = some (some (.ref cB)))
  (gcD:nsIn K mainGlobals "Told" = some (some (.ref cD)))
  (gcO:nsIn K mainGlobals "Nearer" = some (some (.ref cO)))
  (gcM:nsIn K mainGlobals "NoRooms" = some (some (.ref cM)))
  (gcP:nsIn K mainGlobals "NoPlace" = some (some (.ref cP)))
  (gcG:nsIn K mainGlobals "NoLength" = some (some (.ref cG)))
  (gcW:nsIn K mainGlobals "NoWord" = some (some (.ref cW)))
  (gcZ:nsIn K mainGlobals "NoWay" = some (some (.ref cZ)))
  (gcF:nsIn K mainGlobals "Full" = some (some (.ref cF)))
  (gcQ:nsIn K mainGlobals "NoMove" = some (some (.ref cQ)))
  (gcA:nsIn K mainGlobals "Lane" = some (some (.ref cA)))
  (gcH:nsIn K mainGlobals "Letter" = some (some (.ref cH)))
  (gcJ:nsIn K mainGlobals "Yard" = some (some (.ref cJ)))
  (h1:∃ d,FT K mg "has" uV ["some", "number"] f1 d)
  (h2:∃ d,FT K mg "members" so ["some"] f2 d)
  (h3:∃ d,FT K mg "set_of" xy ["numbers"] f3 d)
  (h4:∃ d,FT K mg "is_whole" gi ["value"] f4 d)
  (h5:∃ d,FT K mg "is_within" iE ["value", "least", "most"] f5 d)
  (h6:∃ d,FT K mg "is_one_of" x5 ["value", "numbers"] f6 d)
  (h7:∃ d,FT K mg "are_two_places" xw ["places", "one", "other"] f7 d)
  (h8:∃ d,FT K mg "row_fits" lL ["land", "row"] f8 d)
  (h9:∃ d,FT K mg "onward" P7 ["table", "lane", "goal"] f9 d)
  (h10:∃ d,FT K mg "rooms_of" gj ["land", "rooms"] Wm d)
  (h11:∃ d,FT K mg "is_word" rU ["word"] Nh d)
  (h12:∃ d,FT K mg "is_move" lI ["move"] Wn d)
  (h13:∃ d,FT K mg "how_far" xD ["land", "goal"] Wo d)
  (h14:∃ d,FT K mg "nearer_lanes" JX ["land", "far", "place"] Wq d)
  (h15:∃ d,FT K mg "_law_cell_at" sF ["_law_script", "_law_k"] Wr d)
  (h16:∃ d,FT K mg "_law_mixed" x8 ["_law_cell", "_law_k"] Ws d)
  (h17:∃ d,FT K mg "_law_lanes" nH ["_law_places", "_law_amount", "_law_cell"] Wt d)
  (h18:∃ d,FT K mg "_law_rows" jc ["_law_places", "_law_lanes_here", "_law_cell"] Wu d)
  (h19:∃ d,FT K mg "_law_table" sA ["_law_script"] Wv d)
  (h20:∃ d,FT K mg "_law_begins" nM ["_law_table_here"] Ww d)
  (h21:∃ d,FT K mg "_law_rooms" gK ["_law_table_here", "_law_cell"] Wx d)
  (h22:∃ d,FT K mg "_law_goes_on" sD ["_law_yard", "_law_script", "_law_done", "_law_most"] Wz d)
  (h23:∃ d,FT K mg "_law_first_in" nJ ["_law_yard"] W0 d)
  (h24:∃ d,FT K mg "_law_right" c6 ["_law_yard", "_law_one", "_law_other"] W2 d)
  (a25:nsIn K mainGlobals "law" = some (some (.ref Sf)))
  (l25:K.lookup Sf=some ⟨SK,SD, .func (fnOf "law" "law" (bI kJ) (aJ kJ) (aj kJ) .none Mw Mx Mz Mr HQ M0),SH⟩)
  (c25:codeIn K HQ "law" = true)
  (k25:keepIn K (.ref Sf)=true)
  (h26:∃ d,FM K cL "__init__" "Land.__init__" lK ["self", "places", "lanes"] Sg d)
  (h27:∃ d,FM K cL "start_of" "Land.start_of" nA ["self", "lane"] W3 d)
  (h28:∃ d,FM K cL "end_of" "Land.end_of" xH ["self", "lane"] NW d)
  (h29:∃ d,FM K cL "out_of" "Land.out_of" si ["self", "place"] Sh d)
  (h30:∃ d,FM K cL "into" "Land.into" lJ ["self", "place"] Si d)
  (h31:∃ d,FM K cT "__init__" "TooMany.__init__" Nn ["self", "many"] Sj d)
  (h32:∃ d,FM K cR "__init__" "NoRoad.__init__" Np ["self", "lane"] Sk d)
  (h33:∃ d,FM K cE "__init__" "NoEntry.__init__" Nq ["self", "row"] Sn d)
  (h34:∃ d,FM K cZ "__init__" "NoWay.__init__" uU ["self", "start", "goal"] So d)
  (h35:∃ d,FM K cB "__init__" "Table.__init__" xx ["self", "land"] Mq d)
  (h36:∃ d,FM K cD "__init__" "Told.__init__" rX ["self", "land", "rows"] Sr d)
  (h37:∃ d,FM K cD "ways" "Told.ways" n9 ["self", "place", "goal", "came"] f37 d)
  (h38:∃ d,FM K cO "__init__" "Nearer.__init__" sm ["self", "land"] Ss d)
  (h39:∃ d,FM K cO "ways" "Nearer.ways" rV ["self", "place", "goal", "came"] f39 d)
  (h40:∃ d,FM K cA "__init__" "Lane.__init__" xB ["self", "room"] Sv d)
  (h41:∃ d,FM K cA "open_to" "Lane.open_to" sj ["self", "letter", "count"] W4 d)
  (h42:∃ d,FM K cA "put" "Lane.put" xz ["self", "letter", "count", "last"] Sw d)
  (h43:∃ d,FM K cA "front" "Lane.front" nI ["self"] W5 d)
  (h44:∃ d,FM K cA "pull" "Lane.pull" rY ["self"] Sy d)
  (h45:∃ d,FM K cA "bring" "Lane.bring" nL ["self"] Sz d)
  (h46:∃ d,FM K cA "told" "Lane.told" xA ["self"] W6 d)
  (h47:∃ d,FM K cA "twin" "Lane.twin" x9 ["self"] W7 d)
  (h48:∃ d,FM K cH "__init__" "Letter.__init__" sy ["self", "start", "goal", "length", "word"] S0 d)
  (h49:∃ d,FM K cH "twin" "Letter.twin" su ["self"] W8 d)
  (a50:findIn K (.ref cJ) "__init__" = some (some (.ref HP)))
  (l50:K.lookup HP=some ⟨SM,SE, .func (fnOf "__init__" "Yard.__init__" (bI hW) (aJ hW) (aj hW) (.ref MB) M3 M4 M5 Ms HR M6),SI⟩)
  (d50:K.lookup MB=some ⟨SO,SR, .seq #[Value.none] SU,SX⟩)
  (c50:codeIn K HR "Yard.__init__" = true)
  (k50:keepIn K (.ref HP)=true)
  (i50:isFn K (.ref HP)=true)
  (a51:findIn K (.ref cJ) "post" = some (some (.ref IG)))
  (l51:K.lookup IG=some ⟨SN,SG, .func (fnOf "post" "Yard.post" (bI gJ) (aJ gJ) (aj gJ) (.ref MC) M7 M8 M9 Mu HS MA),SJ⟩)
  (d51:K.lookup MC=some ⟨SQ,SS, .seq #[Value.int 0 SW] SV,SY⟩)
  (c51:codeIn K HS "Yard.post" = true)
  (k51:keepIn K (.ref IG)=true)
  (i51:isFn K (.ref IG)=true)
  (h52:∃ d,FM K cJ "moves" "Yard.moves" nD ["self"] W9 d)
  (h53:∃ d,FM K cJ "moves_in" "Yard.moves_in" lH ["self", "number"] S1 d)
  (h54:∃ d,FM K cJ "moves_on" "Yard.moves_on" lG ["self", "lane"] S2 d)
  (h55:∃ d,FM K cJ "moves_lie" "Yard.moves_lie" nB ["self", "lane"] S3 d)
  (h56:∃ d,FM K cJ "moves_back" "Yard.moves_back" kI ["self", "lane"] S4 d)
  (h57:∃ d,FM K cJ "wanted" "Yard.wanted" gH ["self", "lane"] WA d)
  (h58:∃ d,FM K cJ "moves_like" "Yard.moves_like" sr ["self", "move"] S5 d)
  (h59:∃ d,FM K cJ "do" "Yard.do" P8 ["self", "move"] WB d)
  (h60:∃ d,FM K cJ "go_in" "Yard.go_in" sE ["self", "number", "lane"] S6 d)
  (h61:∃ d,FM K cJ "enter" "Yard.enter" nK ["self", "piece", "lane"] S7 d)
  (h62:∃ d,FM K cJ "lay" "Yard.lay" xC ["self", "piece", "place"] S8 d)
  (h63:∃ d,FM K cJ "own_lane" "Yard.own_lane" se ["self", "lane"] S9 d)
  (h64:∃ d,FM K cJ "own_letter" "Yard.own_letter" rZ ["self", "number"] SA d)
  (h65:∃ d,FM K cJ "letter_told" "Yard.letter_told" sw ["self", "number"] WC d)
  (h66:∃ d,FM K cJ "way_told" "Yard.way_told" rW ["self", "number"] WD d)
  (h67:∃ d,FM K cJ "lying" "Yard.lying" nG ["self", "place"] WE d)
  (h68:∃ d,FM K cJ "history" "Yard.history" sC ["self"] WH d)
  (mp:nsIn K mainGlobals "MOST_PLACES" = some (some (.int 12 t1)))
  (ml:nsIn K mainGlobals "MOST_LANES" = some (some (.int 40 t2)))
  (mr:nsIn K mainGlobals "MOST_ROOM" = some (some (.int 60 t3)))
  (mh:nsIn K mainGlobals "MOST_LENGTH" = some (some (.int 60 t4)))
  (mk:nsIn K mainGlobals "MOST_LETTERS" = some (some (.int 60 t5)))
  (p1cL:plainGet K cL Str.empty=true)
  (p2cL:hasDictIn K cL=true)
  (p3cL:plainOver K cL=true)
  (p4cL:findIn K (.ref cL) "__setattr__" = some (some (.builtin "object.__setattr__")))
  (p5cL:makesIn K cL=true)
  (p6cL:keepIn K (.ref cL)=true)
  (ncLplaces:findIn K (.ref cL) "places" = some none)
  (ncLlanes:findIn K (.ref cL) "lanes" = some none)
  (p1cB:plainGet K cB Str.empty=true)
  (p2cB:hasDictIn K cB=true)
  (p3cB:plainOver K cB=true)
  (p4cB:findIn K (.ref cB) "__setattr__" = some (some (.builtin "object.__setattr__")))
  (p5cB:makesIn K cB=true)
  (p6cB:keepIn K (.ref cB)=true)
  (ncBland:findIn K (.ref cB) "land" = some none)
  (p1cD:plainGet K cD Str.empty=true)
  (p2cD:hasDictIn K cD=true)
  (p3cD:plainOver K cD=true)
  (p4cD:findIn K (.ref cD) "__setattr__" = some (some (.builtin "object.__setattr__")))
  (p5cD:makesIn K cD=true)
  (p6cD:keepIn K (.ref cD)=true)
  (ncDland:findIn K (.ref cD) "land" = some none)
  (ncDentries:findIn K (.ref cD) "entries" = some none)
  (p1cO:plainGet K cO Str.empty=true)
  (p2cO:hasDictIn K cO=true)
  (p3cO:plainOver K cO=true)
  (p4cO:findIn K (.ref cO) "__setattr__" = some (some (.builtin "object.__setattr__")))
  (p5cO:makesIn K cO=true)
  (p6cO:keepIn K (.ref cO)=true)
  (ncOland:findIn K (.ref cO) "land" = some none)
  (ncOentries:findIn K (.ref cO) "entries" = some none)
  (p1cA:plainGet K cA Str.empty=true)
  (p2cA:hasDictIn K cA=true)
  (p3cA:plainOver K cA=true)
  (p4cA:findIn K (.ref cA) "__setattr__" = some (some (.builtin "object.__setattr__")))
  (p5cA:makesIn K cA=true)
  (p6cA:keepIn K (.ref cA)=true)
  (ncArights:findIn K (.ref cA) "rights" = some none)
  (ncAreturning:findIn K (.ref cA) "returning" = some none)
  (ncAholder:findIn K (.ref cA) "holder" = some none)
  (ncApieces:findIn K (.ref cA) "pieces" = some none)
  (p1cH:plainGet K cH Str.empty=true)
  (p2cH:hasDictIn K cH=true)
  (p3cH:plainOver K cH=true)
  (p4cH:findIn K (.ref cH) "__setattr__" = some (some (.builtin "object.__setattr__")))
  (p5cH:makesIn K cH=true)
  (p6cH:keepIn K (.ref cH)=true)
  (ncHstart:findIn K (.ref cH) "start" = some none)
  (ncHgoal:findIn K (.ref cH) "goal" = some none)
  (ncHlength:findIn K (.ref cH) "length" = some none)
  (ncHword:findIn K (.ref cH) "word" = some none)
  (ncHgone:findIn K (.ref cH) "gone" = some none)
  (ncHway:findIn K (.ref cH) "way" = some none)
  (p1cJ:plainGet K cJ Str.empty=true)
  (p2cJ:hasDictIn K cJ=true)
  (p3cJ:plainOver K cJ=true)
  (p4cJ:findIn K (.ref cJ) "__setattr__" = some (some (.builtin "object.__setattr__")))
  (p5cJ:makesIn K cJ=true)
  (p6cJ:keepIn K (.ref cJ)=true)
  (ncJtable:findIn K (.ref cJ) "table" = some none)
  (ncJrooms:findIn K (.ref cJ) "rooms" = some none)
  (ncJlanes:findIn K (.ref cJ) "lanes" = some none)
  (ncJletters:findIn K (.ref cJ) "letters" = some none)
  (ncJlies:findIn K (.ref cJ) "lies" = some none)
  (ncJdone:findIn K (.ref cJ) "done" = some none)
  (x1cN:b0 K cN none=true)
  (x2cN:keepIn K (.ref cN)=true)
  (x1cT:b0 K cT (some (.ref Sj))=true)
  (x2cT:keepIn K (.ref cT)=true)
  (x3cT:iq K cT=true)
  (x4cT:hasDictIn K cT=true)
  (x5cT:findIn K (.ref cT) "__setattr__" = some (some (.builtin "object.__setattr__")))
  (x6cT:findIn K (.ref cT) "__getattribute__" = some (some (.builtin "BaseException.__getattribute__")))
  (x7cT:findIn K (.ref cT) "__getattr__" = some none)
  (ncTmany:findIn K (.ref cT) "many" = some none)
  (x1cR:b0 K cR (some (.ref Sk))=true)
  (x2cR:keepIn K (.ref cR)=true)
  (x3cR:iq K cR=true)
  (x4cR:hasDictIn K cR=true)
  (x5cR:findIn K (.ref cR) "__setattr__" = some (some (.builtin "object.__setattr__")))
  (x6cR:findIn K (.ref cR) "__getattribute__" = some (some (.builtin "BaseException.__getattribute__")))
  (x7cR:findIn K (.ref cR) "__getattr__" = some none)
  (ncRlane:findIn K (.ref cR) "lane" = some none)
  (x1cE:b0 K cE (some (.ref Sn))=true)
  (x2cE:keepIn K (.ref cE)=true)
  (x3cE:iq K cE=true)
  (x4cE:hasDictIn K cE=true)
  (x5cE:findIn K (.ref cE) "__setattr__" = some (some (.builtin "object.__setattr__")))
  (x6cE:findIn K (.ref cE) "__getattribute__" = some (some (.builtin "BaseException.__getattribute__")))
  (x7cE:findIn K (.ref cE) "__getattr__" = some none)
  (ncErow:findIn K (.ref cE) "row" = some none)
  (x1cM:b0 K cM none=true)
  (x2cM:keepIn K (.ref cM)=true)
  (x1cP:b0 K cP none=true)
  (x2cP:keepIn K (.ref cP)=true)
  (x1cG:b0 K cG none=true)
  (x2cG:keepIn K (.ref cG)=true)
  (x1cW:b0 K cW none=true)
  (x2cW:keepIn K (.ref cW)=true)
  (x1cZ:b0 K cZ (some (.ref So))=true)
  (x2cZ:keepIn K (.ref cZ)=true)
  (x3cZ:iq K cZ=true)
  (x4cZ:hasDictIn K cZ=true)
  (x5cZ:findIn K (.ref cZ) "__setattr__" = some (some (.builtin "object.__setattr__")))
  (x6cZ:findIn K (.ref cZ) "__getattribute__" = some (some (.builtin "BaseException.__getattribute__")))
  (x7cZ:findIn K (.ref cZ) "__getattr__" = some none)
  (ncZstart:findIn K (.ref cZ) "start" = some none)
  (ncZgoal:findIn K (.ref cZ) "goal" = some none)
  (x1cF:b0 K cF none=true)
  (x2cF:keepIn K (.ref cF)=true)
  (x1cQ:b0 K cQ none=true)
  (x2cQ:keepIn K (.ref cQ)=true)
  (w1cB:PySem.W.readsIn K cB (.type "type")=true)
  (w2cB:PySem.W.findCls K (.ref cB) (.type "type") "__init__" = some (.val (.ref Mq)))
  (w3cB:PySem.W.specialIn K (.ref cB) "__getattribute__" = some (some (.builtin "type.__getattribute__")))
  (kk1:kitOne K (.type "int") (.type "int")=some true)
  (kk2:kitOne K (.type "int") (.type "bool")=some false)
  (kk3:kitOne K (.type "bool") (.type "int")=some true)
  (kk4:kitOne K (.type "bool") (.type "bool")=some true)
  (kk5:kitOne K (.type "NoneType") (.type "int")=some false)
  (kk6:kitOne K (.type "str") (.type "str")=some true)
  (kk7:kitOne K (.type "int") (.type "str")=some false)
  (kk8:kitOne K (.type "tuple") (.type "tuple")=some true)
  (kk9:kitOne K (.type "list") (.type "list")=some true)
  (eQ:PySem.W.exmOne K (.ref cQ) (.ref cQ)=some true)
  (z0:nsIn K mainGlobals "isinstance" = some none)
  (z1:nsIn K mainGlobals "int" = some none)
  (z2:nsIn K mainGlobals "bool" = some none)
  (z3:nsIn K mainGlobals "len" = some none)
  (z4:nsIn K mainGlobals "enumerate" = some none)
  (z5:nsIn K mainGlobals "tuple" = some none)
  (z6:nsIn K mainGlobals "range" = some none)
  (z7:nsIn K mainGlobals "list" = some none)
  (z8:nsIn K mainGlobals "all" = some none)
  (z9:nsIn K mainGlobals "abs" = some none)
  (z10:nsIn K mainGlobals "str" = some none)
  (z11:nsIn K mainGlobals "max" = some none)
  : ∃ fd:FuncData,(∀ (s:Shared)(v:Value),BindsTo s fd ⟨[v],[]⟩ [("_law_script",v)])/\∀ base:Heap,K.In base->base.Ns mainGlobals mg->zb l.prog w K mg base aG 10 fa fd ["_law_script"] (oS K):=by
 have e:=CU.symm.trans (mg_of X G a25)
 cases e
 have T:fB mg:=⟨mg_none_of X G z0,mg_none_of X G z1,mg_none_of X G z2,mg_none_of X G z3,mg_none_of X G z4,mg_none_of X G z5,mg_none_of X G z6,mg_none_of X G z7,mg_none_of X G z8,mg_none_of X G z9,mg_none_of X G z10,mg_none_of X G z11⟩
 obtain⟨d1,H1⟩:=h1
 obtain⟨d2,H2⟩:=h2
 obtain⟨d3,H3⟩:=h3
 obtain⟨d4,H4⟩:=h4
 obtain⟨d5,H5⟩:=h5
 obtain⟨d6,H6⟩:=h6
 obtain⟨d7,H7⟩:=h7
 obtain⟨d8,H8⟩:=h8
 obtain⟨d9,H9⟩:=h9
 obtain⟨d10,Dg⟩:=h10
 obtain⟨d11,IF⟩:=h11
 obtain⟨d12,NX⟩:=h12
 obtain⟨d13,NY⟩:=h13
 obtain⟨d14,NZ⟩:=h14
 obtain⟨d15,Ew⟩:=h15
 obtain⟨d16,C3⟩:=h16
 obtain⟨d17,Oa⟩:=h17
 obtain⟨d18,Ob⟩:=h18
 obtain⟨d19,Oc⟩:=h19
 obtain⟨d20,Od⟩:=h20
 obtain⟨d21,Oe⟩:=h21
 obtain⟨d22,Og⟩:=h22
 obtain⟨d23,Oh⟩:=h23
 obtain⟨d24,Oi⟩:=h24
 obtain⟨d26,Oj⟩:=h26
 obtain⟨d27,Ta⟩:=h27
 obtain⟨d28,MD⟩:=h28
 obtain⟨d29,IH⟩:=h29
 obtain⟨d30,II⟩:=h30
 obtain⟨d31,Tb⟩:=h31
 obtain⟨d32,Tc⟩:=h32
 obtain⟨d33,Td⟩:=h33
 obtain⟨d34,Te⟩:=h34
 obtain⟨d35,MF⟩:=h35
 obtain⟨d36,Ol⟩:=h36
 obtain⟨d37,Tf⟩:=h37
 obtain⟨d38,Om⟩:=h38
 obtain⟨d39,Tg⟩:=h39
 obtain⟨d40,MG⟩:=h40
 obtain⟨d41,HU⟩:=h41
 obtain⟨d42,Ti⟩:=h42
 obtain⟨d43,HV⟩:=h43
 obtain⟨d44,Tj⟩:=h44
 obtain⟨d45,Tn⟩:=h45
 obtain⟨d46,H46⟩:=h46
 obtain⟨d47,To⟩:=h47
 obtain⟨d48,MH⟩:=h48
 obtain⟨d49,Tp⟩:=h49
 obtain⟨d52,Tq⟩:=h52
 obtain⟨d53,Tr⟩:=h53
 obtain⟨d54,Tt⟩:=h54
 obtain⟨d55,Tv⟩:=h55
 obtain⟨d56,Tw⟩:=h56
 obtain⟨d57,Tx⟩:=h57
 obtain⟨d58,Tz⟩:=h58
 obtain⟨d59,T1⟩:=h59
 obtain⟨d60,T2⟩:=h60
 obtain⟨d61,MI⟩:=h61
 obtain⟨d62,T3⟩:=h62
 obtain⟨d63,T4⟩:=h63
 obtain⟨d64,T5⟩:=h64
 obtain⟨d65,T6⟩:=h65
 obtain⟨d66,T7⟩:=h66
 obtain⟨d67,T8⟩:=h67
 obtain⟨d68,T9⟩:=h68
 have F25:=jw (st:=kJ) l25 c25 k25
 have F50:Di K "__init__" "Yard.__init__" hW HP _:=⟨⟨_,_,_,_,_,_,_,_,_,_,rfl,l50,c50⟩,k50⟩
 have F51:Di K "post" "Yard.post" gJ IG _:=⟨⟨_,_,_,_,_,_,_,_,_,_,rfl,l51,c51⟩,k51⟩
 have L:lw K ⟨cN,cT,cR,cL⟩:=⟨⟨p1cL,p2cL,p3cL,p4cL⟩,ncLplaces,ncLlanes⟩
 have xT:gs K cT:=⟨x3cT,x4cT,x5cT,x6cT,x7cT⟩
 have xR:gs K cR:=⟨x3cR,x4cR,x5cR,x6cR,x7cR⟩
 have xE:gs K cE:=⟨x3cE,x4cE,x5cE,x6cE,x7cE⟩
 have xZ:gs K cZ:=⟨x3cZ,x4cZ,x5cZ,x6cZ,x7cZ⟩
 have Z:u0 K:=⟨kk1,kk2,kk3,kk4,kk5⟩
 have ZS:Lu K:=⟨kk6,kk7,kk8⟩
 have E:Exc K mg ⟨cN,cT,cR,cL⟩ Sj Sk _ _:=⟨(mg_of X G gcN),x1cN,x2cN,(mg_of X G gcT),x1cT,x2cT,xT,ncTmany,Tb.m.fn,Tb.F,Tb.b,(mg_of X G gcR),x1cR,x2cR,xR,ncRlane,Tc.m.fn,Tc.F,Tc.b⟩
 have B:PF K mg ⟨cB,cD,cE⟩ Mq Sn _ _:=⟨⟨p1cB,p2cB,p3cB,p4cB⟩,ncBland,⟨p1cD,p2cD,p3cD,p4cD⟩,ncDland,ncDentries,(mg_of X G gcB),⟨w1cB,w2cB,w3cB,MF.m.kp⟩,MF.b,(mg_of X G gcE),x1cE,x2cE,xE,ncErow,Td.m.fn,Td.F,Td.b⟩
 have BN:QV K mg ⟨cB,cO⟩ Mq _:=⟨⟨p1cO,p2cO,p3cO,p4cO⟩,ncOland,ncOentries,(mg_of X G gcB),⟨w1cB,w2cB,w3cB,MF.m.kp⟩,MF.b⟩
 have M:Ki K ⟨cN,cT,cR,cL⟩ Sh Si _ _:=⟨IH.m,II.m,IH.b,II.b⟩
 have ME:w8 K ⟨cN,cT,cR,cL⟩ NW _:=⟨MD.m,MD.b⟩
 have Y:∀ ex:List Addr,i7 K ⟨cJ,cA,cH,ex⟩:=fun _=>⟨⟨p1cJ,p2cJ,p3cJ,p4cJ⟩,ncJtable,ncJrooms,ncJlanes,ncJletters,ncJlies,ncJdone,⟨p1cH,p2cH,p3cH,p4cH⟩,ncHstart,ncHgoal,ncHlength,ncHword,ncHgone,ncHway,⟨⟨p1cA,p2cA,p3cA,p4cA⟩,ncArights,ncAreturning,ncAholder,ncApieces⟩⟩
 have eX:uG K mg "NoRooms" cM:=⟨(mg_of X G gcM),x1cM,x2cM⟩
 have X1:uG K mg "NoPlace" cP:=⟨(mg_of X G gcP),x1cP,x2cP⟩
 have X2:uG K mg "NoLength" cG:=⟨(mg_of X G gcG),x1cG,x2cG⟩
 have X3:uG K mg "NoWord" cW:=⟨(mg_of X G gcW),x1cW,x2cW⟩
 have X5:uG K mg "Full" cF:=⟨(mg_of X G gcF),x1cF,x2cF⟩
 have X4:UE K mg cZ So _:=⟨(mg_of X G gcZ),x1cZ,x2cZ,xZ,ncZstart,ncZgoal,Te.m.fn,Te.F,Te.b⟩
 have XM:Kp K mg cQ:=⟨(mg_of X G gcQ),x1cQ,x2cQ,eQ⟩
 have RN:=oB (kV:=M3) (doc:=M4) (pm:=M5) (cdv:=HR) (ct:=M6) (an:=Ms) d50 rfl
 have bp1:=mU (kV:=M7) (doc:=M8) (pm:=M9) (cdv:=HS) (ct:=MA) (an:=Mu) d51 rfl
 have Mi:Mk K cL Sg:=⟨p5cL,Oj.m.at_,Oj.m.fn,p6cL⟩
 have Mt:Mk K cD Sr:=⟨p5cD,Ol.m.at_,Ol.m.fn,p6cD⟩
 have Mn:Mk K cO Ss:=⟨p5cO,Om.m.at_,Om.m.fn,p6cO⟩
 have My:Mk K cJ HP:=⟨p5cJ,a50,i50,p6cJ⟩
 have Ma:Mk K cA Sv:=⟨p5cA,MG.m.at_,MG.m.fn,p6cA⟩
 have Mh:Mk K cH S0:=⟨p5cH,MH.m.at_,MH.m.fn,p6cH⟩
 have Ml:Lm K ⟨cN,cT,cR,cL⟩ W3 NW Sh Si _ _ _ _:=⟨Ta.m,Ta.b,MD.m,MD.b,IH.m,IH.b,II.m,II.b⟩
 refine⟨fnOf "law" "law" (bI kJ) (aJ kJ) (aj kJ) .none Mw Mx Mz Mr HQ M0,fun s v => .of_eq rfl,fun base _ _=>?_⟩
 have Gm:zb l.prog w K mg base aG 2 f2 _ _ _:=yf H2.F T H1.m H1.F H1.b
 obtain⟨fw,dw,WG⟩:=both (P:=fun b f d=>Wy K (TC ⟨cB,cD,cE⟩ ⟨cB,cO⟩ b) f d (JJ l.prog w ⟨cB,cD,cE⟩ ⟨cB,cO⟩ b)/\zb l.prog w K mg base aG 3 f d ["self", "place", "goal", "came"] (dX (JJ l.prog w ⟨cB,cD,cE⟩ ⟨cB,cO⟩ b)))
  ⟨⟨⟨p1cO,p2cO,p3cO,p4cO⟩,ncOland,Tg.m,Tg.b,fun H H' x n wy h k=>I0.keep (n:=n) (wy:=wy) h k⟩,sZ Tg.F BN H2.m H2.k H2.b Gm⟩ ⟨⟨⟨p1cD,p2cD,p3cD,p4cD⟩,ncDland,Tf.m,Tf.b,fun H H' x n wy h k=>BB.keep (n:=n) (wy:=wy) h k⟩,nj (tf Tf.F B H2.m H2.k H2.b Gm)⟩
 have Wb:=fun b=>(WG b).1
 have Gb:=fun b=>(WG b).2
 have Gw:zb l.prog w K mg base aG 2 f5 _ _ _:=qq H5.F T H4.m H4.F H4.b
 have TB:zb l.prog w K mg base aG 2 f5 _ _ _:=nQ H5.F T Z H4.m H4.F H4.b
 have GW:zb l.prog w K mg base aG 1 f4 _ _ _:=jL H4.F T Z
 have G2:zb l.prog w K mg base aG 3 f7 _ _ _:=xX H7.F H5.m H5.k H5.b Gw
 have Gi:zb l.prog w K mg base (eE l.prog w) 4 Sg _ _ _:=vD Oj.F T L E H5.m H5.k H5.b Gw H7.m H7.k H7.b G2 (mg_of X G mp) (mg_of X G ml)
 have Go:zb l.prog w K mg base aG 2 f6 _ _ _:=yc H6.F T H4.m H4.F H4.b
 have Gf:zb l.prog w K mg base aG 4 f8 _ _ _:=vH H8.F T L M H7.m H7.k H7.b G2 H6.m H6.k H6.b Go (tw IH.F T L) (py II.F T L)
 have G1:zb l.prog w K mg base aG 1 Mq _ _ _:=xY MF.F
 have WI:zb l.prog w K mg base aG 1 f3 _ _ _:=ya H3.F
 have Gt:zb l.prog w K mg base (eE l.prog w) 5 Sr _ _ _:=vq Ol.F T B G1 H8.m H8.k H8.b Gf H3.m H3.k H3.b WI
 have Ge:zb l.prog w K mg base aG 1 NW _ _ _:=yp MD.F L
 have Gh:zb l.prog w K mg base aG 2 Wo _ _ _:=yn NY.F T L Ml (tj Ta.F L) (py II.F T L)
 have Gnl:zb l.prog w K mg base aG 2 Wq _ _ _:=L8 NZ.F T L Ml Ge (tw IH.F T L)
 have Gn:zb l.prog w K mg base aG 3 Ss _ _ _:=v6 Om.F T L BN G1 NY.m NY.k NY.b Gh NZ.m NZ.k NZ.b Gnl H3.m H3.k H3.b WI
 have RM:zb l.prog w K mg base (eE l.prog w) 3 Wm _ _ _:=tu Dg.F T L eX H5.m H5.k H5.b TB (mg_of X G mr)
 have Qi:zb l.prog w K mg base aG 2 Nh _ _ _:=vo IF.F T H4.m H4.k H4.b GW
 have WJ:zb l.prog w K mg base aG 1 Sv _ _ _:=yk MG.F (Y []).L
 have Glt:zb l.prog w K mg base aG 1 W6 _ _ _:=yj H46.F T (Y []).L
 have TF:zb l.prog w K mg base aG 1 W4 _ _ _:=v5 HU.F (Y []).L
 have TH:zb l.prog w K mg base aG 1 W5 _ _ _:=tF HV.F (Y []).L
 have Gpu:zb l.prog w K mg base (eE l.prog w) 2 Sw _ _ _:=yb Ti.F (Y []).L XM HU.m HU.b TF
 have Gpl:zb l.prog w K mg base (eE l.prog w) 1 Sy _ _ _:=vv Tj.F (Y []).L XM
 have Gbr:zb l.prog w K mg base (eE l.prog w) 1 Sz _ _ _:=tI Tn.F (Y []).L XM
 have Gtw:zb l.prog w K mg base aG 3 W7 _ _ _:=yi To.F T (Y []).L (mg_of X G gcA) Ma MG.b WJ
 have WK:zb l.prog w K mg base aG 1 S0 _ _ _:=yh MH.F (Y [])
 have Gtx:zb l.prog w K mg base aG 3 W8 _ _ _:=yg Tp.F T (Y []) (mg_of X G gcH) Mh MH.b WK
 have Gy:∀ (b:Bool)(ex:List Addr),zb l.prog w K mg base (eE l.prog w) 4 HP _ _ _:=fun b ex=>xW F50 T L (Y ex) (Wb b) Dg.m Dg.k Dg.b RM (mg_of X G gcA) Ma MG.b WJ
 have Gp:∀ (b:Bool)(ex:List Addr),zb l.prog w K mg base (eE l.prog w) 4 IG _ _ (nu K ⟨cN,cT,cR,cL⟩ (TC ⟨cB,cD,cE⟩ ⟨cB,cO⟩ b) (JJ l.prog w ⟨cB,cD,cE⟩ ⟨cB,cO⟩ b) ⟨cJ,cA,cH,ex⟩ ⟨cP,cG,cW,cZ,cF⟩):=fun b ex=>vw F51 T L (Y ex) (Wb b) (Gb b) H5.m H5.k H5.b TB IF.m IF.k IF.b Qi (mg_of X G gcH) Mh MH.b WK (mg_of X G mh) (mg_of X G mk) X1 X2 X3 X4 X5
 have Gol:∀ ex:List Addr,zb l.prog w K mg base aG 4 S9 _ _ _:=fun ex=>vy T4.F (Y ex) To.m To.b Gtw
 have Got:∀ ex:List Addr,zb l.prog w K mg base aG 4 SA _ _ _:=fun ex=>vx T5.F (Y ex) Tp.m Tp.b Gtx
 have O:∀ ex:List Addr,Own l.prog w K mg base ⟨cJ,cA,cH,ex⟩ cQ S9 SA Sw _ _ _:=fun ex=>⟨T4.m,T4.b,Gol ex,T5.m,T5.b,Got ex,Ti.m,Ti.b,Gpu⟩
 have Gly:∀ ex:List Addr,zb l.prog w K mg base aG 1 S8 _ _ _:=fun ex=>yl T3.F (Y ex)
 have Glg:∀ ex:List Addr,zb l.prog w K mg base aG 1 WE _ _ _:=fun ex=>tD T8.F T (Y ex)
 have Gen:∀ ex:List Addr,zb l.prog w K mg base aG 5 S7 _ _ _:=fun ex=>tH MI.F (Y ex) (O ex)
 have Ggi:∀ ex:List Addr,zb l.prog w K mg base aG 6 S6 _ _ _:=fun ex=>vG T2.F (Y ex) (O ex) MI.m MI.b (Gen ex)
 have Gon:∀ b:Bool,zb l.prog w K mg base aG 4 f9 _ _ _:=fun b=>yd H9.F L (Wb b) (Gb b) ME Ge
 have Gmi:∀ (b:Bool)(ex:List Addr),zb l.prog w K mg base aG 4 S1 _ _ (n0 K ⟨cN,cT,cR,cL⟩ (TC ⟨cB,cD,cE⟩ ⟨cB,cO⟩ b) (JJ l.prog w ⟨cB,cD,cE⟩ ⟨cB,cO⟩ b) ⟨cJ,cA,cH,ex⟩):=fun b ex=>v8 Tr.F (Y ex) (Wb b) (Gb b) HU.m HU.b TF
 have Gwa:∀ (b:Bool)(ex:List Addr),zb l.prog w K mg base aG 5 WA _ _ (iY K ⟨cN,cT,cR,cL⟩ (TC ⟨cB,cD,cE⟩ ⟨cB,cO⟩ b) (JJ l.prog w ⟨cB,cD,cE⟩ ⟨cB,cO⟩ b) ⟨cJ,cA,cH,ex⟩):=fun b ex=>qr Tx.F (Y ex) (Wb b) HV.m HV.b TH H9.m H9.k H9.b (Gon b)
 have Gmo:∀ (b:Bool)(ex:List Addr),zb l.prog w K mg base aG 6 S2 _ _ (nv K ⟨cN,cT,cR,cL⟩ (TC ⟨cB,cD,cE⟩ ⟨cB,cO⟩ b) (JJ l.prog w ⟨cB,cD,cE⟩ ⟨cB,cO⟩ b) ⟨cJ,cA,cH,ex⟩):=fun b ex=>v7 Tt.F (Y ex) (Wb b) HV.m HV.b TH Tx.m Tx.b (Gwa b ex) HU.m HU.b TF
 have Gml:∀ (b:Bool)(ex:List Addr),zb l.prog w K mg base aG 2 S3 _ _ _:=fun b ex=>t7 Tv.F (Y ex) L (Wb b) HV.m HV.b TH ME Ge
 have Gmb:∀ (b:Bool)(ex:List Addr),zb l.prog w K mg base aG 1 S4 _ _ (iZ K ⟨cN,cT,cR,cL⟩ (TC ⟨cB,cD,cE⟩ ⟨cB,cO⟩ b) (JJ l.prog w ⟨cB,cD,cE⟩ ⟨cB,cO⟩ b) ⟨cJ,cA,cH,ex⟩):=fun b ex=>qt Tw.F (Y ex)
 have MM:∀ (b:Bool)(ex:List Addr),Q7 l.prog w K mg base ⟨cN,cT,cR,cL⟩ (TC ⟨cB,cD,cE⟩ ⟨cB,cO⟩ b) (JJ l.prog w ⟨cB,cD,cE⟩ ⟨cB,cO⟩ b) ⟨cJ,cA,cH,ex⟩ S1 S2 S3 S4 _ _ _ _:=fun b ex=>⟨Tr.m,Tr.b,Gmi b ex,Tt.m,Tt.b,Gmo b ex,Tv.m,Tv.b,Gml b ex,Tw.m,Tw.b,Gmb b ex⟩
 have Gms:∀ (b:Bool)(ex:List Addr),zb l.prog w K mg base aG 7 W9 _ _ _:=fun b ex=>t8 Tq.F T (Y ex) (Wb b) (MM b ex)
 have Gim:zb l.prog w K mg base aG 2 Wn _ _ _:=vC NX.F T ZS H4.m H4.k H4.b GW
 have Glk:∀ (b:Bool)(ex:List Addr),zb l.prog w K mg base aG 7 S5 _ _ _:=fun b ex=>vA Tz.F T (Y ex) (Wb b) (MM b ex) NX.m NX.k NX.b Gim H5.m H5.k H5.b TB
 have DM:∀ (b:Bool)(ex:List Addr),Vf l.prog w K mg base ⟨cN,cT,cR,cL⟩ (TC ⟨cB,cD,cE⟩ ⟨cB,cO⟩ b) (JJ l.prog w ⟨cB,cD,cE⟩ ⟨cB,cO⟩ b) ⟨cJ,cA,cH,ex⟩ cQ S5 S6 S7 Sy Sz S8 _ _ _ _ _ _:=fun b ex=>⟨Tz.m,Tz.b,Glk b ex,T2.m,T2.b,Ggi ex,MI.m,MI.b,Gen ex,Tj.m,Tj.b,Gpl,Tn.m,Tn.b,Gbr,T3.m,T3.b,Gly ex⟩
 have Gdo:∀ (b:Bool)(ex:List Addr),zb l.prog w K mg base (eE l.prog w) 8 WB _ _ _:=fun b ex=>Lw T1.F (Y ex) L (Wb b) XM (O ex) (DM b ex) ME Ge
 have TK:∀ ex:List Addr,zb l.prog w K mg base aG 1 WC _ _ _:=fun ex=>vB T6.F (Y ex)
 have Ghi:∀ ex:List Addr,zb l.prog w K mg base aG 1 WH _ _ _:=fun ex=>vE T9.F T (Y ex)
 have Gwt:∀ ex:List Addr,zb l.prog w K mg base aG 1 WD _ _ _:=fun ex=>vp T7.F T (Y ex)
 have Gc:zb l.prog w K mg base aG 1 Wr _ _ _:=vJ Ew.F T
 have MJ:zb l.prog w K mg base aG 1 Ws _ _ _:=ye C3.F
 have Gln:zb l.prog w K mg base aG 2 Wt _ _ _:=tE Oa.F T C3.m C3.k C3.b MJ
 have Grw:zb l.prog w K mg base aG 2 Wu _ _ _:=vt Ob.F T C3.m C3.k C3.b MJ
 have Gtb:zb l.prog w K mg base aG 7 Wv _ _ _:=v9 Oc.F ⟨Ew.m,Ew.k,Ew.b,Gc,Oa.m,Oa.k,Oa.b,Gln,(mg_of X G gcL),Mi,Oj.b,Gi,(mg_of X G gcO),Mn,Om.b,Gn,(mg_of X G gcD),Mt,Ol.b,Gt,Ob.m,Ob.k,Ob.b,Grw⟩
 have Gbe:∀ b:Bool,zb l.prog w K mg base aG 4 Ww _ _ _:=fun b=>tJ Od.F T L (Wb b) (Gb b)
 have Glr:∀ b:Bool,zb l.prog w K mg base aG 2 Wx _ _ _:=fun b=>qu Oe.F T L (Wb b) C3.m C3.k C3.b MJ
 have RO:∀ b:Bool,zb l.prog w K mg base aG 9 Wz _ _ _:=fun b=>vF Og.F T (Y []) (Wb b) Tq.m Tq.b (Gms b []) T1.m T1.b (Gdo b []) Ew.m Ew.k Ew.b Gc C3.m C3.k C3.b MJ
 have Gfi:zb l.prog w K mg base aG 2 W0 _ _ _:=tG Oh.F (Y []) T9.m T9.b (Ghi [])
 have Gri:zb l.prog w K mg base aG 2 W2 _ _ _:=qv Oi.F (Y []) T6.m T6.b (TK []) T8.m T8.b (Glg [])
 exact ym (c:=⟨cN,cT,cR,cL⟩) (ts:=⟨cB,cD,cE⟩) (tn:=⟨cB,cO⟩) (ys:=⟨cJ,cA,cH,[]⟩) (x:=⟨cP,cG,cW,cZ,cF⟩) (nr:=cM) F25 T (Y []) Wb ⟨Ew.m,Ew.k,Ew.b,Gc,C3.m,C3.k,C3.b,MJ,Oc.m,Oc.k,Oc.b,Gtb,Od.m,Od.k,Od.b,Gbe,Oe.m,Oe.k,Oe.b,Glr,(mg_of X G gcJ),My,RN,fun b=>Gy b [],⟨a51,i51,k51⟩,bp1,fun b=>Gp b [],Og.m,Og.k,Og.b,RO,Oh.m,Oh.k,Oh.b,Gfi,Oi.m,Oi.k,Oi.b,Gri,T7.m,T7.b,Gwt []⟩
end
theorem walk {l:PySem.W.OpenLaw}{q:Program}{loose:List Str}{XP:(Str->Option Value)->Heap->Prop}{YP:World->Heap->Prop}{d:DefRec}{K:Params->Frag}(hn:l.most=some 63)(Ju:d.params.defaults=[])
  (hY:∀ (w:World)(h:Heap),YP w h->(K w.params).In h)
  (F:∀ (w:World)(mg:Str->Option Value)(fa:Addr)(h:Heap),(K w.params).In h->h.Ns mainGlobals mg->mg d.name=some (.ref fa) ->
   ∃ fd:FuncData,(∀ (s:Shared)(u:Value),BindsTo s fd ⟨[u],[]⟩ [("_law_script",u)])/\∀ base:Heap,(K w.params).In base->base.Ns mainGlobals mg->zb l.prog w (K w.params) mg base aG 10 fa fd ["_law_script"] (oS (K w.params))) :
  PySem.W.WalkO q loose XP YP l.row.toRowW d [] (fun f vs=>PySem.call f vs) :=
 L2.E6 (n:=63) (k:=10) (x := "_law_script") (CX:=fun _=>aG) (sp:=fun w=>oS (K w.params)) hn (by decide) Ju ⟨rfl,by decide,by decide⟩ hY F (fun _ _ a ns hl _ hS=>⟨a,ns,rfl,hS,hl,fun _=>rfl⟩) fun _ _ _ _ _ z=>z
end K92
local macro_rules | `(tactic| symm_saturate) => `(tactic| first | (refine' K92.mkT (by assumption) (by assumption) ?b ?a ?l ?c ?k; (case b => first | exact fun _ _ _ _ _ _ => K92.len_of1 (fun _ => rfl) | exact fun _ _ _ _ _ _ => K92.len_of2 (fun _ _ => rfl) | exact fun _ _ _ _ _ _ => K92.len_of3 (fun _ _ _ => rfl) | exact fun _ _ _ _ _ _ => K92.len_of4 (fun _ _ _ _ => rfl) | exact fun _ _ _ _ _ _ => K92.len_of5 (fun _ _ _ _ _ => rfl)); (case a => k_is); (case l => k_is); (case c => k_is); (case k => k_is)) | (refine' K92.mkM ?b ?a ?l ?c ?k ?i; (case b => first | exact fun _ _ _ _ _ _ => K92.len_of1 (fun _ => rfl) | exact fun _ _ _ _ _ _ => K92.len_of2 (fun _ _ => rfl) | exact fun _ _ _ _ _ _ => K92.len_of3 (fun _ _ _ => rfl) | exact fun _ _ _ _ _ _ => K92.len_of4 (fun _ _ _ _ => rfl) | exact fun _ _ _ _ _ _ => K92.len_of5 (fun _ _ _ _ _ => rfl)); (case a => k_is); (case l => k_is); (case c => k_is); (case k => k_is); (case i => k_is)))
namespace PySem.W.Fast
theorem tw8192104250121974931:1=1:=rfl
theorem tw12534526591704122376:1=1:=rfl
theorem tw10313890630662279216:1=1:=rfl
theorem tw10149276500288400926:1=1:=rfl
theorem tw1600932800732201690:1=1:=rfl
theorem tw16435448132860471731:1=1:=rfl
theorem tw3186939524152345294:1=1:=rfl
theorem tw7303047348067360857:1=1:=rfl
theorem tw17904782190268183189:1=1:=rfl
theorem tw8089038915563187071:1=1:=rfl
theorem tw3094506665034414132:1=1:=rfl
theorem tw13025448107096185957:1=1:=rfl
theorem tw11443835059522205871:1=1:=rfl
theorem tw8867538823927368444:1=1:=rfl
theorem tw3901110427197782716:1=1:=rfl
theorem tw6140596954480147920:1=1:=rfl
theorem tw4286280934468889163:1=1:=rfl
theorem tw7024707377065525547:1=1:=rfl
theorem tw2217099098901264406:1=1:=rfl
theorem tw1492801633952074141:1=1:=rfl
theorem tw13661261149312539402:1=1:=rfl
theorem tw7211041821424495728:1=1:=rfl
theorem tw14982358657336120674:1=1:=rfl
theorem tw18128784168425909757:1=1:=rfl
theorem tw12427206609777647747:1=1:=rfl
theorem tw10412694177169936826:1=1:=rfl
theorem tw18160059496995687488:1=1:=rfl
theorem tw17190198155281520616:1=1:=rfl
theorem tw4687941539162838201:1=1:=rfl
theorem tw12706613644197773964:1=1:=rfl
theorem tw1445820028426243127:1=1:=rfl
theorem tw1778764718056883079:1=1:=rfl
theorem tw10218552242646073626:1=1:=rfl
theorem tw5258794713963092082:1=1:=rfl
theorem tw12205408007233693206:1=1:=rfl
theorem tw17456659912655577448:1=1:=rfl
theorem tw6167939009643033624:1=1:=rfl
theorem tw6018398639732803696:1=1:=rfl
theorem tw657409019505918791:1=1:=rfl
theorem tw11166465638772474464:1=1:=rfl
theorem tw4748961257453674617:1=1:=rfl
theorem tw7744284734139773513:1=1:=rfl
theorem tw13508857318179978511:1=1:=rfl
theorem tw8835967392946572927:1=1:=rfl
theorem tw13501967169702257277:1=1:=rfl
theorem tw13683643289607276137:1=1:=rfl
theorem tw6078442918322767245:1=1:=rfl
theorem tw9496597806124384997:1=1:=rfl
theorem tw8772356444771610153:1=1:=rfl
theorem tw14818677234068181082:1=1:=rfl
theorem tw12984551970545825387:1=1:=rfl
theorem tw12429550821243402402:1=1:=rfl
theorem tw261989245741193709:1=1:=rfl
theorem tw16110138414938076920:1=1:=rfl
theorem tw8617811210100407841:1=1:=rfl
theorem tw3432059676206044761:1=1:=rfl
theorem tw6671385521388870554:1=1:=rfl
theorem tw14107835151156157833:1=1:=rfl
theorem tw17789084615993051717:1=1:=rfl
theorem tw15453818727930037416:1=1:=rfl
theorem tw11662743413945817224:1=1:=rfl
theorem tw9702076804362166336:1=1:=rfl
theorem tw7719986416750142898:1=1:=rfl
theorem tw3503214024818207995:1=1:=rfl
theorem tw16146698866060044308:1=1:=rfl
theorem tw7869449558864554457:1=1:=rfl
theorem tw4467452585695780202:1=1:=rfl
theorem tw3481661697738846588:1=1:=rfl
theorem tw14438363911586511621:1=1:=rfl
theorem tw1531742845606142232:1=1:=rfl
theorem tw7863842435227426423:1=1:=rfl
theorem tw17910758172610428030:1=1:=rfl
theorem tw3397299433222879805:1=1:=rfl
theorem tw10201813327500001829:1=1:=rfl
theorem tw8124827209261508384:1=1:=rfl
theorem tw15694069328094924671:1=1:=rfl
theorem tw8904722070931358177:1=1:=rfl
theorem tw2808839604661430103:1=1:=rfl
theorem tw16122907781933253632:1=1:=rfl
theorem tw13291052323034349304:1=1:=rfl
theorem tw11497682967235396294:1=1:=rfl
theorem tw9048779836811839966:1=1:=rfl
theorem tw14687177926985396728:1=1:=rfl
theorem tw7412726278220850701:1=1:=rfl
theorem tw15614517381947298930:1=1:=rfl
theorem tw14996259779646845285:1=1:=rfl
theorem tw3235502523968214476:1=1:=rfl
theorem tw12190657543466671313:1=1:=rfl
theorem tw7233126105075896451:1=1:=rfl
theorem tw17472359881238865074:1=1:=rfl
theorem tw9337284462982896799:1=1:=rfl
theorem tw16595386434198392801:1=1:=rfl
theorem tw9957982784739561371:1=1:=rfl
theorem tw7452160748961986390:1=1:=rfl
theorem tw6618554918872977930:1=1:=rfl
theorem tw687311716320551483:1=1:=rfl
theorem tw3971974266404406261:1=1:=rfl
theorem tw8075109796719898802:1=1:=rfl
theorem tw5019513656797145887:1=1:=rfl
theorem tw274096273929081032:1=1:=rfl
theorem tw15987215805969685198:1=1:=rfl
theorem tw10413725112367699009:1=1:=rfl
theorem tw16037725085632579832:1=1:=rfl
theorem tw8162319606176423347:1=1:=rfl
theorem tw8414675988207735752:1=1:=rfl
theorem tw4856575871887841340:1=1:=rfl
theorem tw349552078641130584:1=1:=rfl
theorem tw10881156064135042006:1=1:=rfl
theorem tw9646887159420146839:1=1:=rfl
theorem tw7616478219932103371:1=1:=rfl
theorem tw14058341746015641024:1=1:=rfl
theorem tw1246025373614843393:1=1:=rfl
theorem tw14465886855941448043:1=1:=rfl
theorem tw1895082731348312302:1=1:=rfl
theorem tw10603564413524250644:1=1:=rfl
theorem tw12640120228246943551:1=1:=rfl
theorem tw3872713347825578354:1=1:=rfl
theorem tw13792163659290448475:1=1:=rfl
theorem tw2872586783130833646:1=1:=rfl
theorem tw2634347571044999550:1=1:=rfl
theorem tw14644732161870411713:1=1:=rfl
theorem tw10618862368863274427:1=1:=rfl
theorem tw10367252012564578058:1=1:=rfl
theorem tw3253882558972132879:1=1:=rfl
theorem tw16332208094239469795:1=1:=rfl
theorem tw17577316309024479416:1=1:=rfl
theorem tw12463959560703714061:1=1:=rfl
theorem tw14911804400619100489:1=1:=rfl
theorem tw13038341962544198767:1=1:=rfl
theorem tw9657508723907606863:1=1:=rfl
theorem tw137164873069155645:1=1:=rfl
theorem tw10451044513016844743:1=1:=rfl
theorem tw2544446187376184391:1=1:=rfl
theorem tw15012653241403731939:1=1:=rfl
theorem tw998449926458208513:1=1:=rfl
theorem tw2480766841459914606:1=1:=rfl
theorem tw7383485451893433911:1=1:=rfl
theorem tw3615240722273039900:1=1:=rfl
theorem tw16138554562884457255:1=1:=rfl
theorem tw126986299858395054:1=1:=rfl
theorem tw11729829519905012042:1=1:=rfl
theorem tw6240847830015270805:1=1:=rfl
theorem tw15991536382640532922:1=1:=rfl
theorem tw8337144173107865064:1=1:=rfl
theorem tw2030290364259985858:1=1:=rfl
theorem tw15537687591796418833:1=1:=rfl
theorem tw14683470139014442351:1=1:=rfl
theorem tw3567462795933145057:1=1:=rfl
theorem tw6103424020059175942:1=1:=rfl
theorem tw5202166799311060108:1=1:=rfl
theorem tw9820845918652215182:1=1:=rfl
theorem tw15738602783564969148:1=1:=rfl
theorem tw5670697968966279531:1=1:=rfl
theorem tw8621670418178766304:1=1:=rfl
theorem tw9566144059795978270:1=1:=rfl
theorem tw13510683221862971394:1=1:=rfl
theorem tw4363598493541865054:1=1:=rfl
theorem tw18023208492162277734:1=1:=rfl
theorem tw10752884387057965822:1=1:=rfl
theorem tw33644219718393544:1=1:=rfl
theorem tw12184950295366883569:1=1:=rfl
theorem tw1953681647131771130:1=1:=rfl
theorem tw14911592992146760274:1=1:=rfl
theorem tw13075242998469885677:1=1:=rfl
theorem tw8327307333162253013:1=1:=rfl
theorem tw1434274006364703323:1=1:=rfl
theorem tw3660864826188607578:1=1:=rfl
theorem tw6844889320977147535:1=1:=rfl
theorem tw3531083668201447785:1=1:=rfl
theorem tw1651634662815700654:1=1:=rfl
theorem tw9077000959097643633:1=1:=rfl
theorem tw13827879453396967613:1=1:=rfl
theorem tw6022293177215493373:1=1:=rfl
theorem tw5717747977130906115:1=1:=rfl
theorem tw9477311599893970783:1=1:=rfl
theorem tw17360272808170457588:1=1:=rfl
theorem tw13045141662769227449:1=1:=rfl
theorem tw3313751333800969968:1=1:=rfl
theorem tw2261012797159673194:1=1:=rfl
theorem tw4486710734788141982:1=1:=rfl
theorem tw17790962527973849521:1=1:=rfl
theorem tw590025663592747619:1=1:=rfl
theorem tw1727304486167031354:1=1:=rfl
theorem tw5162778353333634993:1=1:=rfl
theorem tw17279447021985456867:1=1:=rfl
theorem tw2284972586046329988:1=1:=rfl
theorem tw7284077332209897314:1=1:=rfl
theorem tw16986796261134999759:1=1:=rfl
theorem tw9462032679845609233:1=1:=rfl
theorem tw11472132205086605916:1=1:=rfl
theorem tw7565847231367324390:1=1:=rfl
theorem tw4980882436141588945:1=1:=rfl
theorem tw1307078060469443534:1=1:=rfl
theorem tw310758345240178737:1=1:=rfl
theorem tw12984941713707265810:1=1:=rfl
theorem tw15908576098413592918:1=1:=rfl
theorem tw5005811142067160276:1=1:=rfl
theorem tw8329536386448556985:1=1:=rfl
theorem tw9526258788330716313:1=1:=rfl
theorem tw12037871126844364893:1=1:=rfl
theorem tw8231061360316426148:1=1:=rfl
theorem tw6195700843848726053:1=1:=rfl
theorem tw15960375695638696716:1=1:=rfl
theorem tw3886921846308056987:1=1:=rfl
theorem tw13245587695266896255:1=1:=rfl
theorem tw13750232949893778868:1=1:=rfl
theorem tw9057311413878371161:1=1:=rfl
theorem tw2513492456784099133:1=1:=rfl
theorem tw6096992399094632277:1=1:=rfl
theorem tw1879744997944135844:1=1:=rfl
theorem tw1373216408163623753:1=1:=rfl
theorem tw17932932443320273710:1=1:=rfl
theorem tw4078969103679222572:1=1:=rfl
theorem tw3204353145713454676:1=1:=rfl
theorem tw12488547819670467315:1=1:=rfl
theorem tw17192249628030978698:1=1:=rfl
theorem tw6167646866165662367:1=1:=rfl
theorem tw3800169468095093436:1=1:=rfl
theorem tw13208387125703842960:1=1:=rfl
theorem tw8104973216989886334:1=1:=rfl
theorem tw8791552438680807663:1=1:=rfl
theorem tw829683814425523456:1=1:=rfl
theorem tw17883377726634881985:1=1:=rfl
theorem tw9667657633445695714:1=1:=rfl
theorem tw4384651582479991495:1=1:=rfl
theorem tw3598354042213675256:1=1:=rfl
theorem tw16424882465862498486:1=1:=rfl
theorem tw16753035624964181946:1=1:=rfl
theorem tw9840329440752506902:1=1:=rfl
theorem tw2547433032168777518:1=1:=rfl
theorem tw10743670405432179690:1=1:=rfl
theorem tw7713147112216850866:1=1:=rfl
theorem tw5129269085775341718:1=1:=rfl
theorem tw16503604232113032769:1=1:=rfl
theorem tw15628714566112944259:1=1:=rfl
theorem tw3563489479453003036:1=1:=rfl
theorem tw7555452758532759037:1=1:=rfl
theorem tw8158347531885735661:1=1:=rfl
theorem tw18302724696843270752:1=1:=rfl
theorem tw5979941121144165912:1=1:=rfl
theorem tw13459228829581255904:1=1:=rfl
theorem tw13852772309194521539:1=1:=rfl
theorem tw7540624716813312799:1=1:=rfl
theorem tw17862805957379806339:1=1:=rfl
theorem tw6952270436419847513:1=1:=rfl
theorem tw3816324014996567018:1=1:=rfl
theorem tw2431259862384686818:1=1:=rfl
theorem tw920461739318813961:1=1:=rfl
theorem tw7250849277462567784:1=1:=rfl
theorem tw3197893867427300458:1=1:=rfl
theorem tw10785701282192004211:1=1:=rfl
theorem tw8016124631145098156:1=1:=rfl
theorem tw351102646166169222:1=1:=rfl
theorem tw2495649856243414627:1=1:=rfl
theorem tw18125666187572194411:1=1:=rfl
theorem tw8180871190529683036:1=1:=rfl
theorem tw4584579453667114457:1=1:=rfl
theorem tw13538642872798323633:1=1:=rfl
theorem tw13953114405728775311:1=1:=rfl
theorem tw8876002601447032475:1=1:=rfl
theorem tw14406975323602700926:1=1:=rfl
theorem tw3825739435118898839:1=1:=rfl
theorem tw15355832857651885210:1=1:=rfl
theorem tw16879213692624255088:1=1:=rfl
theorem tw652912364811027302:1=1:=rfl
theorem tw8167254286409091076:1=1:=rfl
theorem tw5043964843667352381:1=1:=rfl
theorem tw5815289070392233401:1=1:=rfl
theorem tw15842962278348974754:1=1:=rfl
theorem tw14353192802457168451:1=1:=rfl
theorem tw4210116716850870301:1=1:=rfl
theorem tw1647941400623936024:1=1:=rfl
theorem tw6410895719824679929:1=1:=rfl
theorem tw16415063935137373441:1=1:=rfl
theorem tw13029492050125418054:1=1:=rfl
theorem tw11390477996368341217:1=1:=rfl
theorem tw10237628186301141969:1=1:=rfl
theorem tw10094411871013572:1=1:=rfl
theorem tw14535163271231239156:1=1:=rfl
theorem tw6241169180453904522:1=1:=rfl
theorem tw1966700282396008128:1=1:=rfl
theorem tw7686591928758030918:1=1:=rfl
theorem tw7743147648364980564:1=1:=rfl
theorem tw5703690320124426042:1=1:=rfl
theorem tw10843802529238308399:1=1:=rfl
theorem tw8688693279823604594:1=1:=rfl
theorem tw16708164266714904867:1=1:=rfl
theorem tw11052647879755013079:1=1:=rfl
theorem tw13171999758884886205:1=1:=rfl
theorem tw2826815510997347171:1=1:=rfl
theorem tw14279720353607349272:1=1:=rfl
theorem tw630681066862935753:1=1:=rfl
theorem tw592013761678235239:1=1:=rfl
theorem tw7621927917364284843:1=1:=rfl
theorem tw734307188878686031:1=1:=rfl
theorem tw4160316009782820702:1=1:=rfl
theorem tw4181036687802911694:1=1:=rfl
theorem tw598159864612515031:1=1:=rfl
theorem tw17533474222487196291:1=1:=rfl
theorem tw7131374663549924132:1=1:=rfl
theorem tw15974879561369799798:1=1:=rfl
theorem tw2625645046687436128:1=1:=rfl
theorem tw4737648394620441023:1=1:=rfl
theorem tw16650724806669511755:1=1:=rfl
theorem tw13933351854097577344:1=1:=rfl
theorem tw23450271328405785:1=1:=rfl
theorem tw8955467021856581639:1=1:=rfl
theorem tw7195201072765476237:1=1:=rfl
theorem tw16753998710971893231:1=1:=rfl
theorem tw16355262975296450863:1=1:=rfl
theorem tw7080328828416407519:1=1:=rfl
theorem tw1287704996482705774:1=1:=rfl
theorem tw3388469816734161295:1=1:=rfl
theorem tw9611089339884612409:1=1:=rfl
theorem tw6808957745414213320:1=1:=rfl
theorem tw17048330431228117254:1=1:=rfl
theorem tw11370709182105887648:1=1:=rfl
theorem tw17376302122933848379:1=1:=rfl
theorem tw12452423130255033671:1=1:=rfl
theorem tw5520598787939770811:1=1:=rfl
theorem tw12578412111315454896:1=1:=rfl
theorem tw11194944673761921130:1=1:=rfl
theorem tw2834641120296602297:1=1:=rfl
theorem tw7660249559449630572:1=1:=rfl
theorem tw9487125169053243052:1=1:=rfl
theorem tw8146961434295499917:1=1:=rfl
theorem tw17774221678826729689:1=1:=rfl
theorem tw17102640991547126057:1=1:=rfl
theorem tw12710328562944848984:1=1:=rfl
theorem tw12544098378880335748:1=1:=rfl
theorem tw14512998217162002721:1=1:=rfl
theorem tw9415669278590156532:1=1:=rfl
theorem tw14447082320667471772:1=1:=rfl
theorem tw11150829953768948282:1=1:=rfl
theorem tw8684926420373856411:1=1:=rfl
theorem tw7790957249022759358:1=1:=rfl
theorem tw4896186731710294376:1=1:=rfl
theorem tw1805596436786780785:1=1:=rfl
theorem tw1056884008431508670:1=1:=rfl
theorem tw8507450823224241641:1=1:=rfl
theorem tw9833218937143221939:1=1:=rfl
theorem tw8876048089764611897:1=1:=rfl
theorem tw2556334640917214821:1=1:=rfl
theorem tw14630820378797349088:1=1:=rfl
theorem tw10138264534018120532:1=1:=rfl
theorem tw9135570380613330741:1=1:=rfl
theorem tw8308773989900060209:1=1:=rfl
theorem tw4004903514389778271:1=1:=rfl
theorem tw15010481292907066028:1=1:=rfl
theorem tw14939380715771766132:1=1:=rfl
theorem tw7454139551822024714:1=1:=rfl
theorem tw5594200518097004986:1=1:=rfl
theorem tw5243406692140990118:1=1:=rfl
theorem tw4937579340325588699:1=1:=rfl
theorem tw12796528002457007886:1=1:=rfl
theorem tw8546672607639190326:1=1:=rfl
theorem tw576008725485553769:1=1:=rfl
theorem tw7241591858196005684:1=1:=rfl
theorem tw15143842638596809135:1=1:=rfl
theorem tw14298701659770538521:1=1:=rfl
theorem tw11827770338558289768:1=1:=rfl
theorem tw3685962962590318452:1=1:=rfl
theorem tw7176061783966382580:1=1:=rfl
theorem tw8119369310320188338:1=1:=rfl
theorem tw4083365884625611979:1=1:=rfl
theorem tw13642000275781862908:1=1:=rfl
theorem tw16492231528155863153:1=1:=rfl
theorem tw12369453834688324261:1=1:=rfl
theorem tw8491523454371036347:1=1:=rfl
theorem tw10261101226652659936:1=1:=rfl
theorem tw13355426319550758499:1=1:=rfl
theorem tw2377009862555288559:1=1:=rfl
theorem tw11493727977453907785:1=1:=rfl
theorem tw5645076865548671631:1=1:=rfl
theorem tw5464846965670070545:1=1:=rfl
theorem tw1286996317402590096:1=1:=rfl
theorem tw16409891458277090952:1=1:=rfl
theorem tw8768039594198139074:1=1:=rfl
theorem tw4999299474131043107:1=1:=rfl
theorem tw17575140406033524145:1=1:=rfl
theorem tw8229129248356257039:1=1:=rfl
theorem tw9682011121208706553:1=1:=rfl
theorem tw331793763769848948:1=1:=rfl
theorem tw14495631109735564052:1=1:=rfl
theorem tw4427145478329958543:1=1:=rfl
theorem tw11875668026479339413:1=1:=rfl
theorem tw10073904994287130135:1=1:=rfl
theorem tw1192488389480831964:1=1:=rfl
theorem tw6418888206903386215:1=1:=rfl
theorem tw16931603917435272621:1=1:=rfl
theorem tw15754893660415879192:1=1:=rfl
theorem tw3410975048455425372:1=1:=rfl
theorem tw4470357914912500602:1=1:=rfl
theorem tw4067044984081356805:1=1:=rfl
theorem tw13887190170626159252:1=1:=rfl
theorem tw2738958358647699481:1=1:=rfl
theorem tw1542298677030974884:1=1:=rfl
theorem tw3437049322361827352:1=1:=rfl
theorem tw585247917734189405:1=1:=rfl
theorem tw9053479460777016948:1=1:=rfl
theorem tw16254222679842287941:1=1:=rfl
theorem tw585214680048111485:1=1:=rfl
theorem tw13289050914724006390:1=1:=rfl
theorem tw176954355111674264:1=1:=rfl
theorem tw16075147409848059429:1=1:=rfl
theorem tw7168144734411213984:1=1:=rfl
theorem tw9532307699729916797:1=1:=rfl
theorem tw4449136496521696009:1=1:=rfl
theorem tw9350226614941645856:1=1:=rfl
theorem tw662505724634616759:1=1:=rfl
theorem tw1940847059106251898:1=1:=rfl
theorem tw17072929400105770491:1=1:=rfl
theorem tw2341213778844742613:1=1:=rfl
theorem tw101231177253970138:1=1:=rfl
theorem tw7229006334200872168:1=1:=rfl
theorem tw2803648477169667875:1=1:=rfl
theorem tw1337950832801798436:1=1:=rfl
theorem tw11689825558987295465:1=1:=rfl
theorem tw13122911233859927656:1=1:=rfl
theorem tw7263173602372204642:1=1:=rfl
theorem tw9825324169793068349:1=1:=rfl
theorem tw8726583224259729303:1=1:=rfl
theorem tw5691208961957343819:1=1:=rfl
theorem tw15049276689014464594:1=1:=rfl
theorem tw12350245343615549818:1=1:=rfl
theorem tw12114197521397365349:1=1:=rfl
theorem tw2385274769667792511:1=1:=rfl
theorem tw6062321797565390472:1=1:=rfl
theorem tw12600889293894877214:1=1:=rfl
theorem tw12019880966485310937:1=1:=rfl
theorem tw10181149182630017519:1=1:=rfl
theorem tw5665866255309482077:1=1:=rfl
theorem tw4740189005833430027:1=1:=rfl
theorem tw3787663758346344797:1=1:=rfl
theorem tw3491403206390975930:1=1:=rfl
theorem tw14845015077405141468:1=1:=rfl
theorem tw14554517872634396961:1=1:=rfl
theorem tw6943587638091595851:1=1:=rfl
theorem tw4731443621249593539:1=1:=rfl
theorem tw3836059005073844355:1=1:=rfl
theorem tw1521021200817611040:1=1:=rfl
theorem tw14658400713998569192:1=1:=rfl
theorem tw7790406616446802141:1=1:=rfl
theorem tw3682426039203301186:1=1:=rfl
theorem tw13403659991445886093:1=1:=rfl
theorem tw12380611460863957821:1=1:=rfl
theorem tw4258741303534990851:1=1:=rfl
theorem tw8548081029711612788:1=1:=rfl
theorem tw7459260433173280140:1=1:=rfl
theorem tw10114375624627425010:1=1:=rfl
theorem tw11875152217842526414:1=1:=rfl
theorem tw2810505554104352256:1=1:=rfl
theorem tw2110633273439533977:1=1:=rfl
theorem tw13405388778565584482:1=1:=rfl
theorem tw7904702961038160409:1=1:=rfl
theorem tw1868642622524310665:1=1:=rfl
theorem tw780398059259421421:1=1:=rfl
theorem tw7420886278020574085:1=1:=rfl
theorem tw4240687424969029884:1=1:=rfl
theorem tw3834143012963989249:1=1:=rfl
theorem tw13657979939209905436:1=1:=rfl
theorem tw9398306837233698331:1=1:=rfl
theorem tw2687103567688705506:1=1:=rfl
theorem tw18036104787909641004:1=1:=rfl
theorem tw18383118005785636116:1=1:=rfl
theorem tw17719237866280992980:1=1:=rfl
theorem tw9480633839928060125:1=1:=rfl
theorem tw12433240805490788919:1=1:=rfl
theorem tw14709698748565111391:1=1:=rfl
theorem tw14540390296717480993:1=1:=rfl
theorem tw9814092402530845103:1=1:=rfl
theorem tw8396326947028114949:1=1:=rfl
theorem tw6388354217659904462:1=1:=rfl
theorem tw585154435819653152:1=1:=rfl
theorem tw13745904266976820268:1=1:=rfl
theorem tw10868735226771637258:1=1:=rfl
theorem tw17029634796105021296:1=1:=rfl
theorem tw8138773709693489269:1=1:=rfl
theorem tw10285550365710974139:1=1:=rfl
theorem tw15349358532340300367:1=1:=rfl
theorem tw10678133885568379633:1=1:=rfl
theorem tw6052048149951933440:1=1:=rfl
theorem tw11958348077338676767:1=1:=rfl
theorem tw9848652006789473400:1=1:=rfl
theorem tw8655940301515373900:1=1:=rfl
theorem tw6121607089692119149:1=1:=rfl
theorem tw5586665150843863945:1=1:=rfl
theorem tw3814184410990773312:1=1:=rfl
theorem tw3318310211596531273:1=1:=rfl
theorem tw17122839319464266180:1=1:=rfl
theorem tw1643545611909776662:1=1:=rfl
theorem tw14726191265576566252:1=1:=rfl
theorem tw1328004763266317935:1=1:=rfl
theorem tw5638761783976813258:1=1:=rfl
theorem tw17796138041648721511:1=1:=rfl
theorem tw1507420849840131143:1=1:=rfl
theorem tw1357227704977040841:1=1:=rfl
theorem tw7324667050018511667:1=1:=rfl
theorem tw7000877076212961046:1=1:=rfl
theorem tw8867451082230991950:1=1:=rfl
theorem tw6550865933544434295:1=1:=rfl
theorem tw16130839992553448923:1=1:=rfl
theorem tw10906985300367123018:1=1:=rfl
theorem tw7901956887579480720:1=1:=rfl
theorem tw5323952831988589344:1=1:=rfl
theorem tw12979134358860297447:1=1:=rfl
theorem tw9538726541584253293:1=1:=rfl
theorem tw18350313010603836572:1=1:=rfl
theorem tw13099853813866501667:1=1:=rfl
theorem tw1298872076980799353:1=1:=rfl
theorem tw12882701381723871670:1=1:=rfl
theorem tw12488034806168320832:1=1:=rfl
theorem tw17976132095615307394:1=1:=rfl
theorem tw884217325171304520:1=1:=rfl
theorem tw4265620730347136220:1=1:=rfl
theorem tw18354857334406417653:1=1:=rfl
theorem tw1729991782861787670:1=1:=rfl
theorem tw15949174353498043557:1=1:=rfl
theorem tw12466687109872417927:1=1:=rfl
theorem tw11006004488235433537:1=1:=rfl
theorem tw8173083130076487898:1=1:=rfl
theorem tw3720914031628183888:1=1:=rfl
theorem tw3496281281251464704:1=1:=rfl
theorem tw16245917396315226300:1=1:=rfl
theorem tw10965752780374635292:1=1:=rfl
theorem tw9264455312789033536:1=1:=rfl
theorem tw7490691827077417247:1=1:=rfl
theorem tw6304209648325216879:1=1:=rfl
theorem tw6163836803556298750:1=1:=rfl
theorem tw4597450358237254426:1=1:=rfl
theorem tw3075043772921007634:1=1:=rfl
theorem tw15331885845853418809:1=1:=rfl
theorem tw13683542113270533507:1=1:=rfl
theorem tw1275864984845172055:1=1:=rfl
theorem tw12718646631100755185:1=1:=rfl
theorem tw10697848125131156177:1=1:=rfl
theorem tw18309594730948612882:1=1:=rfl
theorem tw4760366522681057710:1=1:=rfl
theorem tw14025611296728993548:1=1:=rfl
theorem tw8952704378948649541:1=1:=rfl
theorem tw8916682374170759689:1=1:=rfl
theorem tw7417695462575883207:1=1:=rfl
theorem tw7282006363527680354:1=1:=rfl
theorem tw6225863307740325359:1=1:=rfl
theorem tw5908684125120497945:1=1:=rfl
theorem tw4353356120623362760:1=1:=rfl
theorem tw4310966365198740548:1=1:=rfl
theorem tw2807274508871230264:1=1:=rfl
theorem tw19594206135973104:1=1:=rfl
theorem tw1751340128541360142:1=1:=rfl
theorem tw15613494109202232615:1=1:=rfl
theorem tw15602687599308186497:1=1:=rfl
theorem tw15512423501486411380:1=1:=rfl
theorem tw14040153290722475095:1=1:=rfl
theorem tw13589958645071385495:1=1:=rfl
theorem tw12457834837067251184:1=1:=rfl
theorem tw12097607237212525757:1=1:=rfl
theorem tw11822268823781990742:1=1:=rfl
theorem tw10078616547273854105:1=1:=rfl
theorem tw9233127798589574515:1=1:=rfl
theorem tw9119576621757591440:1=1:=rfl
theorem tw8973481511773220145:1=1:=rfl
theorem tw8300468753789405493:1=1:=rfl
theorem tw8171626728204027654:1=1:=rfl
theorem tw7224086160384724863:1=1:=rfl
theorem tw501690848840680815:1=1:=rfl
theorem tw3734519188859812601:1=1:=rfl
theorem tw3579008068978702195:1=1:=rfl
theorem tw2892764354529502639:1=1:=rfl
theorem tw2260853226418751679:1=1:=rfl
theorem tw16417852427027417450:1=1:=rfl
theorem tw15984404902762062519:1=1:=rfl
theorem tw15951776280973980291:1=1:=rfl
theorem tw1409961562407744173:1=1:=rfl
theorem tw13118923556553431398:1=1:=rfl
theorem tw12249887735984131130:1=1:=rfl
theorem tw11612881316002777708:1=1:=rfl
theorem tw10871959868537527876:1=1:=rfl
theorem tw17348126637442427226:1=1:=rfl
theorem tw14533832605929843777:1=1:=rfl
theorem tw13695656662767907562:1=1:=rfl
theorem tw9863738068195959132:1=1:=rfl
theorem tw8495848360883471788:1=1:=rfl
theorem tw8441312722244130761:1=1:=rfl
theorem tw8109524828482899560:1=1:=rfl
theorem tw6489739282289154788:1=1:=rfl
theorem tw6027396218777696388:1=1:=rfl
theorem tw3585603188674210949:1=1:=rfl
theorem tw2063246918236380515:1=1:=rfl
theorem tw1968033510060795111:1=1:=rfl
theorem tw17888970173786734472:1=1:=rfl
theorem tw16598222607227657190:1=1:=rfl
theorem tw14577800035373219699:1=1:=rfl
theorem tw14145026129498414310:1=1:=rfl
theorem tw9788219877338002836:1=1:=rfl
theorem tw8185054899176785272:1=1:=rfl
theorem tw571748876778009024:1=1:=rfl
theorem tw5303657783551524034:1=1:=rfl
theorem tw5252544217806454794:1=1:=rfl
theorem tw3501179774491889320:1=1:=rfl
theorem tw2812527441504965756:1=1:=rfl
theorem tw2394413077376522895:1=1:=rfl
theorem tw18434617767622280546:1=1:=rfl
theorem tw18302387617090573623:1=1:=rfl
theorem tw18237225256707848149:1=1:=rfl
theorem tw17134696002148898076:1=1:=rfl
theorem tw16761696068515415946:1=1:=rfl
theorem tw13882366566067566760:1=1:=rfl
theorem tw11755112791783171002:1=1:=rfl
theorem tw11707003283921878653:1=1:=rfl
theorem tw11176221887742099972:1=1:=rfl
theorem tw10509132213390829130:1=1:=rfl
theorem tw10423221169305783390:1=1:=rfl
theorem tw8573372391406721093:1=1:=rfl
theorem tw8483979514139494119:1=1:=rfl
theorem tw9672410084256498608:1=1:=rfl
theorem tw9613659784395363055:1=1:=rfl
theorem tw9602049815091769546:1=1:=rfl
theorem tw9521310167191873743:1=1:=rfl
theorem tw9512749015627152744:1=1:=rfl
theorem tw9402125698187936820:1=1:=rfl
theorem tw9397061220555818702:1=1:=rfl
theorem tw9362261359585877138:1=1:=rfl
theorem tw9224086039290313390:1=1:=rfl
theorem tw9113347246270040926:1=1:=rfl
theorem tw8889219941820692557:1=1:=rfl
theorem tw8831858317406945107:1=1:=rfl
theorem tw8615957400272985109:1=1:=rfl
theorem tw858363051685474984:1=1:=rfl
theorem tw8562814934699106212:1=1:=rfl
theorem tw8538766081809557080:1=1:=rfl
theorem tw8528570084813260755:1=1:=rfl
theorem tw8524630946626845013:1=1:=rfl
theorem tw8411417845690021883:1=1:=rfl
theorem tw8309172551095622666:1=1:=rfl
theorem tw8304716275317507728:1=1:=rfl
theorem tw7997134120588904895:1=1:=rfl
theorem tw7980777402427301615:1=1:=rfl
theorem tw7737560258636173988:1=1:=rfl
theorem tw7678781945897650667:1=1:=rfl
theorem tw7631682717926834825:1=1:=rfl
theorem tw7625870297583968649:1=1:=rfl
theorem tw7554638713106979535:1=1:=rfl
theorem tw7428831301027597022:1=1:=rfl
theorem tw7359928578807035940:1=1:=rfl
theorem tw7310601269736028496:1=1:=rfl
theorem tw7177659042773393886:1=1:=rfl
theorem tw7148595792989455774:1=1:=rfl
theorem tw7109659089173986922:1=1:=rfl
theorem tw6975779548304552543:1=1:=rfl
theorem tw6963656866706626134:1=1:=rfl
theorem tw669094649238576681:1=1:=rfl
theorem tw656551135310439342:1=1:=rfl
theorem tw6563338091360987332:1=1:=rfl
theorem tw654078671202521700:1=1:=rfl
theorem tw6457179131757029249:1=1:=rfl
theorem tw6359570678039327224:1=1:=rfl
theorem tw6337488900071783861:1=1:=rfl
theorem tw6319295451088429990:1=1:=rfl
theorem tw6294013443681829955:1=1:=rfl
theorem tw6121007792825948742:1=1:=rfl
theorem tw6110265502873609644:1=1:=rfl
theorem tw6106107704462847658:1=1:=rfl
theorem tw6100855596102823535:1=1:=rfl
theorem tw6055122605671051572:1=1:=rfl
theorem tw5947593646509481992:1=1:=rfl
theorem tw5862919635027881159:1=1:=rfl
theorem tw5717616990205374728:1=1:=rfl
theorem tw5698664130109570870:1=1:=rfl
theorem tw5518939011340816141:1=1:=rfl
theorem tw5495630505932380482:1=1:=rfl
theorem tw5457362162573751717:1=1:=rfl
theorem tw5455769297839248720:1=1:=rfl
theorem tw525906445792038030:1=1:=rfl
theorem tw5105666574633308410:1=1:=rfl
theorem tw5090374348889523512:1=1:=rfl
theorem tw5065014185246305539:1=1:=rfl
theorem tw4939178675289038175:1=1:=rfl
theorem tw4833481691035368044:1=1:=rfl
theorem tw4827066093007991872:1=1:=rfl
theorem tw4815187800905132872:1=1:=rfl
theorem tw4746753380334829438:1=1:=rfl
theorem tw4729054415082227832:1=1:=rfl
theorem tw4625766246721893238:1=1:=rfl
theorem tw4606571813831857236:1=1:=rfl
theorem tw4500703023168147750:1=1:=rfl
theorem tw4358591045978866589:1=1:=rfl
theorem tw4264519226691659959:1=1:=rfl
theorem tw4103282970987957166:1=1:=rfl
theorem tw4086298829852970789:1=1:=rfl
theorem tw4056297576890923569:1=1:=rfl
theorem tw3828791333546272149:1=1:=rfl
theorem tw377394292663180205:1=1:=rfl
theorem tw3678913462605234713:1=1:=rfl
theorem tw3539035233761908402:1=1:=rfl
theorem tw3512078018405827966:1=1:=rfl
theorem tw3440252242389212443:1=1:=rfl
theorem tw3206633076049067040:1=1:=rfl
theorem tw3063592592183706377:1=1:=rfl
theorem tw2832217953296642492:1=1:=rfl
theorem tw2824469206261625743:1=1:=rfl
theorem tw2801782190157281883:1=1:=rfl
theorem tw2801223214618546272:1=1:=rfl
theorem tw2679457797206783324:1=1:=rfl
theorem tw2650031531085736964:1=1:=rfl
theorem tw2612500910650382235:1=1:=rfl
theorem tw2561508040217701860:1=1:=rfl
theorem tw2456639483161376049:1=1:=rfl
theorem tw2244228051109194134:1=1:=rfl
theorem tw2039605163800807145:1=1:=rfl
theorem tw2010534613797429558:1=1:=rfl
theorem tw1992959452120310411:1=1:=rfl
theorem tw1951341509001636386:1=1:=rfl
theorem tw1899737440002299217:1=1:=rfl
theorem tw18352055993346954679:1=1:=rfl
theorem tw18273265976273090291:1=1:=rfl
theorem tw1823784045764862375:1=1:=rfl
theorem tw18148938686343054999:1=1:=rfl
theorem tw17928715712158253510:1=1:=rfl
theorem tw17922613755191116751:1=1:=rfl
theorem tw17835071346146524476:1=1:=rfl
theorem tw17815122959016465522:1=1:=rfl
theorem tw1777559025357634075:1=1:=rfl
theorem tw17765994887215225028:1=1:=rfl
theorem tw17619609181220160872:1=1:=rfl
theorem tw17532403194627695567:1=1:=rfl
theorem tw17487004078338394117:1=1:=rfl
theorem tw17451893643296843610:1=1:=rfl
theorem tw17442615272332021160:1=1:=rfl
theorem tw17384958305334284545:1=1:=rfl
theorem tw17279292870995439023:1=1:=rfl
theorem tw17085110234958176346:1=1:=rfl
theorem tw16904716308892463194:1=1:=rfl
theorem tw16795969167905025561:1=1:=rfl
theorem tw16742013969894896858:1=1:=rfl
theorem tw16674985046784871311:1=1:=rfl
theorem tw16588053782304184492:1=1:=rfl
theorem tw16373474862680462566:1=1:=rfl
theorem tw16341305842866181449:1=1:=rfl
theorem tw16247344562565662449:1=1:=rfl
theorem tw16125733007017160645:1=1:=rfl
theorem tw16110278276322484591:1=1:=rfl
theorem tw16076915842919850079:1=1:=rfl
theorem tw16028012216732656666:1=1:=rfl
theorem tw15893580082419791622:1=1:=rfl
theorem tw15738294746461537113:1=1:=rfl
theorem tw15577263085538556354:1=1:=rfl
theorem tw15343208753421617265:1=1:=rfl
theorem tw1532230078754054107:1=1:=rfl
theorem tw15196110864025288880:1=1:=rfl
theorem tw15005056470872011844:1=1:=rfl
theorem tw14821094055787864663:1=1:=rfl
theorem tw14613584911193733986:1=1:=rfl
theorem tw14598148583949875933:1=1:=rfl
theorem tw14509025122460522445:1=1:=rfl
theorem tw14422276850553683386:1=1:=rfl
theorem tw14274483652023500347:1=1:=rfl
theorem tw1421449655989958008:1=1:=rfl
theorem tw14132346613222539982:1=1:=rfl
theorem tw13937605304685760789:1=1:=rfl
theorem tw13837915613663942878:1=1:=rfl
theorem tw13835031912972273399:1=1:=rfl
theorem tw13827254045959017182:1=1:=rfl
theorem tw13719817325199989132:1=1:=rfl
theorem tw13639828683619826277:1=1:=rfl
theorem tw1355496778997328702:1=1:=rfl
theorem tw13531099235735125679:1=1:=rfl
theorem tw13475805142245815310:1=1:=rfl
theorem tw13452271814139685591:1=1:=rfl
theorem tw13305182682634863471:1=1:=rfl
theorem tw13245103652661971315:1=1:=rfl
theorem tw13134694431077713224:1=1:=rfl
theorem tw13083368013879792854:1=1:=rfl
theorem tw12940077416276775609:1=1:=rfl
theorem tw12789854037975536378:1=1:=rfl
theorem tw12625376757154769151:1=1:=rfl
theorem tw12505610836253476558:1=1:=rfl
theorem tw12424816980162343572:1=1:=rfl
theorem tw12283461229558625219:1=1:=rfl
theorem tw12228348181221605861:1=1:=rfl
theorem tw12211227211889500304:1=1:=rfl
theorem tw12177753661463244913:1=1:=rfl
theorem tw12115036505048438699:1=1:=rfl
theorem tw12084060653887168505:1=1:=rfl
theorem tw12010514393686116587:1=1:=rfl
theorem tw1177715425997280995:1=1:=rfl
theorem tw11739072711320257690:1=1:=rfl
theorem tw117308245832975330:1=1:=rfl
theorem tw11709678209487518548:1=1:=rfl
theorem tw11335330075793565390:1=1:=rfl
theorem tw11301947162945622671:1=1:=rfl
theorem tw11247618707310226538:1=1:=rfl
theorem tw11181128510911021238:1=1:=rfl
theorem tw11167246970144909733:1=1:=rfl
theorem tw11101914899608934114:1=1:=rfl
theorem tw11032482713198482917:1=1:=rfl
theorem tw10671850531996906909:1=1:=rfl
theorem tw10657254866960642081:1=1:=rfl
theorem tw10640829148387289720:1=1:=rfl
theorem tw10563516660514491128:1=1:=rfl
theorem tw10238492927643207978:1=1:=rfl
theorem tw10214117579832975815:1=1:=rfl
theorem tw10213395532538551453:1=1:=rfl
theorem tw10174615390368450267:1=1:=rfl
theorem tw10162582703048805077:1=1:=rfl
theorem tw10041897366692750863:1=1:=rfl
end PySem.W.Fast
open PySem PySem.W PyProof.Rows
set_option maxRecDepth 100000 in
set_option maxHeartbeats 0 in
theorem PySem.Challenge.cw_wormyard_k92_whole_in_order_holds : PySem.Challenge.rw_wormyard_k92_whole_in_order.Holds := by
 w_on;o_law;k_head; (case hw=>w_witness2)
 k_fill
 refine K92.walk (l:=PySem.Challenge.rw_wormyard_k92_whole_in_order) rfl rfl (fun w h Y=>PySem.W.kIn_of Y) ?F
 case F =>
  intro w mg fa h KX G hmg
  refine' K92.all_mk KX G hmg ?gcL ?gcN ?gcT ?gcR ?gcE ?gcB ?gcD ?gcO ?gcM ?gcP ?gcG ?gcW ?gcZ ?gcF ?gcQ ?gcA ?gcH ?gcJ ?h1 ?h2 ?h3 ?h4 ?h5 ?h6 ?h7 ?h8 ?h9 ?h10 ?h11 ?h12 ?h13 ?h14 ?h15 ?h16 ?h17 ?h18 ?h19 ?h20 ?h21 ?h22 ?h23 ?h24 ?a25 ?l25 ?c25 ?k25 ?h26 ?h27 ?h28 ?h29 ?h30 ?h31 ?h32 ?h33 ?h34 ?h35 ?h36 ?h37 ?h38 ?h39 ?h40 ?h41 ?h42 ?h43 ?h44 ?h45 ?h46 ?h47 ?h48 ?h49 ?a50 ?l50 ?d50 ?c50 ?k50 ?i50 ?a51 ?l51 ?d51 ?c51 ?k51 ?i51 ?h52 ?h53 ?h54 ?h55 ?h56 ?h57 ?h58 ?h59 ?h60 ?h61 ?h62 ?h63 ?h64 ?h65 ?h66 ?h67 ?h68 ?mp ?ml ?mr ?mh ?mk ?p1cL ?p2cL ?p3cL ?p4cL ?p5cL ?p6cL ?ncLplaces ?ncLlanes ?p1cB ?p2cB ?p3cB ?p4cB ?p5cB ?p6cB ?ncBland ?p1cD ?p2cD ?p3cD ?p4cD ?p5cD ?p6cD ?ncDland ?ncDentries ?p1cO ?p2cO ?p3cO ?p4cO ?p5cO ?p6cO ?ncOland ?ncOentries ?p1cA ?p2cA ?p3cA ?p4cA ?p5cA ?p6cA ?ncArights ?ncAreturning ?ncAholder ?ncApieces ?p1cH ?p2cH ?p3cH ?p4cH ?p5cH ?p6cH ?ncHstart ?ncHgoal ?ncHlength ?ncHword ?ncHgone ?ncHway ?p1cJ ?p2cJ ?p3cJ ?p4cJ ?p5cJ ?p6cJ ?ncJtable ?ncJrooms ?ncJlanes ?ncJletters ?ncJlies ?ncJdone ?x1cN ?x2cN ?x1cT ?x2cT ?x3cT ?x4cT ?x5cT ?x6cT ?x7cT ?ncTmany ?x1cR ?x2cR ?x3cR ?x4cR ?x5cR ?x6cR ?x7cR ?ncRlane ?x1cE ?x2cE ?x3cE ?x4cE ?x5cE ?x6cE ?x7cE ?ncErow ?x1cM ?x2cM ?x1cP ?x2cP ?x1cG ?x2cG ?x1cW ?x2cW ?x1cZ ?x2cZ ?x3cZ ?x4cZ ?x5cZ ?x6cZ ?x7cZ ?ncZstart ?ncZgoal ?x1cF ?x2cF ?x1cQ ?x2cQ ?w1cB ?w2cB ?w3cB ?kk1 ?kk2 ?kk3 ?kk4 ?kk5 ?kk6 ?kk7 ?kk8 ?kk9 ?eQ ?z0 ?z1 ?z2 ?z3 ?z4 ?z5 ?z6 ?z7 ?z8 ?z9 ?z10 ?z11
  (case gcL=>k_is)
  (case gcN=>k_is)
  (case gcT=>k_is)
  (case gcR=>k_is)
  (case gcE=>k_is)
  (case gcB=>k_is)
  (case gcD=>k_is)
  (case gcO=>k_is)
  (case gcM=>k_is)
  (case gcP=>k_is)
  (case gcG=>k_is)
  (case gcW=>k_is)
  (case gcZ=>k_is)
  (case gcF=>k_is)
  (case gcQ=>k_is)
  (case gcA=>k_is)
  (case gcH=>k_is)
  (case gcJ=>k_is)
  (case h1=>symm_saturate)
  (case h2=>symm_saturate)
  (case h3=>symm_saturate)
  (case h4=>symm_saturate)
  (case h5=>symm_saturate)
  (case h6=>symm_saturate)
  (case h7=>symm_saturate)
  (case h8=>symm_saturate)
  (case h9=>symm_saturate)
  (case h10=>symm_saturate)
  (case h11=>symm_saturate)
  (case h12=>symm_saturate)
  (case h13=>symm_saturate)
  (case h14=>symm_saturate)
  (case h15=>symm_saturate)
  (case h16=>symm_saturate)
  (case h17=>symm_saturate)
  (case h18=>symm_saturate)
  (case h19=>symm_saturate)
  (case h20=>symm_saturate)
  (case h21=>symm_saturate)
  (case h22=>symm_saturate)
  (case h23=>symm_saturate)
  (case h24=>symm_saturate)
  (case a25=>k_is)
  (case l25=>k_is)
  (case c25=>k_is)
  (case k25=>k_is)
  (case h26=>symm_saturate)
  (case h27=>symm_saturate)
  (case h28=>symm_saturate)
  (case h29=>symm_saturate)
  (case h30=>symm_saturate)
  (case h31=>symm_saturate)
  (case h32=>symm_saturate)
  (case h33=>symm_saturate)
  (case h34=>symm_saturate)
  (case h35=>symm_saturate)
  (case h36=>symm_saturate)
  (case h37=>symm_saturate)
  (case h38=>symm_saturate)
  (case h39=>symm_saturate)
  (case h40=>symm_saturate)
  (case h41=>symm_saturate)
  (case h42=>symm_saturate)
  (case h43=>symm_saturate)
  (case h44=>symm_saturate)
  (case h45=>symm_saturate)
  (case h46=>symm_saturate)
  (case h47=>symm_saturate)
  (case h48=>symm_saturate)
  (case h49=>symm_saturate)
  (case a50=>k_is)
  (case l50=>k_is)
  (case d50=>k_is)
  (case c50=>k_is)
  (case k50=>k_is)
  (case i50=>k_is)
  (case a51=>k_is)
  (case l51=>k_is)
  (case d51=>k_is)
  (case c51=>k_is)
  (case k51=>k_is)
  (case i51=>k_is)
  (case h52=>symm_saturate)
  (case h53=>symm_saturate)
  (case h54=>symm_saturate)
  (case h55=>symm_saturate)
  (case h56=>symm_saturate)
  (case h57=>symm_saturate)
  (case h58=>symm_saturate)
  (case h59=>symm_saturate)
  (case h60=>symm_saturate)
  (case h61=>symm_saturate)
  (case h62=>symm_saturate)
  (case h63=>symm_saturate)
  (case h64=>symm_saturate)
  (case h65=>symm_saturate)
  (case h66=>symm_saturate)
  (case h67=>symm_saturate)
  (case h68=>symm_saturate)
  (case mp=>k_is)
  (case ml=>k_is)
  (case mr=>k_is)
  (case mh=>k_is)
  (case mk=>k_is)
  (case p1cL=>k_is)
  (case p2cL=>k_is)
  (case p3cL=>k_is)
  (case p4cL=>k_is)
  (case p5cL=>k_is)
  (case p6cL=>k_is)
  (case ncLplaces=>k_is)
  (case ncLlanes=>k_is)
  (case p1cB=>k_is)
  (case p2cB=>k_is)
  (case p3cB=>k_is)
  (case p4cB=>k_is)
  (case p5cB=>k_is)
  (case p6cB=>k_is)
  (case ncBland=>k_is)
  (case p1cD=>k_is)
  (case p2cD=>k_is)
  (case p3cD=>k_is)
  (case p4cD=>k_is)
  (case p5cD=>k_is)
  (case p6cD=>k_is)
  (case ncDland=>k_is)
  (case ncDentries=>k_is)
  (case p1cO=>k_is)
  (case p2cO=>k_is)
  (case p3cO=>k_is)
  (case p4cO=>k_is)
  (case p5cO=>k_is)
  (case p6cO=>k_is)
  (case ncOland=>k_is)
  (case ncOentries=>k_is)
  (case p1cA=>k_is)
  (case p2cA=>k_is)
  (case p3cA=>k_is)
  (case p4cA=>k_is)
  (case p5cA=>k_is)
  (case p6cA=>k_is)
  (case ncArights=>k_is)
  (case ncAreturning=>k_is)
  (case ncAholder=>k_is)
  (case ncApieces=>k_is)
  (case p1cH=>k_is)
  (case p2cH=>k_is)
  (case p3cH=>k_is)
  (case p4cH=>k_is)
  (case p5cH=>k_is)
  (case p6cH=>k_is)
  (case ncHstart=>k_is)
  (case ncHgoal=>k_is)
  (case ncHlength=>k_is)
  (case ncHword=>k_is)
  (case ncHgone=>k_is)
  (case ncHway=>k_is)
  (case p1cJ=>k_is)
  (case p2cJ=>k_is)
  (case p3cJ=>k_is)
  (case p4cJ=>k_is)
  (case p5cJ=>k_is)
  (case p6cJ=>k_is)
  (case ncJtable=>k_is)
  (case ncJrooms=>k_is)
  (case ncJlanes=>k_is)
  (case ncJletters=>k_is)
  (case ncJlies=>k_is)
  (case ncJdone=>k_is)
  (case x1cN=>kernel_rfl)
  (case x2cN=>k_is)
  (case x1cT=>kernel_rfl)
  (case x2cT=>k_is)
  (case x3cT=>kernel_rfl)
  (case x4cT=>k_is)
  (case x5cT=>k_is)
  (case x6cT=>k_is)
  (case x7cT=>k_is)
  (case ncTmany=>k_is)
  (case x1cR=>kernel_rfl)
  (case x2cR=>k_is)
  (case x3cR=>kernel_rfl)
  (case x4cR=>k_is)
  (case x5cR=>k_is)
  (case x6cR=>k_is)
  (case x7cR=>k_is)
  (case ncRlane=>k_is)
  (case x1cE=>kernel_rfl)
  (case x2cE=>k_is)
  (case x3cE=>kernel_rfl)
  (case x4cE=>k_is)
  (case x5cE=>k_is)
  (case x6cE=>k_is)
  (case x7cE=>k_is)
  (case ncErow=>k_is)
  (case x1cM=>kernel_rfl)
  (case x2cM=>k_is)
  (case x1cP=>kernel_rfl)
  (case x2cP=>k_is)
  (case x1cG=>kernel_rfl)
  (case x2cG=>k_is)
  (case x1cW=>kernel_rfl)
  (case x2cW=>k_is)
  (case x1cZ=>kernel_rfl)
  (case x2cZ=>k_is)
  (case x3cZ=>kernel_rfl)
  (case x4cZ=>k_is)
  (case x5cZ=>k_is)
  (case x6cZ=>k_is)
  (case x7cZ=>k_is)
  (case ncZstart=>k_is)
  (case ncZgoal=>k_is)
  (case x1cF=>kernel_rfl)
  (case x2cF=>k_is)
  (case x1cQ=>kernel_rfl)
  (case x2cQ=>k_is)
  (case w1cB=>first | k_is | kernel_rfl)
  (case w2cB=>first | k_is | kernel_rfl)
  (case w3cB=>first | k_is | kernel_rfl)
  (case kk1=>kit_is)
  (case kk2=>kit_is)
  (case kk3=>kit_is)
  (case kk4=>kit_is)
  (case kk5=>kit_is)
  (case kk6=>kit_is)
  (case kk7=>kit_is)
  (case kk8=>kit_is)
  (case kk9=>kit_is)
  (case eQ=>kts_exm)
  (case z0=>k_is)
  (case z1=>k_is)
  (case z2=>k_is)
  (case z3=>k_is)
  (case z4=>k_is)
  (case z5=>k_is)
  (case z6=>k_is)
  (case z7=>k_is)
  (case z8=>k_is)
  (case z9=>k_is)
  (case z10=>k_is)
  (case z11=>k_is)
