import PyProof.Rows.All
import Wide.All
import OpenK.AllK
import Wide.FinOn
import Lean
import PyProof.EqAt
import PyProof.EqKinds
import PyProof.TupleCall
import PyProof.ExcBaseAll.ValueError
import PyProof.EnumMake
import PyProof.Rows.EnumRows
import PyProof.TupleIter
import PyProof.DictValues
import PyProof.CollectStr
import PySem.Builtin.Int.W1All
import PyProof.DictRoadsH
import PyProof.DictKinds
import PyProof.FactsAll.NoneType
import KE.KRevIter
import PyProof.FactsAll.list_3
import KE.KDictList
import PyProof.DictIter
import PyProof.DictWalks
import PyProof.ListRange
import PyProof.Rows.SumAny
import PyProof.Rows.SeqCalls
import PyProof.P3In
import PySem.Challenge.RW_wormyard_k48_moves_made
set_option compiler.extract_closed false
set_option Elab.async false
set_option linter.all false
set_option maxRecDepth 100000
set_option maxHeartbeats 4000000
open PySem.W (Frag keepIn findIn fnOf codeIn nsIn mg_of isFn kitOne hasDictIn mg_none_of plainGet plainOver makesIn)
open List (all_cons all_eq_true all_map any_cons append_assoc append_nil contains_cons eq_of_mem_replicate filterMap_cons filter_append filter_congr getD_eq_getElem?_getD getElem_mem length_append length_cons length_drop length_filter_le length_map length_nil length_range length_replicate length_set length_singleton length_take length_take_le lookup_cons map_append map_cons map_map map_nil map_set mem_append mem_append_left mem_append_right mem_cons mem_cons_of_mem mem_cons_self mem_filter mem_flatMap mem_map mem_of_getElem? mem_of_head? mem_of_mem_take mem_range mem_reverse mem_singleton nodup_cons nodup_nil not_mem_nil of_mem_zip pairwise_cons pairwise_iff_getElem pairwise_lt_range range_succ replicate_succ' size_toArray sum_cons take_length take_of_length_le take_succ)
open Nat (le_of_eq le_of_lt le_refl le_succ le_trans lt_irrefl lt_of_le_of_lt lt_of_lt_of_le lt_or_ge lt_succ_self lt_trans min_eq_left min_eq_right ne_of_gt ne_of_lt not_lt_zero pow_le_pow_right succ_pos testBit_lt_two_pow zero_le)
open Int (emod_lt_of_pos emod_nonneg toNat_natCast zero_add)
open PySem.F (args_tuple_add_2 entry_dict_get entry_tuple_add plainAttrs_list slot_dict_get slot_list_extend slot_tuple_add type_list_extend)
open PySem.Heap (lt_size size_push)
noncomputable section
namespace L2
theorem Fz {α:Type}{n:Nat}{l:List α}(h:l.length=n + 1):∃ a t,l=a :: t/\t.length=n:=by
 cases l with
 | nil=>cases h
 | cons a t=>exact⟨a,t,rfl,Nat.succ.inj h⟩
open PySem PySem.Spec PyProof.Rows
noncomputable abbrev ca:=Sum Int Str
noncomputable def js:ca->Value->Bool
 | .inl k,v=>Value.isInt k v
 | .inr x,v=>Value.isStrOf x v
noncomputable def Qe (w:World):ca->Int
 | .inl k=>hashInt k
 | .inr x=>hashStr w x
theorem b0:∀ {k:ca}{v:Value},js k v=true->(∃ i t,k=Sum.inl i/\v=Value.int i t)∨(∃ x t,k=Sum.inr x/\v=Value.str x t)
 | .inl i,v,h=>by
  obtain⟨t,e⟩:=Value.isInt_shape (k:=i) (v:=v) h
  exact .inl ⟨i,t,rfl,e⟩
 | .inr x,v,h=>by
  obtain⟨t,e⟩:=Value.isStrOf_shape (x:=x) (v:=v) h
  exact .inr ⟨x,t,rfl,e⟩
theorem qM (i:Int)(t:Tok):js (.inl i) (.int i t)=true:=by simp[js,Value.isInt]
theorem qL (x:Str)(t:Tok):js (.inr x) (.str x t)=true:=by simp[js,Value.isStrOf]
theorem y3 (a b:Int):decide ((Sum.inl a:ca)=Sum.inl b)=(a == b):=by
 by_cases e:a=b
 ·subst e;simp
 ·have h:¬ (Sum.inl a:ca)=Sum.inl b:=fun q=>e (Sum.inl.inj q)
  rw[decide_eq_false h]
  exact(beq_eq_false_iff_ne.mpr e).symm
theorem yy (a b:Str):decide ((Sum.inr a:ca)=Sum.inr b)=decide (a=b):=by
 by_cases e:a=b
 ·subst e;simp
 ·have h:¬ (Sum.inr a:ca)=Sum.inr b:=fun q=>e (Sum.inr.inj q)
  rw[decide_eq_false h,decide_eq_false e]
theorem y2 (a:Int)(b:Str):decide ((Sum.inl a:ca)=Sum.inr b)=false:=decide_eq_false (fun q=>nomatch q)
theorem yz (a:Str)(b:Int):decide ((Sum.inr a:ca)=Sum.inl b)=false:=decide_eq_false (fun q=>nomatch q)
noncomputable def aU (prog:Program)(w:World):PySem.KeyKind prog w ca where
 is:=js
 hash:=Qe w
 inj:=fun v a b ha hb=>by
  rcases b0 ha with ⟨i,t,rfl,rfl⟩ | ⟨x,t,rfl,rfl⟩
  ·rcases b0 hb with ⟨j,u,rfl,e⟩ | ⟨y,u,rfl,e⟩
   ·injection e with e1 _;rw[e1]
   ·exact nomatch e
  ·rcases b0 hb with ⟨j,u,rfl,e⟩ | ⟨y,u,rfl,e⟩
   ·exact nomatch e
   ·injection e with e1 _;rw[e1]
 byValue:=fun k v h=>by
  rcases b0 h with ⟨i,t,rfl,rfl⟩ | ⟨x,t,rfl,rfl⟩<;>rfl
 pyHash:=fun hv h=>by
  rcases b0 hv with ⟨i,t,rfl,rfl⟩ | ⟨x,t,rfl,rfl⟩
  ·exact wpAny_pyHash_int h
  ·exact wpAny_pyHash_str h
 eqBool:=fun hu hv h=>by
  rcases b0 hu with ⟨i,t,rfl,rfl⟩ | ⟨x,t,rfl,rfl⟩
  ·rcases b0 hv with ⟨j,u,rfl,rfl⟩ | ⟨y,u,rfl,rfl⟩
   ·rw[y3]at h;exact wpAny_eqBool_int h
   ·rw[y2]at h;exact SeqAt.EqAt.int_str i t y u _ _ _ _ h
  ·rcases b0 hv with ⟨j,u,rfl,rfl⟩ | ⟨y,u,rfl,rfl⟩
   ·rw[yz]at h;exact SeqAt.EqAt.str_int x t j u _ _ _ _ h
   ·rw[yy]at h;exact wpAny_eqBool_str h
 «strs»:=fun k x t v h=>by
  rcases b0 h with ⟨i,u,rfl,e⟩ | ⟨y,u,rfl,e⟩
  ·exact nomatch e
  ·injection e with e1 _
   subst e1
   cases v<;>rfl
theorem mz (prog:Program)(w:World)(i:Int)(t:Tok):(aU prog w).is (.inl i) (.int i t)=true:=qM i t
theorem mj (prog:Program)(w:World)(x:Str)(t:Tok):(aU prog w).is (.inr x) (.str x t)=true:=qL x t
end L2
namespace L2
open PySem PySem.Spec PyProof.Rows
inductive V where
 | zm | bl (b:Bool) | int (i:Int) | str (x:Str) | CN (b:Array UInt8) | GG (b:UInt64) | ref (a:Addr) | ty (n:String)
 deriving DecidableEq
noncomputable def RelV:V->Value->Prop
 | .zm,u=>u=Value.none
 | .bl b,u=>u=Value.bool b
 | .int i,u=>∃ t,u=Value.int i t
 | .str x,u=>∃ t,u=Value.str x t
 | .CN b,u=>∃ t,u=Value.bytes b t
 | .GG b,u=>∃ t,u=Value.float b t
 | .ref a,u=>u=Value.ref a
 | .ty n,u=>u=Value.type n
noncomputable abbrev Vals:List V->List Value->Prop:=Paired RelV
theorem Vals.length {xs:List V}{us:List Value}(r:Vals xs us):xs.length=us.length:=Paired.length r
theorem Vals.get:∀ {xs:List V}{us:List Value}{i:Nat}{x:V},Vals xs us->xs[i]? = some x->∃ u,us[i]? = some u/\RelV x u
 | _,_,_,_, .nil,e=>by simp at e
 | _,_,0,_, .cons r _,e=>by simp at e;subst e;exact⟨_,rfl,r⟩
 | _,_,i + 1,x, .cons _ t,e=>by
  obtain⟨u,h1,h2⟩:=Vals.get (i:=i) (x:=x) t (by simpa using e)
  exact⟨u,by simpa using h1,h2⟩
theorem Vals.set {x:V}{u:Value}(r:RelV x u):∀ {xs:List V}{us:List Value}(i:Nat),Vals xs us->Vals (xs.set i x) (us.set i u)
 | _,_,_, .nil => .nil
 | _,_,0, .cons _ t => .cons r t
 | _,_,i + 1, .cons q t => .cons q (Vals.set r i t)
theorem Vals.append:∀ {xs ys:List V}{us ws:List Value},Vals xs us->Vals ys ws->Vals (xs ++ ys) (us ++ ws)
 | _,_,_,_, .nil,s=>s
 | _,_,_,_, .cons r t,s => .cons r (Vals.append t s)
theorem Vals.take:∀ {xs:List V}{us:List Value}(n:Nat),Vals xs us->Vals (xs.take n) (us.take n)
 | _,_,0,_ => .nil
 | _,_,_ + 1, .nil => .nil
 | _,_,n + 1, .cons r t => .cons r (Vals.take n t)
theorem Vals.drop:∀ {xs:List V}{us:List Value}(n:Nat),Vals xs us->Vals (xs.drop n) (us.drop n)
 | _,_,0,r=>r
 | _,_,_ + 1, .nil => .nil
 | _,_,n + 1, .cons _ t=>Vals.drop n t
noncomputable def zQ:Option V->Option Value->Prop
 | some v,some u=>RelV v u
 | none,none=>True
 | _,_=>False
noncomputable def KV {κ:Type}:List (κ × V)->List (κ × Value)->Prop:=Paired fun (p:κ × V)(q:κ × Value)=>p.1=q.1/\RelV p.2 q.2
noncomputable def kV:ca->V
 | .inl i => .int i
 | .inr x => .str x
inductive HO where
  | lst (xs:List V)
  | tup (xs:List V)
  | dK (kvs:List (ca × V)) | dT (kvs:List (List ca × V))
  | set (S:Int->Bool) (n:Nat)
  | ins (C dx:Addr) (fs:List (Str × V))
  | own (x:Addr)
  | xd (fs:List (Str × V))
  | met (f x:Addr)
  | Oc (lo hi:Int)
  | AU (o:Obj) (u:HO)
  | F0 (ps:Array Value)
  | ext (φ:Heap->Prop)
noncomputable abbrev Hp:=Addr->Option HO
noncomputable def upd (H:Hp)(a:Addr)(o:HO):Hp:=fun b=>if b=a then some o else H b
theorem ac {H:Hp}{a:Addr}{o:HO}:upd H a o a=some o:=by unfold upd;rw[if_pos rfl]
theorem ae {H:Hp}{a b:Addr}{o:HO}(h:b ≠ a):upd H a o b=H b:=by unfold upd;rw[if_neg h]
theorem aZ {H:Hp}{a b:Addr}{o u:HO}(h:H a=some o)(h':H b=some u)(d:o ≠ u):a ≠ b:=by
 intro e;subst e;rw[h]at h';exact d (Option.some.inj h')
theorem ag {H:Hp}{a b:Addr}{o:HO}(h:H a=some o)(h':H b=none):a ≠ b:=by
 intro e;subst e;rw[h]at h';cases h'
noncomputable def Ai (h:Heap)(a:Addr)(items:Array Value):Prop:=∃ o,h.get? a=some o/\(o.cls = .type "tuple"/\∃ n,o.data = .seq items n)/\o.dict=none
theorem Ai.isTup {h:Heap}{a:Addr}{items:Array Value}:Ai h a items->IsTup h a items:=fun⟨o,e,c,_⟩=>⟨o,e,c⟩
theorem Ai.new (h:Heap)(items:Array Value):Ai (h.push { cls := .type "tuple",data := .seq items }) h.objs.size items:=⟨_,Heap.get?_push_size _ rfl,⟨rfl,_,rfl⟩,rfl⟩
section
variable (P:Program)(w:World)
noncomputable def zq (H:Hp)(h:Heap)(a:Addr):HO->Prop
 | .lst xs=>xs.length <= sizeLine/\∃ (za:List Value)(n:Nat),Vals xs za/\h.get? a=some { cls := .type "list",data := .seq za.toArray n }
 | .tup xs=>xs.length <= sizeLine/\∃ za:List Value,Vals xs za/\Ai h a za.toArray
 | .dK kvs=>kvs.length <= sizeLine/\(a == sysModules)=false/\∃ vs,KV kvs vs/\h.DictOf (aU P w) a vs
 | .dT kvs=>kvs.length <= sizeLine/\(a == sysModules)=false/\∃ xs:List (List ca × Addr × Value),
   Paired (fun (p:List ca × V)(q:List ca × Addr × Value)=>p.1=q.1/\H q.2.1=some (.tup (p.1.map kV))/\RelV p.2 q.2.2) kvs xs /\
   ∃ o es ep,h.get? a=some o/\o.ExactDict/\o.data = .dict es ep/\es.toList=xs.map (entryOfKey (tupleKind (aU P w)))/\(xs.map (·.1)).Nodup
 | .set S n=>h.SetOf (intKind P w) a S n
 | .ins C dx fs=>H dx=some (.own a)/\fs.length <= 1000/\dx ≠ a/\h.get? a=some (PySem.W.instObj C dx) /\
   ∃ mA,h.Ns1 dx mA/\(∀ f,zQ (fs.lookup f) (mA f))/\PySem.Within mA (fs.map (·.1))
 | .own _=>∃ o,h.get? a=some o
 | .xd fs=>∃ mA,h.Ns1 a mA/\∀ f,zQ (fs.lookup f) (mA f)
 | .Oc lo hi=>∃ t u v,h.get? a=some { cls := .type "range",data := .fields #[.int lo t, .int hi u, .int 1 v] }
 | .AU o u=>h.get? a=some o/\zq H h a u
 | .F0 ps=>h.get? a=some { cls := .none,data := .fields ps }
 | .met f x=>h.get? a=some (PySem.W.methodObj (.ref f) (.ref x))
 | .ext φ=>φ h/\(∃ o,h.get? a=some o)/\∀ h1 h2:Heap,φ h1->(∀ o,h1.get? a=some o->h2.get? a=some o)->φ h2
noncomputable def Ad (H:Hp)(h:Heap):Prop:=∀ a o,H a=some o->zq P w H h a o
end
section
variable {P:Program}{w:World}{H H':Hp}{h h':Heap}{a:Addr}{o:HO}
theorem zq.lt (x:zq P w H h a o):a < h.objs.size:=by
 cases o with
 | lst xs=>obtain⟨_,_,_,_,e⟩:=x;exact lt_size e
 | tup xs=>obtain⟨_,_,_,p⟩:=x;exact p.isTup.lt
 | dK kvs=>obtain⟨_,_,_,_,o,_,_,e,_⟩:=x;exact lt_size e
 | dT kvs=>obtain⟨_,_,_,_,o,_,_,e,_⟩:=x;exact lt_size e
 | set S n=>obtain⟨o,_,_,_,e,_⟩:=x;exact lt_size e
 | ins C dx fs=>obtain⟨_,_,_,e,_⟩:=x;exact lt_size e
 | own y=>obtain⟨_,e⟩:=x;exact lt_size e
 | xd fs=>obtain⟨_,⟨_,_,_,e,_⟩,_⟩:=x;exact lt_size e
 | Oc lo hi=>obtain⟨_,_,_,e⟩:=x;exact lt_size e
 | AU ob u=>obtain⟨e,_⟩:=x;exact lt_size e
 | F0 ps=>exact lt_size (show h.get? a=some _ from x)
 | met f y=>exact lt_size (show h.get? a=some _ from x)
 | ext φ=>obtain⟨_,⟨_,e⟩,_⟩:=x;exact lt_size e
theorem Paired.GH {α β:Type}{F G:α->β->Prop}:∀ {l₁:List α}{l₂:List β},Paired F l₁ l₂->(∀ a b,F a b->G a b)->Paired G l₁ l₂
 | _,_, .nil,_ => .nil
 | _,_, .cons r t,f => .cons (f _ _ r) (Paired.GH t f)
theorem zq.AY (x:zq P w H h a o)(k:∀ b u,(b=a∨H b=some (.own a))->h.get? b=some u->h'.get? b=some u)
  (ho:∀ b,H b=some (.own a)->H' b=some (.own a)) (ht:∀ b xs,H b=some (.tup xs)->H' b=some (.tup xs)):zq P w H' h' a o:=by
 induction o with
 | lst xs=>obtain⟨z,za,n,r,e⟩:=x;exact⟨z,za,n,r,k _ _ (.inl rfl) e⟩
 | tup xs=>obtain⟨z,za,r,ob,e,c⟩:=x;exact⟨z,za,r,ob,k _ _ (.inl rfl) e,c⟩
 | dK kvs=>obtain⟨z,y,vs,r,ob,es,ep,e,c⟩:=x;exact⟨z,y,vs,r,ob,es,ep,k _ _ (.inl rfl) e,c⟩
 | dT kvs =>
  obtain⟨z,y,xs,r,ob,es,ep,e,c⟩:=x
  exact⟨z,y,xs,Paired.GH r fun p q z=>⟨z.1,ht _ _ z.2.1,z.2.2⟩,ob,es,ep,k _ _ (.inl rfl) e,c⟩
 | set S n=>obtain⟨ob,es,ep,t,e,c⟩:=x;exact⟨ob,es,ep,t,k _ _ (.inl rfl) e,c⟩
 | ins C dx fs =>
  obtain⟨d,z,ne,e,mA,⟨od,es,ep,e2,c⟩,r⟩:=x
  exact⟨ho _ d,z,ne,k _ _ (.inl rfl) e,mA,⟨od,es,ep,k _ _ (.inr d) e2,c⟩,r⟩
 | own y=>obtain⟨ob,e⟩:=x;exact⟨ob,k _ _ (.inl rfl) e⟩
 | xd fs=>obtain⟨mA,⟨od,es,ep,e,c⟩,r⟩:=x;exact⟨mA,⟨od,es,ep,k _ _ (.inl rfl) e,c⟩,r⟩
 | Oc lo hi=>obtain⟨t,u,v,e⟩:=x;exact⟨t,u,v,k _ _ (.inl rfl) e⟩
 | AU ob u ih=>obtain⟨e,q⟩:=x;exact⟨k _ _ (.inl rfl) e,ih q⟩
 | F0 ps =>
  have e:h.get? a=some { cls := .none,data := .fields ps }:=x
  show h'.get? a=some { cls := .none,data := .fields ps }
  exact k a _ (.inl rfl) e
 | met f y =>
  have e:h.get? a=some (PySem.W.methodObj (.ref f) (.ref y)):=x
  show h'.get? a=some (PySem.W.methodObj (.ref f) (.ref y))
  exact k a _ (.inl rfl) e
 | ext φ=>obtain⟨p,⟨o,e⟩,st⟩:=x;exact⟨st _ _ p fun o q=>k _ _ (.inl rfl) q,⟨o,k _ _ (.inl rfl) e⟩,st⟩
theorem Ad.lt (x:Ad P w H h)(e:H a=some o):a < h.objs.size:=(x a o e).lt
theorem Ad.fresh (x:Ad P w H h)(e:h.objs.size <= a):H a=none:=by
 cases q:H a with
 | none=>rfl
 | some u=>exact absurd (lt_of_lt_of_le (x.lt q) e) (lt_irrefl _)
theorem Ad.kept (x:Ad P w H h)(k:∀ b u,h.get? b=some u->h'.get? b=some u):Ad P w H h':=fun a o e =>
 (x a o e).AY (fun b u _ q=>k b u q) (fun _ q=>q) fun _ _ q=>q
theorem Ad.laid (x:Ad P w H h)(k:∀ b u,h.get? b=some u->h'.get? b=some u)(hp:h.objs.size <= a)(new:zq P w (upd H a o) h' a o):Ad P w (upd H a o) h':=fun b u e=>by
 have hn:=x.fresh hp
 by_cases hb:b=a
 ·subst hb;rw[ac]at e;cases e;exact new
 ·rw[ae hb]at e
  exact(x b u e).AY (fun c v _ q=>k c v q) (fun c q=>by rw[ae (ag q hn)];exact q) fun c xs q=>by rw[ae (ag q hn)];exact q
end
noncomputable def Rd (H:Hp)(a:Addr)(u:HO):Prop:=H a=some u∨∃ o,H a=some (.AU o u)
theorem Rd.ok {P:Program}{w:World}{H:Hp}{h:Heap}{a:Addr}{u:HO}(r:Rd H a u)(x:Ad P w H h):zq P w H h a u:=by
 rcases r with r | ⟨o,r⟩
 ·exact x a u r
 ·obtain⟨_,q⟩:=x a _ r
  exact q
noncomputable def J6:Option HO->Prop
 | some (.lst _)=>True
 | some (.dK _)=>True
 | some (.dT _)=>True
 | some (.set _ _)=>True
 | some (.ins _ _ _)=>True
 | some (.ext _)=>True
 | _=>False
section
variable {P:Program}{w:World}{H:Hp}{h h':Heap}{x e:Addr}{o':HO}
theorem Ad.write (ok:Ad P w H h)(mu:J6 (H x))(he:e=x∨H e=some (.own x))(k:∀ b u,b ≠ e->h.get? b=some u->h'.get? b=some u)(IP:∃ u,h'.get? e=some u)
  (new:zq P w (upd H x o') h' x o'):Ad P w (upd H x o') h':=fun b u q=>by
 have J7:∀ c y,H c=some (.own y)->c ≠ x:=fun c y r z=>by subst z;rw[r]at mu;exact mu
 have Qf:∀ c xs,H c=some (.tup xs)->c ≠ x:=fun c xs r z=>by subst z;rw[r]at mu;exact mu
 by_cases hb:b=x
 ·subst hb;rw[ac]at q;cases q;exact new
 ·rw[ae hb]at q
  by_cases BV:b=e
  ·have q':H b=some (.own x):=by
    rcases he with z | z
    ·exact absurd (BV.trans z) hb
    ·rw[BV];exact z
   rw[q]at q';cases q'
   obtain⟨v,hv⟩:=IP
   exact⟨v,by rw[BV];exact hv⟩
  ·refine(ok b u q).AY (fun c v hc r=>k c v ?_ r) (fun c r=>by rw[ae (J7 c b r)];exact r) fun c xs r=>by rw[ae (Qf c xs r)];exact r
   rcases hc with rfl | hc
   ·exact BV
   ·rintro rfl
    rcases he with z | z
    ·exact J7 c b hc z
    ·rw[hc]at z;cases z;exact hb rfl
end
structure Un (fs ex:List Addr)(H H':Hp)(h h':Heap):Prop where
 keep:∀ b o,h.get? b=some o->H b=none->b ∉ fs->b ∉ ex->h'.get? b=some o
 slot:∀ b o,h.get? b=some o->H b=none->b ∈ fs->b ∉ ex->∃ sl,h'.get? b=some { o with slots:=sl }
 free:∀ b o,h.get? b=some o->H b=none->b ∉ ex->H' b=none
 there:∀ b o,h.get? b=some o->b ∉ ex->∃ o',h'.get? b=some o'
 Bm:∀ b xs,H b=some (.tup xs)->H' b=some (.tup xs)
 AZ:∀ b o u,H b=some (.AU o u)->H' b=some (.AU o u)
 Bn:∀ b ps,H b=some (.F0 ps)->∃ more,H' b=some (.F0 (ps ++ more))
section
variable {fs zI ex IQ:List Addr}{H H1 H2:Hp}{h h1 h2 h':Heap}{a x e:Addr}{o:HO}
theorem Un.any (u:Un fs ex H H1 h h1){b:Addr}{ob:Obj}(q:h.get? b=some ob)(n:H b=none)(hx:b ∉ ex):∃ sl,h1.get? b=some { ob with slots:=sl }:=by
 by_cases hb:b ∈ fs
 ·exact u.slot b ob q n hb hx
 ·exact⟨ob.slots,u.keep b ob q n hb hx⟩
theorem Un.kept (k:∀ b u,h.get? b=some u->h'.get? b=some u):Un fs ex H H h h' :=
 ⟨fun b ob q _ _ _=>k b ob q,fun b ob q _ _ _=>⟨ob.slots,k b ob q⟩,fun _ _ _ n _=>n,fun b ob q _=>⟨ob,k b ob q⟩,fun _ _ q=>q,fun _ _ _ q=>q,fun _ ps q=>⟨#[],by rw[q];simp⟩⟩
theorem Un.refl:Un fs ex H H h h:=Un.kept fun _ _ q=>q
theorem Un.laid (k:∀ b u,h.get? b=some u->h'.get? b=some u)(hp:h.objs.size <= a)(hn:H a=none):Un fs ex H (upd H a o) h h' where
 keep:=fun b u q _ _ _=>k b u q
 slot:=fun b u q _ _ _=>⟨u.slots,k b u q⟩
 free:=fun b u q n _=>by rw[ae (ne_of_lt (lt_of_lt_of_le (lt_size q) hp))];exact n
 there:=fun b u q _=>⟨u,k b u q⟩
 Bm:=fun b xs q=>by rw[ae (ag q hn)];exact q
 AZ:=fun b u xs q=>by rw[ae (ag q hn)];exact q
 Bn:=fun b ps q=>⟨#[],by rw[ae (ag q hn),q];simp⟩
theorem Un.write (mu:J6 (H x))(he:e=x∨H e=some (.own x))(k:∀ b u,b ≠ e->h.get? b=some u->h'.get? b=some u)(IP:∃ u,h'.get? e=some u):Un fs ex H (upd H x o) h h':=by
 have hx:∀ b,H b=none->b ≠ x:=fun b n z=>by subst z;rw[n]at mu;exact mu
 have hb:∀ b,H b=none->b ≠ e:=fun b n z=>by
  subst z
  rcases he with r | r
  ·exact hx b n r
  ·rw[n]at r;cases r
 have hm:∀ b u,H b=some u->¬ J6 (some u)->b ≠ x:=fun b u q nm z=>by subst z;rw[q]at mu;exact nm mu
 refine⟨fun b u q n _ _=>k b u (hb b n) q,fun b u q n _ _=>⟨u.slots,k b u (hb b n) q⟩,fun b u q n _=>by rw[ae (hx b n)];exact n,fun b u q _=>?_,
  fun b xs q=>by rw[ae (hm b _ q fun z=>z)];exact q,fun b u xs q=>by rw[ae (hm b _ q fun z=>z)];exact q,fun b ps q=>⟨#[],by rw[ae (hm b _ q fun z=>z),q];simp⟩⟩
 by_cases BV:b=e
 ·subst BV;exact IP
 ·exact⟨u,k b u BV q⟩
end
noncomputable def Od (h:Heap)(H:Hp):List Addr:=(List.range h.objs.size).filter fun a=>(H a).isSome
noncomputable def lc (h:Heap)(H:Hp):Heap:=PySem.W.hideAll h (Od h H)
theorem qP (h:Heap)(H:Hp):(lc h H).objs.size=h.objs.size:=PySem.W.hideAll_size _ _
theorem ub {h:Heap}{H:Hp}{b:Addr}{o:Obj}(e:h.get? b=some o)(n:H b=none):(lc h H).get? b=some o :=
 PySem.W.hideAll_get _ e fun hm=>by
  have q:(H b).isSome=true:=(mem_filter.mp hm).2
  rw[n]at q;simp at q
theorem vG {h:Heap}{H:Hp}{b:Addr}{o:Obj}(e:(lc h H).get? b=some o):h.get? b=some o/\H b=none:=by
 have e':h.get? b=some o:=PySem.W.of_hideAll (Od h H) e
 refine⟨e',?_⟩
 cases q:H b with
 | none=>rfl
 | some x =>
  have hm:b ∈ Od h H:=mem_filter.mpr ⟨mem_range.mpr (lt_size e'),by simp[q]⟩
  have z:(lc h H).get? b=none:=PySem.W.hideAll_none (Od h H) hm
  rw[z]at e;cases e
end L2
namespace L2
open PySem PySem.Spec PyProof.Rows
structure Mod (K:Frag)(mg:Str->Option Value)(base:Heap):Prop where
 D9:K.In base
 glob:base.Ns mainGlobals mg
 blt:∃ mb,base.Ns builtinsNs mb/\∀ x:Str,x ≠ "__name__"->mb x=bootBuiltins x
 nolimit:base.NoLimit
structure Cx where
 prog:Program
 w:World
 K:Frag
 mg:Str->Option Value
 base:Heap
 A:Around
 N:List Str
 s₀:Shared
 H₀:Hp
 env:Env
 outer:List Env
 stack:List Env
 ex:List Addr
 fn:Str->Bool
 calm:Bool
 pn:List (Addr × Obj)
 xe:Value->Shared->Prop
noncomputable def lg (l:List Env):List Addr:=l.filterMap (·.frame)
noncomputable abbrev Cx.fs (X:Cx):List Addr:=lg X.outer
noncomputable def Oe (sc:Scope)(x:Str):Prop:=sc.names.lookup x=some .local∨sc.names.lookup x=some .cell∨sc.names.lookup x=some .free
noncomputable def Loc (sc:Scope)(x:Str):Prop:=sc.names.lookup x=some .local∨sc.names.lookup x=some .cell
noncomputable def Look (env:Env)(h:Heap)(m:Str->Option Value)(x:Str)(u:Value):Prop :=
 (env.kindOf x=some .local/\m x=some u)∨((env.kindOf x=some .cell∨env.kindOf x=some .free)/\∃ c,env.cells.lookup x=some c/\h.IsCell c (some u))
structure Cx.Ok (X:Cx):Prop where
 mod:Mod X.K X.mg X.base
 kind:X.env.scope.kind = .function
 glob:X.env.globals=mainGlobals
 blt:X.env.builtins=builtinsNs
 above:X.s₀.heap.objs.size <= X.env.locals
 inj:∀ x y c,X.env.cells.lookup x=some c->X.env.cells.lookup y=some c->x=y
 has:∀ x,(X.env.kindOf x=some .cell∨X.env.kindOf x=some .free)->∃ c,X.env.cells.lookup x=some c
 J8:∀ x c,X.fn x=true->X.env.cells.lookup x=some c->X.s₀.heap.objs.size <= c
 hd:X.calm=true->X.A.handled=none
 frames:X.A.frames=some X.stack
 Og:X.stack=X.outer∨(X.stack=X.env :: X.outer/\X.env.frame=some X.env.locals)
 V7:∀ b ∈ X.ex,b ≠ X.env.locals/\∀ x c,X.env.cells.lookup x=some c->c ≠ b
 bs:∀ b o,X.base.get? b=some o->X.s₀.heap.get? b=some o/\X.H₀ b=none
 E7:X.base.objs.size <= X.s₀.heap.objs.size
 DL:∀ b o,X.base.get? b=some o->b ∉ X.ex
 E8:∀ b ∈ X.ex,b ∉ X.fs
 Ba:X.s₀.heap.FunFrames X.base X.outer
 GJ:∀ b ∈ X.fs,X.H₀ b=none
structure Inv (X:Cx)(pins:List (Addr × Obj))(σ:List (Option V))(H:Hp)(s:Shared):Prop where
 ok:X.Ok
 os:s.os=X.s₀.os
 bare:AllBare s.gens
 base:Un X.fs X.ex X.H₀ H X.s₀.heap s.heap
 loc:∃ m,s.heap.Ns X.env.locals m/\∀ (i:Nat)(x:Str)(v:V),X.N[i]? = some x->σ[i]? = some (some v)->Oe X.env.scope x->∃ u,RelV v u/\Look X.env s.heap m x u
 cell:∀ x c,X.env.cells.lookup x=some c->∃ v,s.heap.IsCell c v
 free:H X.env.locals=none
 zM:∀ x c,X.env.cells.lookup x=some c->H c=none
 pin:∀ p ∈ X.pn ++ pins,s.heap.get? p.1=some p.2/\H p.1=none/\p.1 ≠ X.env.locals/\p.1 ∉ X.fs/\∀ v,p.2.data ≠ .cell v
 ze:Ad X.prog X.w H s.heap
 len:σ.length=X.N.length
section
variable {X:Cx}{pins:List (Addr × Obj)}{σ:List (Option V)}{H H':Hp}{s:Shared}{h':Heap}
theorem Cx.Ok.Qg (ok:X.Ok){b:Addr}{o:Obj}(e:X.base.get? b=some o):b ∉ X.fs:=fun hb=>by
 have:=(ok.Ba.mem hb).1
 rw[e]at this;cases this
theorem Inv.bs (I:Inv X pins σ H s):∀ b o,X.base.get? b=some o->s.heap.get? b=some o/\H b=none:=fun b o e =>
 ⟨I.base.keep b o (I.ok.bs b o e).1 (I.ok.bs b o e).2 (I.ok.Qg e) (I.ok.DL b o e),I.base.free b o (I.ok.bs b o e).1 (I.ok.bs b o e).2 (I.ok.DL b o e)⟩
theorem Inv.bk (I:Inv X pins σ H s):∀ b o,X.base.get? b=some o->s.heap.get? b=some o:=fun b o e=>(I.bs b o e).1
theorem Inv.mod (I:Inv X pins σ H s):Mod X.K X.mg X.base:=I.ok.mod
theorem Inv.Ac (I:Inv X pins σ H s):X.K.In s.heap:=I.ok.mod.D9.keeps I.bk
theorem Inv.lt (I:Inv X pins σ H s):X.env.locals < s.heap.objs.size:=let ⟨_,hn,_⟩:=I.loc;hn.lt
theorem Inv.sz (I:Inv X pins σ H s):X.s₀.heap.objs.size <= s.heap.objs.size:=le_trans I.ok.above (le_of_lt I.lt)
theorem Inv.Qh (I:Inv X pins σ H s){a:Addr}(h:s.heap.objs.size <= a):a ∉ X.fs:=fun hb=>by
 obtain⟨_,o,ho,_⟩:=I.ok.Ba.mem hb
 exact absurd (lt_of_lt_of_le (lt_size ho) (le_trans I.sz h)) (lt_irrefl _)
theorem Inv.Ep (I:Inv X pins σ H s):∀ x c,X.env.cells.lookup x=some c->c ≠ X.env.locals:=fun x c e z=>by
 obtain⟨v,o,ho,hd⟩:=I.cell x c e
 obtain⟨m,⟨o',es,ep,DN,GK,_⟩,_⟩:=I.loc
 rw[z,DN]at ho;cases ho;rw[GK]at hd;cases hd
theorem Inv.Ba (I:Inv X pins σ H s):s.heap.FunFrames X.base X.outer:=by
 have all:∀ (l:List Env),(∀ b ∈ lg l,b ∈ X.fs)->X.s₀.heap.FunFrames X.base l->s.heap.FunFrames X.base l:=by
  intro l
  induction l with
  | nil=>intro _ _;trivial
  | cons env r ih =>
   intro hs hl
   obtain⟨hk,⟨L,o,hf,hn,ho,hd⟩,hr⟩:=hl
   have hL:L ∈ X.fs:=hs L (by unfold lg;rw[filterMap_cons,hf];exact mem_cons_self)
   obtain⟨sl,e⟩:=I.base.slot L o ho (I.ok.GJ L hL) hL fun z=>I.ok.E8 L z hL
   exact⟨hk,⟨L,_,hf,hn,e,hd⟩,ih (fun b hb=>hs b (by unfold lg;rw[filterMap_cons,hf];exact mem_cons_of_mem _ hb)) hr⟩
 exact all X.outer (fun _ hb=>hb) I.ok.Ba
theorem Inv.stack (I:Inv X pins σ H s):s.heap.FunFrames X.base X.stack:=by
 rcases I.ok.Og with e | ⟨e,hf⟩
 ·rw[e];exact I.Ba
 ·rw[e]
  obtain⟨m,hn,_⟩:=I.loc
  refine .cons (by rw[I.ok.kind];decide) hf hn ?_ I.Ba
  exact Heap.get?_none_of_le (le_trans I.ok.E7 I.ok.above)
theorem Inv.AL (I:Inv X pins σ H s):∀ b ∈ lg X.stack,b ∈ X.env.locals :: X.fs:=fun b hb=>by
 rcases I.ok.Og with e | ⟨e,hf⟩
 ·rw[e]at hb;exact mem_cons_of_mem _ hb
 ·rw[e]at hb
  unfold lg at hb
  rw[filterMap_cons,hf]at hb
  exact hb
theorem Inv.BJ (I:Inv X pins σ H s):∀ b ∈ lg X.stack,H b=none:=fun b hb=>by
 rcases mem_cons.mp (I.AL b hb) with e | hb
 ·rw[e];exact I.free
 ·obtain⟨_,o,ho,_⟩:=I.ok.Ba.mem hb
  exact I.base.free b o ho (I.ok.GJ b hb) fun z=>I.ok.E8 b z hb
theorem Inv.step {g':Array GenState}{t':Nat}{d':Drawn}{ch:List Addr}(I:Inv X pins σ H s)
  (Bw:∀ b ∈ ch,(b ∈ X.ex∨X.s₀.heap.objs.size <= b)/\b ≠ X.env.locals/\(∀ x c,X.env.cells.lookup x=some c->c ≠ b)/\∀ p ∈ X.pn ++ pins,p.1 ≠ b)
  (keep:∀ b o,b ≠ X.env.locals->b ∉ X.fs->b ∉ ch->s.heap.get? b=some o->H b=none->h'.get? b=some o)
  (slot:∀ b o,b ≠ X.env.locals->b ∈ X.fs->b ∉ ch->s.heap.get? b=some o->H b=none->∃ sl,h'.get? b=some { o with slots:=sl }) (free:∀ b o,b ∉ ch->s.heap.get? b=some o->H b=none->H' b=none)
  (there:∀ b o,b ∉ ch->s.heap.get? b=some o->∃ o',h'.get? b=some o')
  (Bm:∀ b xs,H b=some (.tup xs)->H' b=some (.tup xs)) (AZ:∀ b o u,H b=some (.AU o u)->H' b=some (.AU o u)) (Bn:∀ b ps,H b=some (.F0 ps)->∃ more,H' b=some (.F0 (ps ++ more)))
  (ns:∀ m,s.heap.Ns X.env.locals m->h'.Ns X.env.locals m) (ze:Ad X.prog X.w H' h') (hg:AllBare g') :
  Inv X pins σ H' { s with heap:=h',gens:=g',drawn:=d',toks:=t' }:=by
 have V8:∀ b o,X.s₀.heap.get? b=some o->b ≠ X.env.locals:=fun b o e=>ne_of_lt (lt_of_lt_of_le (lt_size e) I.ok.above)
 have Oh:∀ b o,X.s₀.heap.get? b=some o->b ∉ X.ex->b ∉ ch:=fun b o e hx hb=>by
  rcases (Bw b hb).1 with z | z
  ·exact hx z
  ·exact absurd (lt_of_lt_of_le (lt_size e) z) (lt_irrefl _)
 have cellK:∀ x c,X.env.cells.lookup x=some c->∀ v,s.heap.IsCell c v->h'.IsCell c v:=fun x c e v ⟨o,ho,hd⟩=>by
  have J9:c ∉ ch:=fun z=>(Bw c z).2.2.1 x c e rfl
  by_cases hc:c ∈ X.fs
  ·obtain⟨sl,q⟩:=slot c o (I.Ep x c e) hc J9 ho (I.zM x c e)
   exact⟨_,q,hd⟩
  ·exact⟨o,keep c o (I.Ep x c e) hc J9 ho (I.zM x c e),hd⟩
 refine⟨I.ok,I.os,hg,⟨fun b o e n hb hx=>?_,fun b o e n hb hx=>?_,fun b o e n hx=>?_,fun b o e hx=>?_,fun b xs e=>Bm b xs (I.base.Bm b xs e),fun b o xs e=>AZ b o xs (I.base.AZ b o xs e),fun b ps e=>?_⟩,?_,fun x c e=>?_,?_,fun x c e=>?_,fun p hp=>?_,ze,I.len⟩
 ·exact keep b o (V8 b o e) hb (Oh b o e hx) (I.base.keep b o e n hb hx) (I.base.free b o e n hx)
 ·obtain⟨sl,e1⟩:=I.base.slot b o e n hb hx
  obtain⟨sl',e2⟩:=slot b _ (V8 b o e) hb (Oh b o e hx) e1 (I.base.free b o e n hx)
  exact⟨sl',e2⟩
 ·obtain⟨o',e1⟩:=I.base.there b o e hx
  exact free b o' (Oh b o e hx) e1 (I.base.free b o e n hx)
 ·obtain⟨o',e1⟩:=I.base.there b o e hx
  exact there b o' (Oh b o e hx) e1
 ·obtain⟨m1,e1⟩:=I.base.Bn b ps e
  obtain⟨m2,e2⟩:=Bn b _ e1
  exact⟨m1 ++ m2,by rw[e2,Array.append_assoc]⟩
 ·obtain⟨m,hn,hl⟩:=I.loc
  refine⟨m,ns m hn,fun i x v e1 e2 e3=>?_⟩
  obtain⟨u,r,l⟩:=hl i x v e1 e2 e3
  refine⟨u,r,?_⟩
  rcases l with l | ⟨k,c,e,z⟩
  ·exact .inl l
  ·exact .inr ⟨k,c,e,cellK x c e _ z⟩
 ·obtain⟨v,z⟩:=I.cell x c e
  exact⟨v,cellK x c e v z⟩
 ·obtain⟨m,⟨o,_,_,ho,_⟩,_⟩:=I.loc
  exact free _ o (fun z=>(Bw _ z).2.1 rfl) ho I.free
 ·obtain⟨v,o,ho,hd⟩:=I.cell x c e
  exact free c o (fun z=>(Bw c z).2.2.1 x c e rfl) ho (I.zM x c e)
 ·obtain⟨e,n,ne,nf,d⟩:=I.pin p hp
  have J9:p.1 ∉ ch:=fun z=>(Bw p.1 z).2.2.2 p hp rfl
  exact⟨keep p.1 p.2 ne nf J9 e n,free p.1 p.2 J9 e n,ne,nf,d⟩
theorem Inv.un {t':Nat}(I:Inv X pins σ H s)(u:Un X.fs [] H H' s.heap h')(ze:Ad X.prog X.w H' h'):Inv X pins σ H' { s with heap:=h',toks:=t' }:=by
 obtain⟨m,⟨o,es,ep,ho,r⟩,_⟩:=id I.loc
 obtain⟨sl,hL⟩:=u.any ho I.free (by simp)
 exact I.step (g':=s.gens) (d':=s.drawn) (ch:=[]) (fun _ z=>nomatch z) (fun b o _ hb _ e n=>u.keep b o e n hb (by simp)) (fun b o _ hb _ e n=>u.slot b o e n hb (by simp)) (fun b o _ e n=>u.free b o e n (by simp)) (fun b o _ e=>u.there b o e (by simp)) u.Bm u.AZ u.Bn (fun m' hm=>by
  obtain⟨o',Oi,Qi,DN,r'⟩:=hm
  rw[ho]at DN;cases DN
  exact⟨_,Oi,Qi,hL,r'⟩) ze I.bare
theorem Inv.call {g':Array GenState}{t':Nat}{d':Drawn}{ch:List Addr}(I:Inv X pins σ H s)(u:Un (lg X.stack) ch H H' s.heap h')(ze:Ad X.prog X.w H' h')(hg:AllBare g')
  (Bw:∀ b ∈ ch,(b ∈ X.ex∨X.s₀.heap.objs.size <= b)/\b ≠ X.env.locals/\(∀ x c,X.env.cells.lookup x=some c->c ≠ b)/\∀ p ∈ X.pn ++ pins,p.1 ≠ b) :
  Inv X pins σ H' { s with heap:=h',gens:=g',drawn:=d',toks:=t' }:=by
 obtain⟨m,⟨o,es,ep,ho,r⟩,_⟩:=id I.loc
 obtain⟨sl,hL⟩:=u.any ho I.free fun z=>(Bw _ z).2.1 rfl
 exact I.step (ch:=ch) Bw (fun b o hL hb hc e n=>u.keep b o e n (fun z=>(mem_cons.mp (I.AL b z)).elim hL hb) hc) (fun b o _ _ hc e n=>u.any e n hc) (fun b o hc e n=>u.free b o e n hc) (fun b o hc e=>u.there b o e hc) u.Bm u.AZ u.Bn (fun m' hm=>by
  obtain⟨o',Oi,Qi,DN,r'⟩:=hm
  rw[ho]at DN;cases DN
  exact⟨_,Oi,Qi,hL,r'⟩) ze hg
theorem Inv.turned {t':Nat}{it:Addr}(I:Inv X pins σ H s)(k:∀ b o,b ≠ it->s.heap.get? b=some o->h'.get? b=some o)(hn:H it=none)(hL:it ≠ X.env.locals)
  (h1:it ∈ X.ex∨X.s₀.heap.objs.size <= it) (h2:∀ x c,X.env.cells.lookup x=some c->c ≠ it) (h3:∀ p ∈ X.pn ++ pins,p.1 ≠ it):Inv X pins σ H { s with heap:=h',toks:=t' }:=by
 have V9:∀ b u,H b=some u->b ≠ it:=fun b u e z=>by rw[z,hn]at e;cases e
 refine I.step (g':=s.gens) (d':=s.drawn) (ch:=[it]) (fun b hb=>?_) (fun b o _ _ hc e _=>k b o (fun z=>hc (by simp[z])) e) (fun b o _ _ hc e _=>⟨o.slots,k b o (fun z=>hc (by simp[z])) e⟩) (fun _ _ _ _ n=>n)
  (fun b o hc e=>⟨o,k b o (fun z=>hc (by simp[z])) e⟩) (fun _ _ e=>e) (fun _ _ _ e=>e) (fun b ps e=>⟨#[],by rw[e];simp⟩) (fun m hm=>?_) (fun b u e=>?_) I.bare
 ·have e:b=it:=by simpa using hb
  subst e
  exact⟨h1,hL,h2,h3⟩
 ·obtain⟨o,es,ep,ho,r⟩:=hm
  exact⟨o,es,ep,k _ o (Ne.symm hL) ho,r⟩
 ·refine(I.ze b u e).AY (fun c v hc q=>k c v ?_ q) (fun _ q=>q) fun _ _ q=>q
  rcases hc with z | z
  ·rw[z];exact V9 b u e
  ·exact V9 c _ z
theorem Inv.tok (I:Inv X pins σ H s)(t:Nat):Inv X pins σ H { s with toks:=t }:=I.un (h':=s.heap) (t':=t) Un.refl I.ze
theorem Inv.kept {t':Nat}(I:Inv X pins σ H s)(k:∀ b u,s.heap.get? b=some u->h'.get? b=some u):Inv X pins σ H { s with heap:=h',toks:=t' }:=I.un (Un.kept k) (I.ze.kept k)
theorem Inv.laid {a:Addr}{o:HO}{t':Nat}(I:Inv X pins σ H s)(k:∀ b u,s.heap.get? b=some u->h'.get? b=some u)(hp:s.heap.objs.size <= a)(new:zq X.prog X.w (upd H a o) h' a o) :
  Inv X pins σ (upd H a o) { s with heap:=h',toks:=t' }:=I.un (Un.laid k hp (I.ze.fresh hp)) (I.ze.laid k hp new)
theorem Inv.write {x e:Addr}{o:HO}{t':Nat}(I:Inv X pins σ H s)(mu:J6 (H x))(he:e=x∨H e=some (.own x))(k:∀ b u,b ≠ e->s.heap.get? b=some u->h'.get? b=some u)(IP:∃ u,h'.get? e=some u)
  (new:zq X.prog X.w (upd H x o) h' x o):Inv X pins σ (upd H x o) { s with heap:=h',toks:=t' }:=I.un (Un.write mu he k IP) (I.ze.write mu he k IP new)
theorem Inv.Ap {Cb:List (Addr × Obj)}(I:Inv X pins σ H s)(h:∀ p ∈ Cb,s.heap.get? p.1=some p.2/\H p.1=none/\p.1 ≠ X.env.locals/\p.1 ∉ X.fs/\∀ v,p.2.data ≠ .cell v):Inv X Cb σ H s :=
 ⟨I.ok,I.os,I.bare,I.base,I.loc,I.cell,I.free,I.zM,fun p hp=>(mem_append.mp hp).elim (fun z=>I.pin p (mem_append_left _ z)) (h p),I.ze,I.len⟩
theorem lY {N:List Str}(hN:N.Nodup){i j:Nat}{x:Str}(a:N[i]? = some x)(b:N[j]? = some x):i=j:=by
 obtain⟨h1,e1⟩:=List.getElem?_eq_some_iff.mp a
 obtain⟨h2,e2⟩:=List.getElem?_eq_some_iff.mp b
 exact(List.getElem_inj hN).mp (e1.trans e2.symm)
theorem jG {M:Model}{A:Around}{E:Value->Shared->Prop}{i:Nat}{x:Str}{v:V}{u:Value}{Q:Unit->Shared->Prop}(I:Inv X pins σ H s)(hN:X.N.Nodup)(hi:X.N[i]? = some x)(hx:Loc X.env.scope x)(r:RelV v u)
  (h:∀ s',Inv X pins (σ.set i (some v)) H s'->(∃ a,Heap.SameBut a s.heap s'.heap/\(a=X.env.locals∨X.env.cells.lookup x=some a))->Q () s') (hf:X.fn x=true∨X.env.scope.names.lookup x=some .local:=by first | exact .inl rfl | exact .inr rfl | assumption):wpAny M A (storeName X.env x u) Q E s:=by
 obtain⟨m,hn,hl⟩:=id I.loc
 have Qj:(X.env.scope.kind == .class || (X.env.scope.kind == .module && X.env.locals != X.env.globals))=false:=by rw[I.ok.kind];rfl
 have JA:i < σ.length:=by rw[I.len];exact(List.getElem?_eq_some_iff.mp hi).1
 have Ep:=I.Ep
 have tracked:∀ {a:Addr}{h':Heap},(∃ o,s.heap.get? a=some o/\H a=none)->Heap.SameBut a s.heap h'->Ad X.prog X.w H h':=fun {a h'} ha hs b ob e=>by
  obtain⟨_,_,F1⟩:=ha
  refine(I.ze b ob e).AY (fun c w' hc q=>(hs.2 c ?_).trans q) (fun _ q=>q) fun _ _ q=>q
  rintro rfl
  rcases hc with rfl | hc
  ·rw[F1]at e;cases e
  ·rw[F1]at hc;cases hc
 rcases hx with hk | hk
 ·refine wpAny_storeName_local hk hn (fun h' BW hs=>?_) Qj
  obtain⟨oL,_,_,hoL,_⟩:=id hn
  refine h _ ⟨I.ok,I.os,I.bare,⟨fun b o e n hb hx=>?_,fun b o e n hb hx=>?_,I.base.free,fun b o e hx=>?_,I.base.Bm,I.base.AZ,I.base.Bn⟩,⟨_,BW,fun j y v' e1 e2 e3=>?_⟩,fun y c e=>?_,I.free,I.zM,fun p hp=>?_,tracked ⟨oL,hoL,I.free⟩ hs,by simpa using I.len⟩ ⟨_,hs, .inl rfl⟩
  ·exact(hs.2 b (ne_of_lt (lt_of_lt_of_le (lt_size e) I.ok.above))).trans (I.base.keep b o e n hb hx)
  ·obtain⟨sl,e1⟩:=I.base.slot b o e n hb hx
   exact⟨sl,(hs.2 b (ne_of_lt (lt_of_lt_of_le (lt_size e) I.ok.above))).trans e1⟩
  ·obtain⟨o',e1⟩:=I.base.there b o e hx
   exact⟨o',(hs.2 b (ne_of_lt (lt_of_lt_of_le (lt_size e) I.ok.above))).trans e1⟩
  ·by_cases hj:j=i
   ·subst hj
    rw[hi]at e1;cases e1
    rw[List.getElem?_set_self JA]at e2
    cases e2
    exact⟨u,r, .inl ⟨hk,by simp⟩⟩
   ·rw[List.getElem?_set_ne (Ne.symm hj)]at e2
    obtain⟨u',r',q⟩:=hl j y v' e1 e2 e3
    refine⟨u',r',?_⟩
    rcases q with ⟨k,e⟩ | ⟨k,c,e,z⟩
    ·refine .inl ⟨k,?_⟩
     have:y ≠ x:=fun e=>hj (lY hN e1 (e ▸ hi))
     simp[this,e]
    ·exact .inr ⟨k,c,e,z.sameBut hs (Ep y c e)⟩
  ·obtain⟨w',z⟩:=I.cell y c e
   exact⟨w',z.sameBut hs (Ep y c e)⟩
  ·obtain⟨e,n,ne,nf,d⟩:=I.pin p hp
   exact⟨(hs.2 p.1 ne).trans e,n,ne,nf,d⟩
 ·have Qk:X.fn x=true:=by
   rcases hf with z | z
   ·exact z
   ·rw[z]at hk;cases hk
  obtain⟨c,hc⟩:=I.ok.has x (.inl hk)
  obtain⟨w',z⟩:=I.cell x c hc
  refine wpAny_storeName_cell I.ok.kind hk hc z (fun h' IS hs=>?_)
  obtain⟨oc,VA,Ql⟩:=id z
  refine h { s with heap:=h' } ⟨I.ok,I.os,I.bare,⟨fun b o e n hb hx=>?_,fun b o e n hb hx=>?_,I.base.free,fun b o e hx=>?_,I.base.Bm,I.base.AZ,I.base.Bn⟩,⟨m,hn.sameBut hs (Ne.symm (Ep x c hc)),fun j y v' e1 e2 e3=>?_⟩,fun y c' e=>?_,I.free,I.zM,fun p hp=>?_,tracked ⟨oc,VA,I.zM x c hc⟩ hs,by simpa using I.len⟩ ⟨c,hs, .inr hc⟩
  ·exact(hs.2 b (ne_of_lt (lt_of_lt_of_le (lt_size e) (I.ok.J8 x c Qk hc)))).trans (I.base.keep b o e n hb hx)
  ·obtain⟨sl,e1⟩:=I.base.slot b o e n hb hx
   exact⟨sl,(hs.2 b (ne_of_lt (lt_of_lt_of_le (lt_size e) (I.ok.J8 x c Qk hc)))).trans e1⟩
  ·obtain⟨o',e1⟩:=I.base.there b o e hx
   exact⟨o',(hs.2 b (ne_of_lt (lt_of_lt_of_le (lt_size e) (I.ok.J8 x c Qk hc)))).trans e1⟩
  ·by_cases hj:j=i
   ·subst hj
    rw[hi]at e1;cases e1
    rw[List.getElem?_set_self JA]at e2
    cases e2
    exact⟨u,r, .inr ⟨.inl hk,c,hc,IS⟩⟩
   ·rw[List.getElem?_set_ne (Ne.symm hj)]at e2
    obtain⟨u',r',q⟩:=hl j y v' e1 e2 e3
    refine⟨u',r',?_⟩
    rcases q with q | ⟨k,c',e,z'⟩
    ·exact .inl q
    ·refine .inr ⟨k,c',e,z'.sameBut hs ?_⟩
     rintro rfl
     exact hj (lY hN e1 (I.ok.inj _ _ _ e hc ▸ hi))
  ·by_cases Oj:c' = c
   ·subst Oj;exact⟨_,IS⟩
   ·obtain⟨w2,z2⟩:=I.cell y c' e
    exact⟨w2,z2.sameBut hs Oj⟩
  ·obtain⟨e,n,ne,nf,d⟩:=I.pin p hp
   refine⟨(hs.2 p.1 ?_).trans e,n,ne,nf,d⟩
   intro q
   rw[q,VA]at e
   have q':oc=p.2:=Option.some.inj e
   exact d w' (by rw[← q'];exact Ql)
theorem iZ {M:Model}{A:Around}{E:Value->Shared->Prop}{i:Nat}{x:Str}{v:V}{u:Value}{Q:Unit->Shared->Prop}(I:Inv X pins σ H s)(hN:X.N.Nodup)(hi:X.N[i]? = some x)(hx:Loc X.env.scope x)(r:RelV v u)
  (h:∀ s',Inv X pins (σ.set i (some v)) H s'->Q () s') (hf:X.fn x=true∨X.env.scope.names.lookup x=some .local:=by first | exact .inl rfl | exact .inr rfl | assumption):wpAny M A (storeName X.env x u) Q E s :=
 jG I hN hi hx r (fun s' I' _=>h s' I') hf
theorem Inv.F2 {s':Shared}{ch:List Addr}(I:Inv X pins σ H s)(ho:s'.os=s.os)(u:Un (lg X.stack) ch H H' s.heap s'.heap)(ze:Ad X.prog X.w H' s'.heap)(hg:AllBare s'.gens)
  (Bw:∀ b ∈ ch,(b ∈ X.ex∨X.s₀.heap.objs.size <= b)/\b ≠ X.env.locals/\(∀ x c,X.env.cells.lookup x=some c->c ≠ b)/\∀ p ∈ X.pn ++ pins,p.1 ≠ b):Inv X pins σ H' s':=by
 obtain⟨h',g',d',t',o'⟩:=s'
 have e:o' = s.os:=ho
 subst e
 exact I.call (g':=g') (t':=t') (d':=d') u ze hg Bw
end
noncomputable abbrev XK:=Value->Option Addr->Hp->Prop
noncomputable abbrev St:=List (Option V)
noncomputable abbrev VK:=V->Hp->Prop
noncomputable abbrev TE:=St->Hp->VK->Prop
noncomputable abbrev TT:=St->Hp->(Bool->Hp->Prop)->Prop
noncomputable abbrev TA:=St->Hp->(List V->Hp->Prop)->Prop
structure ls where
 nx:St->Hp->Prop
 rt:VK
 bk:St->Hp->Prop:=fun _ _=>False
 ct:St->Hp->Prop:=fun _ _=>False
noncomputable abbrev TS:=ls->St->Hp->Prop
noncomputable def EP (X:Cx)(pins:List (Addr × Obj))(σ:St)(Q:VK)(u:Value)(s':Shared):Prop:=∃ v H',Inv X pins σ H' s'/\RelV v u/\Q v H'
noncomputable def TP (X:Cx)(pins:List (Addr × Obj))(σ:St)(Q:Bool->Hp->Prop)(b:Bool)(s':Shared):Prop:=∃ H',Inv X pins σ H' s'/\Q b H'
noncomputable def AP (X:Cx)(pins:List (Addr × Obj))(σ:St)(Q:List V->Hp->Prop)(us:List Value)(s':Shared):Prop:=∃ vs H',Inv X pins σ H' s'/\Vals vs us/\Q vs H'
noncomputable def SP (X:Cx)(pins:List (Addr × Obj))(D:ls)(f:Flow)(s':Shared):Prop :=
 match f with
 | .next=>∃ σ' H',Inv X pins σ' H' s'/\D.nx σ' H'
 | .brk=>∃ σ' H',Inv X pins σ' H' s'/\D.bk σ' H'
 | .cont=>∃ σ' H',Inv X pins σ' H' s'/\D.ct σ' H'
 | .ret u=>∃ v σ' H',Inv X pins σ' H' s'/\RelV v u/\D.rt v H'
noncomputable def PE (X:Cx)(e:Expr)(t:TE):Prop :=
 ∀ (pins:List (Addr × Obj))(s:Shared)(σ:St)(H:Hp)(Q:VK),Inv X pins σ H s->t σ H Q->wpAny (model X.prog X.w) X.A (eval e X.env) (EP X pins σ Q) X.xe s
noncomputable def PT (X:Cx)(e:Expr)(t:TT):Prop :=
 ∀ (pins:List (Addr × Obj))(s:Shared)(σ:St)(H:Hp)(Q:Bool->Hp->Prop),Inv X pins σ H s->t σ H Q->wpAny (model X.prog X.w) X.A (isTrue e X.env (eval e X.env)) (TP X pins σ Q) X.xe s
noncomputable def PW (X:Cx)(e:Expr)(t:TT):Prop :=
 ∀ (whole:Sem Value)(pins:List (Addr × Obj))(s:Shared)(σ:St)(H:Hp)(Q:Bool->Hp->Prop),Inv X pins σ H s->t σ H Q->wpAny (model X.prog X.w) X.A (isTrue e X.env whole) (TP X pins σ Q) X.xe s
theorem PW.pt {X:Cx}{e:Expr}{t:TT}(h:PW X e t):PT X e t:=h _
noncomputable def PA (X:Cx)(es:List Expr)(t:TA):Prop :=
 ∀ (pos:Pos)(pins:List (Addr × Obj))(s:Shared)(σ:St)(H:Hp)(Q:List V->Hp->Prop),Inv X pins σ H s->t σ H Q->wpAny (model X.prog X.w) X.A (spliced (backTo pos (starEach es X.env))) (AP X pins σ Q) X.xe s
noncomputable def PS (X:Cx)(st:Stmt)(t:TS):Prop :=
 ∀ (pins:List (Addr × Obj))(s:Shared)(σ:St)(H:Hp)(D:ls),Inv X pins σ H s->t D σ H->wpAny (model X.prog X.w) X.A (exec st X.env) (SP X pins D) X.xe s
noncomputable def Bz (X:Cx)(st:List Stmt)(t:TS):Prop :=
 ∀ (pins:List (Addr × Obj))(s:Shared)(σ:St)(H:Hp)(D:ls),Inv X pins σ H s->t D σ H->wpAny (model X.prog X.w) X.A (execs st X.env) (SP X pins D) X.xe s
theorem aT {α:Type}{t:Sem α}{Q Q':α->Shared->Prop}{M:Model}{A:Around}{E:Value->Shared->Prop}{s:Shared}(h:wpAny M A t Q E s)(hQ:∀ a s,Q a s->Q' a s):wpAny M A t Q' E s:=wpAny_mono h hQ fun _ _ x=>x
end L2
namespace L2
open PySem PySem.Spec PyProof.Rows
section
variable {X:Cx}
noncomputable def qe (i:Nat):TE:=fun σ H Q=>∃ v,σ[i]? = some (some v)/\Q v H
noncomputable def tC (v:V):TE:=fun _ H Q=>Q v H
theorem xL {i:Nat}{x:Str}{pos:Pos}(hN:X.N[i]? = some x)(hv:Oe X.env.scope x)(hd:(x == ("__debug__":Str))=false:=by decide)(C2:(x == ("__classdict__":Str))=false:=by decide):PE X (.Name x pos) (qe i):=by
 intro pins s σ H Q I h
 obtain⟨v,e,h⟩:=h
 obtain⟨m,hn,hl⟩:=I.loc
 obtain⟨u,r,l⟩:=hl i x v hN e hv
 have fin:EP X pins σ Q u s:=⟨v,H,I,r,h⟩
 rcases l with ⟨hk,hm⟩ | ⟨hk,c,hc,B9⟩
 ·exact wpAny_Name (wpAny_loadName_local I.ok.kind hk hn hm fin) hd
 ·rcases hk with hk | hk
  ·exact wpAny_Name (wpAny_loadName_cell I.ok.kind hk hc B9 fin) hd
  ·exact wpAny_Name (wpAny_loadName_free I.ok.kind hk hc B9 fin C2) hd
theorem ah {i j pos}:PE X (.Constant (.int i) j pos) (tC (.int i)):=fun _ _ _ H _ I h=>wpAny_Constant_int ⟨.int i,H,I.tok _,⟨_,rfl⟩,h⟩
theorem lU {b j pos}:PE X (.Constant (.bool b) j pos) (tC (.bl b)):=fun _ _ _ H _ I h=>Constant_bool ⟨.bl b,H,I,rfl,h⟩
theorem cp {j pos}:PE X (.Constant .none j pos) (tC .zm):=fun _ _ _ H _ I h=>Constant_none ⟨.zm,H,I,rfl,h⟩
theorem aX {x j pos}:PE X (.Constant (.str x) j pos) (tC (.str x)):=fun _ _ _ H _ I h=>Calls.Constant_str ⟨.str x,H,I.tok _,⟨_,rfl⟩,h⟩
noncomputable def Gl (X:Cx)(x:Str):Prop:=X.env.kindOf x=some .globalImplicit
theorem gY {E:Value->Shared->Prop}{pins:List (Addr × Obj)}{s:Shared}{σ:St}{H:Hp}{x:Str}{u:Value}{pos:Pos}{Q:Value->Shared->Prop}(I:Inv X pins σ H s)(hg:Gl X x)(hm:X.mg x=some u)(h:Q u s)
  (hd:(x == ("__debug__":Str))=false:=by decide):wpAny (model X.prog X.w) X.A (eval (.Name x pos) X.env) Q E s :=
 Calls.Name_function_global I.ok.kind hg (Calls.loadGlobal_global (by rw[I.ok.glob];exact I.mod.glob.keeps I.bk) hm h) hd
theorem gp {E:Value->Shared->Prop}{pins:List (Addr × Obj)}{s:Shared}{σ:St}{H:Hp}{x:Str}{u:Value}{pos:Pos}{Q:Value->Shared->Prop}(I:Inv X pins σ H s)(hg:Gl X x)(hm:X.mg x=none)(hv:bootBuiltins x=some u)(h:Q u s)
  (hn:x ≠ "__name__":=by decide) (hd:(x == ("__debug__":Str))=false:=by decide):wpAny (model X.prog X.w) X.A (eval (.Name x pos) X.env) Q E s:=by
 obtain⟨mb,h1,h2⟩:=I.mod.blt
 exact Calls.Name_function_global I.ok.kind hg (Calls.loadGlobal_builtin (by rw[I.ok.glob];exact I.mod.glob.keeps I.bk) hm (by rw[I.ok.blt];exact h1.keeps I.bk) ((h2 x hn).trans hv) h) hd
theorem eI {x:Str}{v:V}{u:Value}{pos:Pos}(hg:Gl X x)(hm:X.mg x=some u)(r:RelV v u)(hd:(x == ("__debug__":Str))=false:=by decide):PE X (.Name x pos) (tC v) :=
 fun _ _ _ H _ I h=>gY I hg hm ⟨v,H,I,r,h⟩ hd
theorem eJ {x:Str}{v:V}{u:Value}{pos:Pos}(hg:Gl X x)(hm:X.mg x=none)(hv:bootBuiltins x=some u)(r:RelV v u)(hn:x ≠ "__name__":=by decide)(hd:(x == ("__debug__":Str))=false:=by decide):PE X (.Name x pos) (tC v) :=
 fun _ _ _ H _ I h=>gp I hg hm hv ⟨v,H,I,r,h⟩ hn hd
variable {a b:Expr}{ta tb:TE}{pos:Pos}
noncomputable def PC (X:Cx)(op:CmpOp)(a b:Expr)(t:TE):Prop :=
 ∀ (pins:List (Addr × Obj))(s:Shared)(σ:St)(H:Hp)(Q:VK),Inv X pins σ H s->t σ H Q ->
  wpAny (model X.prog X.w) X.A (eval a X.env) (fun v s₁=>wpAny (model X.prog X.w) X.A (eval b X.env) (fun u s₂=>wpAny (model X.prog X.w) X.A (compareOp op v u) (EP X pins σ Q) X.xe s₂) X.xe s₁) X.xe s
noncomputable def tB (t:TE):TT:=fun σ H Q=>t σ H fun x H1=>∃ c,x = .bl c/\Q c H1
theorem sS {op:CmpOp}{t:TE}(h:PC X op a b t)(h1:behindInMarks op b=false:=by first | exact JB _ (by decide) (by decide) | rfl):PT X (.Compare a [op] [b] pos) (tB t):=by
 intro pins s σ H Q I hw
 refine wpAny_isTrue_Compare1 (aT (h pins s σ H _ I hw) fun v s1 h1=>aT h1 fun u s2 h2=>aT h2 fun c s3 ⟨x,H1,I1,r1,q1⟩=>?_) h1
 obtain⟨d,rfl,q⟩:=q1
 cases r1
 exact wpAny_truthy_bool ⟨H1,I1,q⟩
theorem bK {e:Expr}{t:TE}(h:PE X e t)(he:∀ whole,isTrue e X.env whole=(do let v ← whole;standAt e.pos;holding [v] (truthy v)):=by intro _;rfl):PT X e (tB t):=by
 intro pins s σ H Q I hw
 refine isTrue_plain (aT (h pins s σ H _ I hw) fun v s1 ⟨x,H1,I1,r1,q1⟩=>?_) (he _)
 obtain⟨d,rfl,q⟩:=q1
 cases r1
 exact wpAny_truthy_bool ⟨H1,I1,q⟩
variable {tA Ol:TT}{rest:List Expr}
noncomputable def Qm (t u:TT):TT:=fun σ H Q=>t σ H fun c H1=>if c=true then u σ H1 Q else Q false H1
noncomputable def tOr (t u:TT):TT:=fun σ H Q=>t σ H fun c H1=>if c=true then Q true H1 else u σ H1 Q
noncomputable def Qn (t:TT):TT:=fun σ H Q=>t σ H fun c H1=>Q (!c) H1
theorem pf (ha:PT X a tA):PW X (.BoolOp .And [a] pos) tA:=by
 intro wh pins s σ H Q I h
 refine isTrue_and (aT (ha pins s σ H Q I h) fun c s1 e=>?_)
 cases c with
 | true=>exact isTrue_and_nil e
 | false=>exact e
theorem eE (ha:PT X a tA):PW X (.BoolOp .Or [a] pos) tA:=by
 intro wh pins s σ H Q I h
 refine isTrue_or (aT (ha pins s σ H Q I h) fun c s1 e=>?_)
 cases c with
 | false=>exact isTrue_or_nil e
 | true=>exact e
theorem sQ (ha:PT X a tA)(hb:PW X (.BoolOp .And (b :: rest) pos) Ol):PW X (.BoolOp .And (a :: b :: rest) pos) (Qm tA Ol):=by
 intro wh pins s σ H Q I h
 refine isTrue_and (aT (ha pins s σ H _ I h) fun c s1 zo=>?_)
 obtain⟨H1,I1,q1⟩:=zo
 cases c with
 | true=>exact hb wh pins s1 σ H1 Q I1 q1
 | false=>exact⟨H1,I1,q1⟩
theorem gP (ha:PT X a tA)(hb:PW X (.BoolOp .Or (b :: rest) pos) Ol):PW X (.BoolOp .Or (a :: b :: rest) pos) (tOr tA Ol):=by
 intro wh pins s σ H Q I h
 refine isTrue_or (aT (ha pins s σ H _ I h) fun c s1 zo=>?_)
 obtain⟨H1,I1,q1⟩:=zo
 cases c with
 | true=>exact⟨H1,I1,q1⟩
 | false=>exact hb wh pins s1 σ H1 Q I1 q1
theorem bW (ha:PT X a tA):PT X (.UnaryOp .Not a pos) (Qn tA):=by
 intro pins s σ H Q I h
 exact isTrue_not (ha pins s σ H (fun c H1=>Q (!c) H1) I h)
noncomputable def JC (ta tb:TE):TE:=fun σ H Q=>ta σ H fun x H1=>∃ c,x = .bl c/\if c=true then tb σ H1 Q else Q (.bl false) H1
noncomputable def Qo (ta tb:TE):TE:=fun σ H Q=>ta σ H fun x H1=>∃ c,x = .bl c/\if c=true then Q (.bl true) H1 else tb σ H1 Q
noncomputable def JD (ta:TE):TE:=fun σ H Q=>ta σ H fun x H1=>∃ c,x = .bl c/\Q (.bl (!c)) H1
theorem dI {op} {t:TE} (h:PE X a t):PE X (.BoolOp op [a] pos) t:=fun pins s σ H Q I hw=>BoolOp_one (h pins s σ H Q I hw)
theorem dJ (ha:PE X a ta)(hb:PE X (.BoolOp .And (b :: rest) pos) tb):PE X (.BoolOp .And (a :: b :: rest) pos) (JC ta tb):=by
 intro pins s σ H Q I h
 refine BoolOp_and (aT (ha pins s σ H _ I h) fun v s1 zo=>?_)
 obtain⟨x,H1,I1,r1,q1⟩:=zo
 obtain⟨c,rfl,q1⟩:=q1
 cases r1
 refine wpAny_truthy_bool ?_
 cases c with
 | true=>exact hb pins s1 σ H1 Q I1 q1
 | false=>exact⟨.bl false,H1,I1,rfl,q1⟩
theorem JE (ha:PE X a ta)(hb:PE X (.BoolOp .Or (b :: rest) pos) tb):PE X (.BoolOp .Or (a :: b :: rest) pos) (Qo ta tb):=by
 intro pins s σ H Q I h
 refine BoolOp_or (aT (ha pins s σ H _ I h) fun v s1 zo=>?_)
 obtain⟨x,H1,I1,r1,q1⟩:=zo
 obtain⟨c,rfl,q1⟩:=q1
 cases r1
 refine wpAny_truthy_bool ?_
 cases c with
 | false=>exact hb pins s1 σ H1 Q I1 q1
 | true=>exact⟨.bl true,H1,I1,rfl,q1⟩
theorem sY (ha:PE X a ta):PE X (.UnaryOp .Not a pos) (JD ta):=by
 intro pins s σ H Q I h
 refine UnaryOp_ (aT (ha pins s σ H _ I h) fun v s1 zo=>?_)
 obtain⟨x,H1,I1,r1,q1⟩:=zo
 obtain⟨c,rfl,q1⟩:=q1
 cases r1
 exact not_of (wpAny_truthy_bool ⟨.bl (!c),H1,I1,rfl,q1⟩)
noncomputable def tIf (t:TT)(ta tb:TE):TE:=fun σ H Q=>t σ H fun c H1=>if c=true then ta σ H1 Q else tb σ H1 Q
theorem cK {c:Expr}(hc:PT X c tA)(ha:PE X a ta)(hb:PE X b tb):PE X (.IfExp c a b pos) (tIf tA ta tb):=by
 intro pins s σ H Q I h
 refine wpAny_IfExp (aT (hc pins s σ H _ I h) fun d s1 zo=>?_)
 obtain⟨H1,I1,q1⟩:=zo
 cases d with
 | true=>exact ha pins s1 σ H1 Q I1 q1
 | false=>exact hb pins s1 σ H1 Q I1 q1
end
end L2
namespace L2
open PySem PySem.Spec PyProof.Rows
noncomputable def zb (K:Frag)(H:Hp)(a:Addr)(xs:List V):Prop :=
 Rd H a (.lst xs) ∨
  ∃ (o:Obj)(za:Array Value)(n:Nat),K.lookup a=some o/\o.cls = .type "list"/\o.dict=none/\o.data = .seq za n/\za.size <= sizeLine/\Vals xs za.toList
noncomputable def zc (K:Frag)(H:Hp)(a:Addr)(xs:List V):Prop :=
 Rd H a (.tup xs) ∨
  ∃ (o:Obj)(za:Array Value)(n:Nat),K.lookup a=some o/\o.cls = .type "tuple"/\o.data = .seq za n/\za.size <= sizeLine/\Vals xs za.toList
noncomputable def Qp:Value->Option V
 | .none=>some .zm
 | .bool b=>some (.bl b)
 | .int i _=>some (.int i)
 | .str x _=>some (.str x)
 | .bytes b _=>some (.CN b)
 | .float b _=>some (.GG b)
 | .ref a=>some (.ref a)
 | .type n=>some (.ty n)
 | _=>none
theorem RelV.abs {x:V}{u:Value}(r:RelV x u):Qp u=some x:=by
 cases x with
 | zm=>cases r;rfl
 | bl _=>cases r;rfl
 | int _=>obtain⟨t,rfl⟩:=r;rfl
 | str _=>obtain⟨t,rfl⟩:=r;rfl
 | CN _=>obtain⟨t,rfl⟩:=r;rfl
 | GG _=>obtain⟨t,rfl⟩:=r;rfl
 | ref _=>cases r;rfl
 | ty _=>cases r;rfl
theorem RelV.inj {x y:V}{u:Value}(r:RelV x u)(q:RelV y u):x=y:=Option.some.inj (r.abs.symm.trans q.abs)
theorem Vals.inj:∀ {xs ys:List V}{us:List Value},Vals xs us->Vals ys us->xs=ys
 | _,_,_, .nil, .nil=>rfl
 | _,_,_, .cons r t, .cons r' t'=>by rw[r.inj r',Vals.inj t t']
section
variable {X:Cx}{pins:List (Addr × Obj)}{σ:St}{H:Hp}{s:Shared}{a:Addr}{xs ys:List V}
theorem zb.of {K:Frag}(h:H a=some (.lst xs)):zb K H a xs := .inl (.inl h)
theorem zc.of {K:Frag}(h:H a=some (.tup xs)):zc K H a xs := .inl (.inl h)
theorem Inv.list (I:Inv X pins σ H s)(h:zb X.K H a xs):∃ za:List Value,Vals xs za/\PlainL s.heap a za.toArray/\xs.length <= sizeLine:=by
 rcases h with h | ⟨o,za,n,hk,hc,hd,hs,hz,r⟩
 ·obtain⟨z,za,n,r,e⟩:=h.ok I.ze
  exact⟨za,r,⟨_,n,e,rfl,rfl,rfl⟩,z⟩
 ·refine⟨za.toList,r,⟨o,n,I.Ac a o hk,hc,hd,by simpa using hs⟩,?_⟩
  have e:=r.length
  simp only[Array.length_toList]at e
  omega
theorem Inv.tuple (I:Inv X pins σ H s)(h:zc X.K H a xs):∃ za:List Value,Vals xs za/\IsTup s.heap a za.toArray/\xs.length <= sizeLine:=by
 rcases h with h | ⟨o,za,n,hk,hc,hs,hz,r⟩
 ·obtain⟨z,za,r,p⟩:=h.ok I.ze
  exact⟨za,r,p.isTup,z⟩
 ·refine⟨za.toList,r,⟨o,I.Ac a o hk,hc,n,by simpa using hs⟩,?_⟩
  have e:=r.length
  simp only[Array.length_toList]at e
  omega
theorem Inv.Cc (I:Inv X pins σ H s)(h:zb X.K H a xs)(h':zb X.K H a ys):xs=ys:=by
 obtain⟨za,r,⟨o,n,e,_,_,d⟩,_⟩:=I.list h
 obtain⟨its',r',⟨o',n',e',_,_,d'⟩,_⟩:=I.list h'
 rw[e]at e';cases e'
 rw[d]at d'
 injection d' with d1 _
 have:za=its':=by simpa using congrArg Array.toList d1
 subst this
 exact r.inj r'
theorem Inv.BA (I:Inv X pins σ H s)(h:zc X.K H a xs)(h':zc X.K H a ys):xs=ys:=by
 obtain⟨za,r,⟨o,e,_,n,d⟩,_⟩:=I.tuple h
 obtain⟨its',r',⟨o',e',_,n',d'⟩,_⟩:=I.tuple h'
 rw[e]at e';cases e'
 rw[d]at d'
 injection d' with d1 _
 have:za=its':=by simpa using congrArg Array.toList d1
 subst this
 exact r.inj r'
end
noncomputable abbrev Cx.B0 (X:Cx)(E:Value->Shared->Prop):Cx:={ X with xe:=E }
noncomputable abbrev Cx.Om (X:Cx):Cx:=X.B0 fun _ _=>False
theorem Cx.Ok.B0 {X:Cx}(ok:X.Ok)(E:Value->Shared->Prop):(X.B0 E).Ok :=
 ⟨ok.mod,ok.kind,ok.glob,ok.blt,ok.above,ok.inj,ok.has,ok.J8,ok.hd,ok.frames,ok.Og,ok.V7,ok.bs,ok.E7,ok.DL,ok.E8,ok.Ba,ok.GJ⟩
theorem Cx.Ok.Aj {X:Cx}{E:Value->Shared->Prop}(ok:(X.B0 E).Ok):X.Ok :=
 ⟨ok.mod,ok.kind,ok.glob,ok.blt,ok.above,ok.inj,ok.has,ok.J8,ok.hd,ok.frames,ok.Og,ok.V7,ok.bs,ok.E7,ok.DL,ok.E8,ok.Ba,ok.GJ⟩
section
variable {X:Cx}{pins:List (Addr × Obj)}{σ:St}{H:Hp}{s:Shared}{E:Value->Shared->Prop}
theorem Inv.B0 (I:Inv X pins σ H s)(E:Value->Shared->Prop):Inv (X.B0 E) pins σ H s:=⟨I.ok.B0 E,I.os,I.bare,I.base,I.loc,I.cell,I.free,I.zM,I.pin,I.ze,I.len⟩
theorem Inv.Aj (I:Inv (X.B0 E) pins σ H s):Inv X pins σ H s:=⟨I.ok.Aj,I.os,I.bare,I.base,I.loc,I.cell,I.free,I.zM,I.pin,I.ze,I.len⟩
theorem SP.Aj {D:ls}{f:Flow}{s':Shared}(h:SP (X.B0 E) pins D f s'):SP X pins D f s':=by
 cases f with
 | next=>obtain⟨σ',H',I,q⟩:=h;exact⟨σ',H',I.Aj,q⟩
 | brk=>obtain⟨σ',H',I,q⟩:=h;exact⟨σ',H',I.Aj,q⟩
 | cont=>obtain⟨σ',H',I,q⟩:=h;exact⟨σ',H',I.Aj,q⟩
 | ret u=>obtain⟨v,σ',H',I,r,q⟩:=h;exact⟨v,σ',H',I.Aj,r,q⟩
theorem Bz.Om {st:List Stmt}{t:TS}(h:Bz X.Om st t):Bz X st t:=fun pins s σ H D I hw =>
 wpAny_mono (h pins s σ H D (I.B0 _) hw) (fun _ _ q=>q.Aj) fun _ _ z=>False.elim z
end
section
variable {X:Cx}{st:Stmt}{rest:List Stmt}{t u:TS}{e:Expr}{te:TE}{pos:Pos}
noncomputable def JF:TS:=fun D σ H=>D.nx σ H
noncomputable def wW (t u:TS):TS:=fun D σ H=>t { D with nx:=u D } σ H
theorem aE:Bz X [] JF:=fun _ _ σ H _ I h=>wpAny_execs_nil ⟨σ,H,I,h⟩
theorem af (h1:PS X st t)(h2:Bz X rest u):Bz X (st :: rest) (wW t u):=by
 intro pins s σ H D I h
 refine wpAny_execs_cons (aT (h1 pins s σ H { D with nx:=u D } I h) fun f s1 q=>?_)
 cases f with
 | next =>
  obtain⟨σ',H',I',q⟩:=q
  exact h2 pins s1 σ' H' D I' q
 | ret v=>exact q
 | brk=>exact q
 | cont=>exact q
theorem ak (h1:PS X st t):Bz X [st] t:=by
 intro pins s σ H D I h
 refine wpAny_execs_cons (aT (h1 pins s σ H D I h) fun f s1 q=>?_)
 cases f with
 | next=>exact wpAny_execs_nil q
 | ret v=>exact q
 | brk=>exact q
 | cont=>exact q
theorem Inv.quiet {pins:List (Addr × Obj)}{σ:St}{H:Hp}{s:Shared}(I:Inv X pins σ H s):interactive X.env=false:=by simp[interactive,I.ok.kind]
noncomputable def JG (te:TE):TS:=fun D σ H=>te σ H fun _ H1=>D.nx σ H1
theorem aR (he:PE X e te)(hs:swapsWith e none pos.line X.env=pure false:=by rfl):PS X (.Expr e pos) (JG te):=by
 intro pins s σ H D I h
 exact wpAny_Expr_any (aT (he pins s σ H _ I h) fun v s1 ⟨x,H1,I1,r1,q1⟩=>⟨σ,H1,I1,q1⟩) I.quiet hs
noncomputable def Qq (te:TE):TS:=fun D σ H=>te σ H D.rt
theorem au (he:PE X e te):PS X (.Return (some e) pos) (Qq te):=by
 intro pins s σ H D I h
 exact wpAny_Return_some (aT (he pins s σ H _ I h) fun v s1 ⟨x,H1,I1,r1,q1⟩=>⟨x,σ,H1,I1,r1,q1⟩)
noncomputable def Qr (c:TT)(t u:TS):TS:=fun D σ H=>c σ H fun b H1=>if b=true then t D σ H1 else u D σ H1
theorem aN {c:Expr}{a b:List Stmt}{tc:TT}(hc:PT X c tc)(ha:Bz X a t)(hb:Bz X b u):PS X (.If c a b pos) (Qr tc t u):=by
 intro pins s σ H D I h
 refine wpAny_If (aT (hc pins s σ H _ I h) fun d s1 zo=>?_)
 obtain⟨H1,I1,q1⟩:=zo
 cases d with
 | true=>exact ha pins s1 σ H1 D I1 q1
 | false=>exact hb pins s1 σ H1 D I1 q1
end
noncomputable abbrev TG:=V->St->Hp->(St->Hp->Prop)->Prop
noncomputable abbrev yQ:=List V->St->Hp->(St->Hp->Prop)->Prop
noncomputable def PG (X:Cx)(target:Expr)(t:TG):Prop :=
 ∀ (pins:List (Addr × Obj))(s:Shared)(σ:St)(H:Hp)(v:V)(u:Value)(Q:St->Hp->Prop),Inv X pins σ H s->RelV v u->t v σ H Q ->
  wpAny (model X.prog X.w) X.A (assign target X.env u) (fun _ s'=>∃ σ' H',Inv X pins σ' H' s'/\Q σ' H') X.xe s
noncomputable def Oo (X:Cx)(ts:List Expr)(t:yQ):Prop :=
 ∀ (pins:List (Addr × Obj))(s:Shared)(σ:St)(H:Hp)(vs:List V)(us:List Value)(Q:St->Hp->Prop),Inv X pins σ H s->Vals vs us->t vs σ H Q ->
  wpAny (model X.prog X.w) X.A (assignInOrder ((assignEach ts X.env).map (·.2)) us) (fun _ s'=>∃ σ' H',Inv X pins σ' H' s'/\Q σ' H') X.xe s
noncomputable abbrev yP:=V->V->V->Hp->(Hp->Prop)->Prop
noncomputable def JH (X:Cx)(t:yP):Prop :=
 ∀ (pins:List (Addr × Obj))(s:Shared)(σ:St)(H:Hp)(o i v:V)(ov iv u:Value)(Q:Hp->Prop),Inv X pins σ H s->RelV o ov->RelV i iv->RelV v u->t o i v H Q ->
  wpAny (model X.prog X.w) X.A (setItem ov iv u) (fun _ s'=>∃ H',Inv X pins σ H' s'/\Q H') X.xe s
noncomputable abbrev Oq:=V->V->Hp->VK->Prop
noncomputable def VB (X:Cx)(op:Operator)(t:Oq):Prop :=
 ∀ (pins:List (Addr × Obj))(s:Shared)(σ:St)(H:Hp)(x y:V)(v u:Value)(Q:VK),Inv X pins σ H s->RelV x v->RelV y u->t x y H Q ->
  wpAny (model X.prog X.w) X.A (inplaceOp op v u) (EP X pins σ Q) X.xe s
section
variable {X:Cx}{pos:Pos}
noncomputable def c4 (i:Nat):TG:=fun v σ H Q=>Q (σ.set i (some v)) H
theorem av {i:Nat}{x:Str}(hN:X.N.Nodup)(hi:X.N[i]? = some x)(hx:Loc X.env.scope x)(hf:X.fn x=true∨X.env.scope.names.lookup x=some .local:=by first | exact .inl rfl | exact .inr rfl | assumption):PG X (.Name x pos) (c4 i):=by
 intro pins s σ H v u Q I r h
 exact wpAny_assign_Name (iZ I hN hi hx r (fun s' I'=>⟨_,H,I',h⟩) hf)
noncomputable def Qs:yQ:=fun vs σ H Q=>vs=[]/\Q σ H
noncomputable def JI (t:TG)(u:yQ):yQ:=fun vs σ H Q=>∃ v r,vs=v :: r/\t v σ H fun σ' H'=>u r σ' H' Q
theorem dC:Oo X [] Qs:=by
 intro pins s σ H vs us Q I r h
 obtain⟨e,h⟩:=h
 subst e
 cases r
 exact assignInOrder_nil ⟨σ,H,I,h⟩
theorem aO {e:Expr}{es:List Expr}{t:TG}{u:yQ}(h1:PG X e t)(h2:Oo X es u)
  (hs:(assignEach (e :: es) X.env).map (·.2)=assign e X.env :: (assignEach es X.env).map (·.2):=by rfl):Oo X (e :: es) (JI t u):=by
 intro pins s σ H vs us Q I r h
 obtain⟨v,vr,e1,h⟩:=h
 subst e1
 cases r with
 | cons r rr =>
  rw[hs]
  refine assignInOrder_cons (aT (h1 pins s σ H _ _ _ I r h) fun _ s1 zo=>?_)
  obtain⟨σ1,H1,I1,q1⟩:=zo
  exact h2 pins s1 σ1 H1 _ _ Q I1 rr q1
noncomputable def yC (K:Frag)(n:Nat)(t:yQ):TG:=fun v σ H Q=>∃ a xs,v = .ref a/\zc K H a xs/\xs.length=n/\t xs σ H Q
theorem fB {es:List Expr}{k:Nat}{t:yQ}{n:Nat}(hc:X.calm=true)(h:Oo X es t)
  (hn:(assignEach es X.env).length=n:=by rfl) (B1:(assignEach es X.env).findIdx? (·.1)=none:=by rfl):PG X (.Tuple es k pos) (yC X.K n t):=by
 intro pins s σ H v u Q I r hw
 obtain⟨a,xs,e1,hq,hl,hw⟩:=hw
 subst e1
 cases r
 obtain⟨za,rv,ht,hz⟩:=I.tuple hq
 refine assign_Tuple_tuple (I.ok.hd hc) ht (by simp[hn,← hl,rv.length]) B1 fun h' hx=>?_
 have I1:Inv X pins σ H { s with heap:=h' }:=I.kept (t':=s.toks) fun b o e=>hx b o (ne_of_lt (lt_size e)) e
 exact h pins _ σ H xs _ Q I1 (by simpa using rv) hw
noncomputable def Qt (to ti:TE)(t:yP):TG:=fun v σ H Q=>to σ H fun o H1=>ti σ H1 fun i H2=>t o i v H2 fun H3=>Q σ H3
theorem im {o i:Expr}{to ti:TE}{t:yP}(ho:PE X o to)(hi:PE X i ti)(hs:JH X t)
  (ha:∀ v,assign (.Subscript o i pos) X.env v=(do
   let ov ← holding [v] (eval o X.env)
   let iv ← holding [v,ov] (eval i X.env)
   standAt pos
   holding [v,ov,iv] (setItem ov iv v)
   release [v,ov,iv] []):=by intro _;rfl):PG X (.Subscript o i pos) (Qt to ti t):=by
 intro pins s σ H v u Q I r h
 rw[ha]
 refine wpAny_bind (wpAny_holding (aT (ho pins s σ H _ I h) fun ov s1 zo=>?_))
 obtain⟨x,H1,I1,r1,q1⟩:=zo
 refine wpAny_bind (wpAny_holding (aT (hi pins s1 σ H1 _ I1 q1) fun iv s2 zo=>?_))
 obtain⟨y,H2,I2,r2,q2⟩:=zo
 refine wpAny_bind (wpAny_standAt (wpAny_bind (wpAny_holding (aT (hs pins s2 σ H2 x y v ov iv u _ I2 r1 r2 r q2) fun _ s3 zo=>?_))))
 obtain⟨H3,I3,q3⟩:=zo
 exact wpAny_release ⟨σ,H3,I3,q3⟩
noncomputable def xg (te:TE)(g:TG):TS:=fun D σ H=>te σ H fun x H1=>g x σ H1 D.nx
theorem dH {tg e:Expr}{te:TE}{g:TG}(he:PE X e te)(hg:PG X tg g)(hs:swapsWithSole [tg] e pos.line X.env=pure false:=by rfl)(hw:swappedStores [tg] e X.env=pure none:=by rfl)
  (h1:(assignEach [tg] X.env).map (·.2)=[assign tg X.env]:=by rfl):PS X (.Assign [tg] e pos) (xg te g):=by
 intro pins s σ H D I h
 refine wpAny_Assign_stores (aT (he pins s σ H _ I h) fun v s1 ⟨x,H1,I1,r1,q1⟩=>?_) hs hw
 rw[h1]
 exact aT (hg pins s1 σ H1 x v _ I1 r1 q1) fun _ s2 q=>q
theorem aA {i:Nat}{x:Str}{e:Expr}{te:TE}{pos':Pos}(hN:X.N.Nodup)(hi:X.N[i]? = some x)(hx:Loc X.env.scope x)(he:PE X e te)(hs:swapsWith e (some (.Name x pos')) pos.line X.env=pure false:=by rfl)(hf:X.fn x=true∨X.env.scope.names.lookup x=some .local:=by first | exact .inl rfl | exact .inr rfl | assumption) :
  PS X (.Assign [.Name x pos'] e pos) (xg te (c4 i)):=by
 intro pins s σ H D I h
 refine wpAny_Assign_Name (aT (he pins s σ H _ I h) fun v s1 ⟨y,H1,I1,r1,q1⟩=>?_) hs
 exact iZ I1 hN hi hx r1 (fun s2 I2=>⟨_,H1,I2,q1⟩) hf
noncomputable def Qu (i:Nat)(te:TE)(ti:Oq):TS:=fun D σ H=>∃ x,σ[i]? = some (some x)/\te σ H fun y H1=>ti x y H1 fun z H2=>D.nx (σ.set i (some z)) H2
theorem xK {i:Nat}{x:Str}{e:Expr}{te:TE}{op:Operator}{ti:Oq}{pos':Pos}(hN:X.N.Nodup)(hi:X.N[i]? = some x)(hx:Loc X.env.scope x)(he:PE X e te)(ho:VB X op ti)(hf:X.fn x=true∨X.env.scope.names.lookup x=some .local:=by first | exact .inl rfl | exact .inr rfl | assumption) :
  PS X (.AugAssign (.Name x pos') op e pos) (Qu i te ti):=by
 intro pins s σ H D I h
 obtain⟨v,e1,h⟩:=h
 obtain⟨m,hn,hl⟩:=I.loc
 have vis:Oe X.env.scope x:=by rcases hx with k | k;exact .inl k;exact .inr (.inl k)
 obtain⟨u,r,l⟩:=hl i x v hi e1 vis
 refine wpAny_AugAssign_Name ?_
 have go:wpAny (model X.prog X.w) X.A (eval e X.env) (fun w s₂=>wpAny (model X.prog X.w) X.A (inplaceOp op u w) (fun r s₃=>wpAny (model X.prog X.w) X.A (storeName X.env x r) (fun _=>SP X pins D .next) X.xe s₃) X.xe s₂) X.xe s:=by
  refine aT (he pins s σ H _ I h) fun w s1 zo=>?_
  obtain⟨y,H1,I1,r1,q1⟩:=zo
  refine aT (ho pins s1 σ H1 v y u w _ I1 r r1 q1) fun z s2 zo=>?_
  obtain⟨zv,H2,I2,r2,q2⟩:=zo
  exact iZ I2 hN hi hx r2 (fun s3 I3=>⟨_,H2,I3,q2⟩) hf
 rcases l with ⟨hk,hm⟩ | ⟨hk,c,hc,B9⟩
 ·exact wpAny_loadName_local I.ok.kind hk hn hm go
 ·rcases hk with hk | hk
  ·exact wpAny_loadName_cell I.ok.kind hk hc B9 go
  ·rcases hx with k | k
   ·have:X.env.scope.names.lookup x=some .free:=hk
    rw[k]at this;cases this
   ·have:X.env.scope.names.lookup x=some .free:=hk
    rw[k]at this;cases this
noncomputable def ipI (f:Int->Int->Int):Oq:=fun x y H Q=>∃ i j,x = .int i/\y = .int j/\Q (.int (f i j)) H
theorem y6:VB X .Add (ipI fun i j=>i + j):=by
 intro pins s σ H x y v u Q I r1 r2 h
 obtain⟨i,j,e1,e2,q⟩:=h
 subst e1;subst e2
 obtain⟨t,rfl⟩:=r1
 obtain⟨t',rfl⟩:=r2
 exact iadd_int ⟨.int _,H,I.tok _,⟨_,rfl⟩,q⟩
end
section
variable {X:Cx}{pos:Pos}
noncomputable def wV (c:TT)(tb:TS):TS:=fun D σ H=>∃ W:Nat->St->Hp->Prop,(∃ m,W m σ H)/\∀ m σ H,W m σ H ->
 c σ H fun b H1=>if b=true then ∃ N:St->Hp->Prop,(∀ σ' H',N σ' H'->∃ m',m' < m/\W m' σ' H')/\tb { D with nx:=N,ct:=N,bk:=D.nx } σ H1 else D.nx σ H1
theorem sU {c:Expr}{body:List Stmt}{tc:TT}{tb:TS}(hp:PassesOwn (model X.prog X.w) X.A X.env X.xe)(hc:PT X c tc)(hb:Bz X body tb):PS X (.While c body [] pos) (wV tc tb):=by
 intro pins s σ H D I h
 obtain⟨W,⟨m0,w0⟩,turn⟩:=h
 refine wpAny_While (codeAny_whileLoop (fun n s'=>∃ σ' H',Inv X pins σ' H' s'/\W n σ' H') ?_ m0 ⟨σ,H,I,w0⟩)
 rintro n s1 ⟨σ1,H1,I1,w1⟩
 refine wpAny_passesOwn hp (aT (hc pins s1 σ1 H1 _ I1 (turn n σ1 H1 w1)) fun b s2 zo=>?_)
 obtain⟨H2,I2,q2⟩:=zo
 cases b with
 | true =>
  obtain⟨N,hN,q2⟩:=q2
  rw[if_pos rfl]
  refine wpAny_passesOwn hp (aT (hb pins s2 σ1 H2 _ I2 q2) fun f s3 q3=>?_)
  cases f with
  | next =>
   obtain⟨σ3,H3,I3,n3⟩:=q3
   obtain⟨m',hm,w3⟩:=hN σ3 H3 n3
   exact⟨m',hm,σ3,H3,I3,w3⟩
  | cont =>
   obtain⟨σ3,H3,I3,n3⟩:=q3
   obtain⟨m',hm,w3⟩:=hN σ3 H3 n3
   exact⟨m',hm,σ3,H3,I3,w3⟩
  | brk=>exact q3
  | ret v=>exact q3
 | false =>
  rw[if_neg Bool.false_ne_true]
  exact wpAny_execs_nil ⟨σ1,H2,I2,q2⟩
end
structure It where
 go:Nat->Hp->Prop
 Er:Nat->Hp->V->Hp->Prop
 stop:Nat->Hp->Prop
noncomputable def fX (X:Cx)(pins:List (Addr × Obj))(H:Hp)(b:Addr):Prop :=
 H b=none/\b ≠ X.env.locals/\b ∉ X.fs/\(b ∈ X.ex∨X.s₀.heap.objs.size <= b)/\(∀ x c,X.env.cells.lookup x=some c->c ≠ b)/\∀ p ∈ X.pn ++ pins,p.1 ≠ b
theorem Inv.Dq {X:Cx}{pins:List (Addr × Obj)}{σ:St}{H H':Hp}{s:Shared}{b:Addr}(I:Inv X pins σ H s)(hb:s.heap.objs.size <= b)(hn:H' b=none):fX X pins H' b:=by
 refine⟨hn,ne_of_gt (lt_of_lt_of_le I.lt hb),I.Qh hb, .inr (le_trans I.sz hb),fun x c e z=>?_,fun p hp z=>?_⟩
 ·obtain⟨v,q⟩:=I.cell x c e
  exact absurd (lt_of_lt_of_le q.lt (by rw[z];exact hb)) (lt_irrefl _)
 ·exact absurd (lt_of_lt_of_le (lt_size (I.pin p hp).1) (by rw[z];exact hb)) (lt_irrefl _)
structure mX (P:Program)(w:World)(K:Frag)(tg:Expr)(J:It)(fp:List Addr)(it:Addr)(tn:Nat->Heap->Prop):Prop where
 mem:it ∈ fp
 obj:∀ i h,tn i h->∀ b ∈ fp,∃ o,h.get? b=some o/\∀ v,o.data ≠ .cell v
 keep:∀ i h h',tn i h->(∀ b ∈ fp,∀ o,h.get? b=some o->h'.get? b=some o)->tn i h'
 item:∀ (X:Cx),X.prog=P->X.w=w->X.K=K->X.calm=true->∀ (i:Nat)(pins:List (Addr × Obj))(s:Shared)(σ:St)(H:Hp)(E:Value->Shared->Prop),Inv X pins σ H s->(∀ b ∈ fp,fX X pins H b)->tn i s.heap->J.go i H ->
  wpAny (model P w) X.A (pyNext (.ref it)) (fun r s1=>∃ u,r=some u /\
   wpAny (model P w) X.A (letOwnedTupleGo tg (.ref it) u) (fun _ s2=>∃ x H',Inv X pins σ H' s2/\RelV x u/\J.Er i H x H'/\tn (i + 1) s2.heap/\∀ b ∈ fp,H' b=none) E s1) E s
 done:∀ (X:Cx),X.prog=P->X.w=w->X.K=K->X.calm=true->∀ (i:Nat)(pins:List (Addr × Obj))(s:Shared)(σ:St)(H:Hp)(E:Value->Shared->Prop),Inv X pins σ H s->(∀ b ∈ fp,fX X pins H b)->tn i s.heap->J.stop i H ->
  wpAny (model P w) X.A (pyNext (.ref it)) (fun r s1=>r=none/\Inv X pins σ H s1) E s
 self:∀ (A:Around)(i:Nat)(s:Shared)(Q:Value->Shared->Prop)(E:Value->Shared->Prop),tn i s.heap->Q (.ref it) s->wpAny (model P w) A (pyIter (.ref it)) Q E s
noncomputable abbrev TI:=St->Hp->(It->Hp->Prop)->Prop
noncomputable def VC (X:Cx)(pins:List (Addr × Obj))(σ:St)(tg:Expr)(R:It->Hp->Prop)(Ot:Value)(s2:Shared):Prop :=
 ∃ (it:Addr)(fp:List Addr)(tn:Nat->Heap->Prop)(J:It)(H':Hp),Ot = .ref it/\Inv X pins σ H' s2/\mX X.prog X.w X.K tg J fp it tn/\tn 0 s2.heap/\(∀ b ∈ fp,fX X pins H' b)/\R J H'
noncomputable def PI (X:Cx)(tg iter:Expr)(wi:TI):Prop :=
 ∀ (pins:List (Addr × Obj))(s:Shared)(σ:St)(H:Hp)(R:It->Hp->Prop),Inv X pins σ H s->wi σ H R ->
  wpAny (model X.prog X.w) X.A (eval iter X.env) (fun v s1=>wpAny (model X.prog X.w) X.A (pyIter v) (VC X pins σ tg R) X.xe s1) X.xe s
theorem pO {M:Model}{A:Around}{E:Value->Shared->Prop}{s:Shared}{tg:Expr}{it:Addr}{u:Value}{o:Obj}{n:String}{vs:Array Value}{Q:Unit->Shared->Prop}(ho:s.heap.get? it=some o)(hc:o.cls = .type n)(hd:o.data = .fields vs)
  (hn:["enumerate", "zip", "dict_itemiterator", "dict_reverseitemiterator", "odict_iterator", "itertools.zip_longest", "itertools.pairwise"].contains n=false) (hQ:Q () s):wpAny M A (letOwnedTupleGo tg (.ref it) u) Q E s:=by
 unfold letOwnedTupleGo
 cases tg<;>first
  | exact wpAny_pure hQ
  | (cases u<;>first
    | exact wpAny_pure hQ
    | (refine wpAny_bind (wpAny_load ho ?_)
       rw[hc,hd]
       show wpAny M A (if (["enumerate", "zip", "dict_itemiterator", "dict_reverseitemiterator", "odict_iterator", "itertools.zip_longest", "itertools.pairwise"].contains n && vs[0]? == some (rawInt _))=true then _ else _) Q E s
       rw[if_neg (by intro h;rw[hn,Bool.false_and]at h;cases h)]
       exact wpAny_pure hQ))
noncomputable def uC (K:Frag)(a:Addr):It :=
 ⟨fun i H=>∃ xs x,zb K H a xs/\xs[i]? = some x,fun i H x H'=>H' = H/\∀ xs,zb K H a xs->xs[i]? = some x,fun i H=>∃ xs,zb K H a xs/\xs.length <= i⟩
noncomputable def Ov (K:Frag)(a:Addr):It :=
 ⟨fun i H=>∃ xs x,zc K H a xs/\xs[i]? = some x,fun i H x H'=>H' = H/\∀ xs,zc K H a xs->xs[i]? = some x,fun i H=>∃ xs,zc K H a xs/\xs.length <= i⟩
noncomputable def u0 (lo:Int)(n:Nat):It:=⟨fun i _=>i < n,fun i H x H'=>H' = H/\x = .int (lo + i),fun i _=>n <= i⟩
theorem qb {P:Program}{w:World}{K:Frag}{tg:Expr}(a it:Addr):mX P w K tg (uC K a) [it] it (fun i h=>h.IsListIter it a i) where
 mem:=by simp
 obj:=fun i h st b hb=>by
  have e:b=it:=by simpa using hb
  subst e
  obtain⟨o,e,c,d⟩:=st
  exact⟨o,e,fun v z=>by rw[d]at z;cases z⟩
 keep:=fun i h h' st k=>st.at fun o e=>k it (by simp) o e
 item:=by
  intro X hP hw hK hc i pins s σ H E I hf st hg
  subst hP hw hK
  obtain⟨xs,x,hq,hx⟩:=hg
  obtain⟨za,rv,p,hz⟩:=I.list hq
  obtain⟨u,hu,ru⟩:=rv.get hx
  obtain⟨f0,f1,f2,f3,f4,f5⟩:=hf it (by simp)
  refine wpAny_pyNext_list_item st p.isList (x:=u) (by simpa using hu) fun h' DA sb=>?_
  have I1:Inv X pins σ H { s with heap:=h' }:=I.turned (t':=s.toks) (fun b o hb e=>(sb.2 b hb).trans e) f0 f1 f3 f4 f5
  obtain⟨o,e,c,d⟩:=id DA
  exact⟨u,rfl,pO (s:={ s with heap:=h' }) e c d (by decide) ⟨x,H,I1,ru,⟨rfl,fun ys hy=>by rw[I.Cc hy hq];exact hx⟩,DA,fun b hb=>(hf b hb).1⟩⟩
 done:=by
  intro X hP hw hK hc i pins s σ H E I hf st hg
  subst hP hw hK
  obtain⟨xs,hq,hx⟩:=hg
  obtain⟨za,rv,p,hz⟩:=I.list hq
  obtain⟨f0,f1,f2,f3,f4,f5⟩:=hf it (by simp)
  have hl:=rv.length
  exact wpAny_pyNext_list_end (I.ok.hd hc) st p.isList (by simp;omega) fun h' eb=>⟨rfl,I.turned (t':=s.toks) (fun b o hb e=>eb b o hb e) f0 f1 f3 f4 f5⟩
 self:=fun _ _ _ _ _ st h=>wpAny_pyIter_listiter st h
theorem nc {P:Program}{w:World}{K:Frag}{tg:Expr}(a it:Addr):mX P w K tg (Ov K a) [it] it (fun i h=>h.IsTupleIter it a i) where
 mem:=by simp
 obj:=fun i h st b hb=>by
  have e:b=it:=by simpa using hb
  subst e
  obtain⟨o,e,c,d⟩:=st
  exact⟨o,e,fun v z=>by rw[d]at z;cases z⟩
 keep:=fun i h h' st k=>st.at fun o e=>k it (by simp) o e
 item:=by
  intro X hP hw hK hc i pins s σ H E I hf st hg
  subst hP hw hK
  obtain⟨xs,x,hq,hx⟩:=hg
  obtain⟨za,rv,p,hz⟩:=I.tuple hq
  obtain⟨u,hu,ru⟩:=rv.get hx
  obtain⟨f0,f1,f2,f3,f4,f5⟩:=hf it (by simp)
  refine wpAny_pyNext_tuple_item st (show s.heap.IsTuple a za.toArray from p) (x:=u) (by simpa using hu) fun h' DA sb=>?_
  have I1:Inv X pins σ H { s with heap:=h' }:=I.turned (t':=s.toks) (fun b o hb e=>(sb.2 b hb).trans e) f0 f1 f3 f4 f5
  obtain⟨o,e,c,d⟩:=id DA
  exact⟨u,rfl,pO (s:={ s with heap:=h' }) e c d (by decide) ⟨x,H,I1,ru,⟨rfl,fun ys hy=>by rw[I.BA hy hq];exact hx⟩,DA,fun b hb=>(hf b hb).1⟩⟩
 done:=by
  intro X hP hw hK hc i pins s σ H E I hf st hg
  subst hP hw hK
  obtain⟨xs,hq,hx⟩:=hg
  obtain⟨za,rv,p,hz⟩:=I.tuple hq
  obtain⟨f0,f1,f2,f3,f4,f5⟩:=hf it (by simp)
  have hl:=rv.length
  exact wpAny_pyNext_tuple_end (I.ok.hd hc) st (show s.heap.IsTuple a za.toArray from p) (by simp;omega) fun h' eb=>⟨rfl,I.turned (t':=s.toks) (fun b o hb e=>eb b o hb e) f0 f1 f3 f4 f5⟩
 self:=fun _ _ _ _ _ st h=>wpAny_pyIter_tupleiter st h
theorem ng {P:Program}{w:World}{K:Frag}{tg:Expr}(it:Addr)(lo:Int)(n:Nat):mX P w K tg (u0 lo n) [it] it (fun i h=>IsRangeIter h it (lo + (i:Nat) * 1) ((n:Int) - (i:Nat)) 1) where
 mem:=by simp
 obj:=fun i h st b hb=>by
  have e:b=it:=by simpa using hb
  subst e
  exact⟨_,st,fun v z=>by
   have z':Data.fields _=Data.cell v:=z
   cases z'⟩
 keep:=fun i h h' st k=>k it (by simp) _ st
 item:=by
  intro X hP hw hK hc i pins s σ H E I hf st hg
  subst hP hw hK
  obtain⟨f0,f1,f2,f3,f4,f5⟩:=hf it (by simp)
  have W:=Walks.range (prog:=X.prog) (w:=X.w) (I.ok.hd hc) it lo 1 n
  refine W.item i s _ _ hg st fun v h' tk hv DA kk=>?_
  obtain⟨t,rfl⟩:=hv
  have I1:Inv X pins σ H { s with heap:=h',toks:=tk }:=I.turned (fun b o hb e=>kk b o (by simpa using hb) e) f0 f1 f3 f4 f5
  refine⟨_,rfl,pO (s:={ s with heap:=h',toks:=tk }) (n := "range_iterator") DA rfl rfl (by decide) ⟨.int (lo + i),H,I1,⟨t,?_⟩,⟨rfl,rfl⟩,DA,fun b hb=>(hf b hb).1⟩⟩
  rw[Int.mul_one]
 done:=by
  intro X hP hw hK hc i pins s σ H E I hf st hg
  subst hP hw hK
  obtain⟨f0,f1,f2,f3,f4,f5⟩:=hf it (by simp)
  exact wpAny_pyNext_range_end (I.ok.hd hc) st (by have:n <= i:=hg;omega) fun h' eb=>⟨rfl,I.turned (t':=s.toks) (fun b o hb e=>eb b o hb e) f0 f1 f3 f4 f5⟩
 self:=fun _ _ _ _ _ st h=>wpAny_pyIter_rangeiter st h
end L2
namespace L2
open PySem PySem.Spec PyProof.Rows
section
variable {X:Cx}{tg:Expr}
noncomputable def JK (K:Frag)(tl:TE):TI:=fun σ H R=>tl σ H fun x H1=>∃ a,x = .ref a/\(∃ xs,zb K H1 a xs)/\R (uC K a) H1
noncomputable def Qv (K:Frag)(tl:TE):TI:=fun σ H R=>tl σ H fun x H1=>∃ a,x = .ref a/\(∃ xs,zc K H1 a xs)/\R (Ov K a) H1
theorem bO {l:Expr}{tl:TE}(hl:PE X l tl):PI X tg l (JK X.K tl):=by
 intro pins s σ H R I h
 refine aT (hl pins s σ H _ I h) fun v s1 zo=>?_
 obtain⟨x,H1,I1,r1,q1⟩:=zo
 obtain⟨a,e,⟨xs,hq⟩,q⟩:=q1
 subst e
 cases r1
 obtain⟨za,rv,p,hz⟩:=I1.list hq
 refine wpAny_pyIter_list p.isList ?_
 refine⟨s1.heap.objs.size,[s1.heap.objs.size],_,_,H1,rfl,I1.kept (t':=s1.toks) fun b o e=>Heap.get?_push_of_some _ e,qb a _,⟨_,Heap.get?_push_size _ rfl,rfl,rfl⟩,fun b hb=>?_,q⟩
 have e:b=s1.heap.objs.size:=by simpa using hb
 subst e
 exact I1.Dq (le_refl _) (I1.ze.fresh (le_refl _))
theorem kO {l:Expr}{tl:TE}(hl:PE X l tl):PI X tg l (Qv X.K tl):=by
 intro pins s σ H R I h
 refine aT (hl pins s σ H _ I h) fun v s1 zo=>?_
 obtain⟨x,H1,I1,r1,q1⟩:=zo
 obtain⟨a,e,⟨xs,hq⟩,q⟩:=q1
 subst e
 cases r1
 obtain⟨za,rv,p,hz⟩:=I1.tuple hq
 refine wpAny_pyIter_tuple (show s1.heap.IsTuple a za.toArray from p) ?_
 refine⟨s1.heap.objs.size,[s1.heap.objs.size],_,_,H1,rfl,I1.kept (t':=s1.toks) fun b o e=>Heap.get?_push_of_some _ e,nc a _,⟨_,Heap.get?_push_size _ rfl,rfl,rfl⟩,fun b hb=>?_,q⟩
 have e:b=s1.heap.objs.size:=by simpa using hb
 subst e
 exact I1.Dq (le_refl _) (I1.ze.fresh (le_refl _))
theorem lO {pins:List (Addr × Obj)}{σ:St}{H:Hp}{s:Shared}{R:It->Hp->Prop}{E:Value->Shared->Prop}{lo hi:Int}{t u v:Tok}{tk:Nat}(I:Inv X pins σ H s)(h1:-(2 ^ 62) <= lo)(h2:lo < 2 ^ 62)(h3:-(2 ^ 62) <= hi)(h4:hi < 2 ^ 62)
  (q:R (u0 lo (hi - lo).toNat) H):wpAny (model X.prog X.w) X.A (pyIter (.ref s.heap.objs.size)) (VC X pins σ tg R) E { s with heap:=s.heap.push { cls := .type "range",data := .fields #[.int lo t, .int hi u, .int 1 v] },toks:=tk }:=by
 refine wpAny_pyIter_range (IsRange.new ..) (small_one h1 h2 h3 h4) ?_
 have I1:Inv X pins σ H { s with heap:=s.heap.push { cls := .type "range",data := .fields #[.int lo t, .int hi u, .int 1 v] },toks:=tk }:=I.kept fun b o e=>Heap.get?_push_of_some _ e
 refine⟨(s.heap.push { cls := .type "range",data := .fields #[.int lo t, .int hi u, .int 1 v] }).objs.size,[(s.heap.push { cls := .type "range",data := .fields #[.int lo t, .int hi u, .int 1 v] }).objs.size],_,_,H,rfl,
  I1.kept (t':=tk) fun b o e=>Heap.get?_push_of_some _ e,ng _ lo (hi - lo).toNat,?_,fun b hb=>?_,q⟩
 ·have e1:lo + ((0:Nat):Int) * 1=lo:=by simp
  have e2:(((hi - lo).toNat:Nat):Int) - ((0:Nat):Int)=Builtin.Range.rangeSize lo hi 1:=by rw[rangeSize_one];split<;>omega
  show IsRangeIter _ _ (lo + ((0:Nat):Int) * 1) ((((hi - lo).toNat:Nat):Int) - ((0:Nat):Int)) 1
  rw[e1,e2]
  exact Heap.get?_push_size _ rfl
 ·have e:b=(s.heap.push { cls := .type "range",data := .fields #[.int lo t, .int hi u, .int 1 v] }).objs.size:=by simpa using hb
  subst e
  exact I1.Dq (le_refl _) (I1.ze.fresh (le_refl _))
noncomputable def JL (ta:TA):TI:=fun σ H R=>ta σ H fun vs H1=>∃ j:Int,vs=[.int j]/\-(2 ^ 62) <= j/\j < 2 ^ 62/\R (u0 0 j.toNat) H1
noncomputable def JM (ta:TA):TI:=fun σ H R=>ta σ H fun vs H1=>∃ i j:Int,vs=[.int i, .int j]/\(-(2 ^ 62) <= i/\i < 2 ^ 62/\-(2 ^ 62) <= j/\j < 2 ^ 62)/\R (u0 i (j - i).toNat) H1
theorem aM {a:Expr}{ta:TA}{p pos:Pos}(hg:Gl X "range")(hm:X.mg "range" = none)(ha:PA X [a] ta)(hs:starEach [a] X.env=[(false,eval a X.env)]:=by rfl):PI X tg (.Call (.Name "range" p) [a] [] pos) (JL ta):=by
 intro pins s σ H R I h
 refine Call_ (gp I hg hm boot_range (PyProof.Rows.callWith_type1 (aT (ha pos pins s σ H _ I h) fun us s1 ⟨vs,H1,I1,r1,q1⟩=>?_) hs rfl))
 obtain⟨j,e,q1,q2,q⟩:=q1
 subst e
 cases r1 with
 | cons r rr =>
  cases rr
  obtain⟨t,rfl⟩:=r
  exact call_range_1 (lO I1 (by omega) (by omega) q1 q2 (by simpa using q))
theorem qo {a b:Expr}{ta:TA}{p pos:Pos}(hg:Gl X "range")(hm:X.mg "range" = none)(ha:PA X [a,b] ta)(hs:starEach [a,b] X.env=[(false,eval a X.env),(false,eval b X.env)]:=by rfl)(Dr:starEach [b] X.env=[(false,eval b X.env)]:=by rfl) :
  PI X tg (.Call (.Name "range" p) [a,b] [] pos) (JM ta):=by
 intro pins s σ H R I h
 refine Call_ (gp I hg hm boot_range (PyProof.Rows.callWith_type1 (aT (ha pos pins s σ H _ I h) fun us s1 ⟨vs,H1,I1,r1,q1⟩=>?_) (by rw[hs,Dr]) (by rw[Dr];rfl)))
 obtain⟨i,j,e,⟨q1,q2,q3,q4⟩,q⟩:=q1
 subst e
 cases r1 with
 | cons r rr =>
  cases rr with
  | cons r' rr =>
   cases rr
   obtain⟨t,rfl⟩:=r
   obtain⟨t',rfl⟩:=r'
   exact call_range_2 (lO I1 q1 q2 q3 q4 q)
noncomputable def Qw (wi:TI)(g:TG)(tb:TS):TS:=fun D σ H=>wi σ H fun J H1=>∃ W:Nat->Nat->St->Hp->Prop,(∃ m,W 0 m σ H1)/\∀ i m σ H,W i m σ H ->
 (J.stop i H/\D.nx σ H)∨(J.go i H/\∃ N:St->Hp->Prop,(∀ σ' H',N σ' H'->∃ m',m' < m/\W (i + 1) m' σ' H')/\∀ x H',J.Er i H x H'->g x σ H' fun σ2 H2=>tb { D with nx:=N,ct:=N,bk:=D.nx } σ2 H2)
noncomputable def eG (fp:List Addr)(h:Heap):List (Addr × Obj):=fp.filterMap fun b=>(h.get? b).map fun o=>(b,o)
theorem eK {fp:List Addr}{h:Heap}{b:Addr}{o:Obj}(hb:b ∈ fp)(e:h.get? b=some o):(b,o) ∈ eG fp h:=List.mem_filterMap.mpr ⟨b,hb,by rw[e];rfl⟩
theorem jL {fp:List Addr}{h:Heap}{p:Addr × Obj}(hp:p ∈ eG fp h):p.1 ∈ fp/\h.get? p.1=some p.2:=by
 obtain⟨b,hb,e⟩:=List.mem_filterMap.mp hp
 cases q:h.get? b with
 | none=>rw[q]at e;cases e
 | some o =>
  rw[q]at e
  have e':(b,o)=p:=Option.some.inj e
  subst e'
  exact⟨hb,q⟩
theorem Inv.pinned {pins:List (Addr × Obj)}{σ:St}{H:Hp}{s:Shared}{fp:List Addr}(I:Inv X pins σ H s)(hf:∀ b ∈ fp,fX X pins H b)(ho:∀ b ∈ fp,∃ o,s.heap.get? b=some o/\∀ v,o.data ≠ .cell v):Inv X (pins ++ eG fp s.heap) σ H s :=
 I.Ap fun p hp=>(mem_append.mp hp).elim (fun z=>I.pin p (mem_append_right _ z)) fun z=>by
  obtain⟨hb,e⟩:=jL z
  obtain⟨f0,f1,f2,_⟩:=hf p.1 hb
  obtain⟨o,e',d⟩:=ho p.1 hb
  rw[e]at e';cases e'
  exact⟨e,f0,f1,f2,d⟩
theorem Inv.AA {pins pl:List (Addr × Obj)}{σ:St}{H:Hp}{s:Shared}(I:Inv X (pins ++ pl) σ H s):Inv X pins σ H s:=I.Ap fun p hp=>I.pin p (mem_append_right _ (mem_append_left _ hp))
theorem bN {iter:Expr}{body:List Stmt}{wi:TI}{g:TG}{tb:TS}{pos:Pos}(hp:PassesOwn (model X.prog X.w) X.A X.env X.xe)(hc:X.calm=true)(hi:PI X tg iter wi)(hg:PG X tg g)(hb:Bz X body tb)
  (hs:∀ x,foldedSetIterable iter X.env x=pure x:=by intro _;rfl):PS X (.For tg iter body [] pos) (Qw wi g tb):=by
 intro pins s σ H D I h
 refine wpAny_For (aT (hi pins s σ H _ I h) fun v s1 h1=>aT h1 fun Ot s2 h2=>?_) hs
 obtain⟨it,fp,tn,J,H2,e,I2,T,JN,f2,W,⟨m0,w0⟩,turn⟩:=h2
 subst e
 have stat:∀ {H':Hp},(∀ b ∈ fp,H' b=none)->∀ b ∈ fp,fX X pins H' b:=fun hn b hb=>⟨hn b hb,(f2 b hb).2⟩
 refine codeAny_forLoop_any (fun n s'=>∃ i σ' H',Inv X pins σ' H' s'/\tn i s'.heap/\(∀ b ∈ fp,H' b=none)/\W i n σ' H') ?_ m0 ⟨0,σ,H2,I2,JN,fun b hb=>(f2 b hb).1,w0⟩
 rintro n s3 ⟨i,σ3,H3,I3,VD,VE,w3⟩
 rcases turn i n σ3 H3 w3 with ⟨stop,qn⟩ | ⟨go,N,hN,step⟩
 ·refine wpAny_passesOwn hp (aT (T.done X rfl rfl rfl hc i pins s3 σ3 H3 X.xe I3 (stat VE) VD stop) fun r s4 zo=>?_)
  obtain⟨hr,I4⟩:=zo
  subst hr
  exact wpAny_execs_nil ⟨σ3,H3,I4,qn⟩
 ·refine wpAny_passesOwn hp (aT (T.item X rfl rfl rfl hc i pins s3 σ3 H3 X.xe I3 (stat VE) VD go) fun r s4 zo=>?_)
  obtain⟨u,hr,h4⟩:=zo
  subst hr
  refine wpAny_passesOwn hp (aT h4 fun _ s5 zo=>?_)
  obtain⟨x,H5,I5,r5,y5,IT,Ow⟩:=zo
  have I5':=I5.pinned (stat Ow) (T.obj _ _ IT)
  refine wpAny_passesOwn hp (aT (hg _ s5 σ3 H5 x u _ I5' r5 (step x H5 y5)) fun _ s6 zo=>?_)
  obtain⟨σ6,H6,I6,q6⟩:=zo
  refine wpAny_passesOwn hp (aT (hb _ s6 σ6 H6 _ I6 q6) fun f s7 q7=>?_)
  have again:∀ {σ7:St}{H7:Hp},Inv X (pins ++ eG fp s5.heap) σ7 H7 s7->N σ7 H7->∃ m,m < n/\∃ i σ' H',Inv X pins σ' H' s7/\tn i s7.heap/\(∀ b ∈ fp,H' b=none)/\W i m σ' H':=fun {σ7 H7} I7 n7=>by
   obtain⟨m',hm,w7⟩:=hN σ7 H7 n7
   refine⟨m',hm,i + 1,σ7,H7,I7.AA,T.keep _ _ _ IT fun b hb o e=>(I7.pin (b,o) (mem_append_right _ (mem_append_right _ (eK hb e)))).1,fun b hb=>?_,w7⟩
   obtain⟨o,e,d⟩:=T.obj _ _ IT b hb
   exact(I7.pin (b,o) (mem_append_right _ (mem_append_right _ (eK hb e)))).2.1
  cases f with
  | next=>obtain⟨σ7,H7,I7,n7⟩:=q7;exact again I7 n7
  | cont=>obtain⟨σ7,H7,I7,n7⟩:=q7;exact again I7 n7
  | brk=>obtain⟨σ7,H7,I7,q7⟩:=q7;exact⟨σ7,H7,I7.AA,q7⟩
  | ret v=>obtain⟨x7,σ7,H7,I7,r7,q7⟩:=q7;exact⟨x7,σ7,H7,I7.AA,r7,q7⟩
end
theorem hU {K:Frag}{a:Addr}{xs:List V}{g:TG}{tb:TS}{D:ls}{σ:St}{H:Hp}(Pv:Nat->St->Hp->Prop)(h0:Pv 0 σ H)(hl:∀ i σ H,i <= xs.length->Pv i σ H->zb K H a xs)
  (hs:∀ i x σ H,xs[i]? = some x->Pv i σ H->g x σ H fun σ2 H2=>tb { D with nx:=Pv (i + 1),ct:=Pv (i + 1),bk:=D.nx } σ2 H2) (hd:∀ σ H,Pv xs.length σ H->D.nx σ H) :
  ∃ W:Nat->Nat->St->Hp->Prop,(∃ m,W 0 m σ H)/\∀ i m σ H,W i m σ H ->
   ((uC K a).stop i H/\D.nx σ H)∨((uC K a).go i H/\∃ N:St->Hp->Prop,(∀ σ' H',N σ' H'->∃ m',m' < m/\W (i + 1) m' σ' H')/\∀ x H',(uC K a).Er i H x H'->g x σ H' fun σ2 H2=>tb { D with nx:=N,ct:=N,bk:=D.nx } σ2 H2):=by
 refine⟨fun i m σ H=>m=xs.length - i/\i <= xs.length/\Pv i σ H,⟨xs.length,by simp,zero_le _,h0⟩,?_⟩
 rintro i m σ H ⟨rfl,hi,p⟩
 have q:=hl i σ H hi p
 by_cases zR:i < xs.length
 ·refine .inr ⟨⟨xs,xs[i],q,by simp[zR]⟩,Pv (i + 1),fun σ' H' p'=>⟨xs.length - (i + 1),by omega,rfl,zR,p'⟩,fun x H' y=>?_⟩
  obtain⟨e,y⟩:=y
  subst e
  exact hs i x σ _ (y xs q) p
 ·have e:i=xs.length:=by omega
  subst e
  exact .inl ⟨⟨xs,q,le_refl _⟩,hd σ H p⟩
theorem bH {lo:Int}{n:Nat}{g:TG}{tb:TS}{D:ls}{σ:St}{H:Hp}(Pv:Nat->St->Hp->Prop)(h0:Pv 0 σ H)
  (hs:∀ i σ H,i < n->Pv i σ H->g (.int (lo + i)) σ H fun σ2 H2=>tb { D with nx:=Pv (i + 1),ct:=Pv (i + 1),bk:=D.nx } σ2 H2) (hd:∀ σ H,Pv n σ H->D.nx σ H) :
  ∃ W:Nat->Nat->St->Hp->Prop,(∃ m,W 0 m σ H)/\∀ i m σ H,W i m σ H ->
   ((u0 lo n).stop i H/\D.nx σ H)∨((u0 lo n).go i H/\∃ N:St->Hp->Prop,(∀ σ' H',N σ' H'->∃ m',m' < m/\W (i + 1) m' σ' H')/\∀ x H',(u0 lo n).Er i H x H'->g x σ H' fun σ2 H2=>tb { D with nx:=N,ct:=N,bk:=D.nx } σ2 H2):=by
 refine⟨fun i m σ H=>m=n - i/\i <= n/\Pv i σ H,⟨n,by simp,zero_le _,h0⟩,?_⟩
 rintro i m σ H ⟨rfl,hi,p⟩
 by_cases zR:i < n
 ·refine .inr ⟨zR,Pv (i + 1),fun σ' H' p'=>⟨n - (i + 1),by omega,rfl,zR,p'⟩,fun x H' y=>?_⟩
  obtain⟨e,y⟩:=y
  subst e y
  exact hs i σ _ zR p
 ·have e:i=n:=by omega
  subst e
  exact .inl ⟨le_refl _,hd σ H p⟩
end L2
namespace L2
open PySem PySem.Spec PyProof.Rows
noncomputable abbrev R2:=V->V->Hp->VK->Prop
noncomputable def eP (X:Cx)(f:Value->Value->Sem Value)(r:R2):Prop :=
 ∀ (pins:List (Addr × Obj))(s:Shared)(σ:St)(H:Hp)(x y:V)(v u:Value)(Q:VK),Inv X pins σ H s->RelV x v->RelV y u->r x y H Q ->
  wpAny (model X.prog X.w) X.A (f v u) (EP X pins σ Q) X.xe s
noncomputable def fP (X:Cx)(f:Value)(r:List V->Hp->VK->Prop):Prop :=
 ∀ (pins:List (Addr × Obj))(s:Shared)(σ:St)(H:Hp)(xs:List V)(us:List Value)(Q:VK),Inv X pins σ H s->Vals xs us->r xs H Q ->
  wpAny (model X.prog X.w) X.A (call f us) (EP X pins σ Q) X.xe s
noncomputable def Qx (X:Cx)(r:V->Hp->(Bool->Hp->Prop)->Prop):Prop :=
 ∀ (pins:List (Addr × Obj))(s:Shared)(σ:St)(H:Hp)(x:V)(v:Value)(Q:Bool->Hp->Prop),Inv X pins σ H s->RelV x v->r x H Q ->
  wpAny (model X.prog X.w) X.A (truthy v) (TP X pins σ Q) X.xe s
noncomputable def Ox (r:R2)(ta tb:TE):TE:=fun σ H Q=>ta σ H fun x H1=>tb σ H1 fun y H2=>r x y H2 Q
noncomputable def rI (C:Int->Int->Prop)(g:Int->Int->V):R2:=fun x y H Q=>∃ i j,x = .int i/\y = .int j/\C i j/\Q (g i j) H
noncomputable def rg (g:Int->Int->V):R2:=fun x y H Q=>∃ i j,x = .int i/\y = .int j/\Q (g i j) H
section
variable {X:Cx}{a b c:Expr}{ta tb tc:TE}{pos:Pos}
theorem yL (ha:PE X a ta)(hb:PE X b tb){pins:List (Addr × Obj)}{s:Shared}{σ:St}{H:Hp}{R:V->V->Hp->Prop}(I:Inv X pins σ H s)
  (h:ta σ H fun x H1=>tb σ H1 fun y H2=>R x y H2) {Q:Value->Shared->Prop} {f:Value->Value->Sem Value}
  (hf:∀ v u s2 x y H2,Inv X pins σ H2 s2->RelV x v->RelV y u->R x y H2->wpAny (model X.prog X.w) X.A (f v u) Q X.xe s2) :
  wpAny (model X.prog X.w) X.A (eval a X.env) (fun v s₁=>wpAny (model X.prog X.w) X.A (eval b X.env) (fun u s₂=>wpAny (model X.prog X.w) X.A (f v u) Q X.xe s₂) X.xe s₁) X.xe s:=by
 refine aT (ha pins s σ H _ I h) fun v s1 zo=>?_
 obtain⟨x,H1,I1,r1,q1⟩:=zo
 refine aT (hb pins s1 σ H1 _ I1 q1) fun u s2 zo=>?_
 obtain⟨y,H2,I2,r2,q2⟩:=zo
 exact hf v u s2 x y H2 I2 r1 r2 q2
theorem az {op:Operator}{r:R2}(ho:eP X (binaryOp op) r)(ha:PE X a ta)(hb:PE X b tb):PE X (.BinOp a op b pos) (Ox r ta tb):=by
 intro pins s σ H Q I h
 exact wpAny_BinOp (yL ha hb I h fun v u s2 x y H2 I2 rx ry q=>ho pins s2 σ H2 x y v u Q I2 rx ry q)
theorem IU {f:Value->Value->Sem Value}{C:Int->Int->Prop}{g:Int->Int->Int}
  (rule:∀ (i j:Int)(t u:Tok)(s:Shared)(Q:Value->Shared->Prop)(E:Value->Shared->Prop),C i j->Q (.int (g i j) s.toks) { s with toks:=s.toks + 1 }->wpAny (model X.prog X.w) X.A (f (.int i t) (.int j u)) Q E s) :
  eP X f (rI C fun i j => .int (g i j)):=by
 intro pins s σ H x y v u Q I rx ry h
 obtain⟨i,j,rfl,rfl,hc,q⟩:=h
 obtain⟨t,rfl⟩:=rx
 obtain⟨t',rfl⟩:=ry
 exact rule i j t t' s _ _ hc ⟨.int (g i j),H,I.tok _,⟨_,rfl⟩,q⟩
theorem qv {f:Value->Value->Sem Value}{g:Int->Int->Int}
  (rule:∀ (i j:Int)(t u:Tok)(s:Shared)(Q:Value->Shared->Prop)(E:Value->Shared->Prop),Q (.int (g i j) s.toks) { s with toks:=s.toks + 1 }->wpAny (model X.prog X.w) X.A (f (.int i t) (.int j u)) Q E s) :
  eP X f (rg fun i j => .int (g i j)):=by
 intro pins s σ H x y v u Q I rx ry h
 obtain⟨i,j,rfl,rfl,q⟩:=h
 obtain⟨t,rfl⟩:=rx
 obtain⟨t',rfl⟩:=ry
 exact rule i j t t' s _ _ ⟨.int (g i j),H,I.tok _,⟨_,rfl⟩,q⟩
theorem vf {f:Value->Value->Sem Value}{g:Int->Int->Bool}
  (rule:∀ (i j:Int)(t u:Tok)(s:Shared)(Q:Value->Shared->Prop)(E:Value->Shared->Prop),Q (.bool (g i j)) s->wpAny (model X.prog X.w) X.A (f (.int i t) (.int j u)) Q E s) :
  eP X f (rg fun i j => .bl (g i j)):=by
 intro pins s σ H x y v u Q I rx ry h
 obtain⟨i,j,rfl,rfl,q⟩:=h
 obtain⟨t,rfl⟩:=rx
 obtain⟨t',rfl⟩:=ry
 exact rule i j t t' s _ _ ⟨.bl (g i j),H,I,rfl,q⟩
noncomputable def Qy (i j:Int):Prop:=0 < j/\j < 1073741824
noncomputable def JO (i j:Int):Prop:=0 <= j/\j <= 1000000/\i.natAbs < 2 ^ 64
noncomputable def GL (i j:Int):Prop:=(-(2 ^ 64) < i/\i < 2 ^ 64)∨(-(2 ^ 64) < j/\j < 2 ^ 64)
theorem GL.ok {i j:Int}(h:GL i j):IntMulOk i j:=by
 rcases h with ⟨h1,h2⟩ | ⟨h1,h2⟩
 ·exact .of_left (intBits_le_64 h1 h2)
 ·exact .of_right (intBits_le_64 h1 h2)
theorem na (k:Nat):(0:Int) <= 2 ^ k:=by
 rw[two_pow_cast]
 exact Int.natCast_nonneg _
theorem bB:eP X (binaryOp .Add) (rg fun i j => .int (i + j)):=qv fun _ _ _ _ _ _ _ q=>add_int q
theorem c5:eP X (binaryOp .Sub) (rg fun i j => .int (i - j)):=qv fun _ _ _ _ _ _ _ q=>sub_int q
theorem jl:eP X (binaryOp .Mult) (rI GL fun i j => .int (i * j)):=IU fun _ _ _ _ _ _ _ hc q=>mul_int q hc.ok
theorem fT:eP X (binaryOp .FloorDiv) (rI Qy fun i j => .int (i / j)):=IU fun i j _ _ _ _ _ hc q=>by
 have h1:(0:Int) < j:=hc.1
 have h2:j < 1073741824:=hc.2
 exact floordiv_int (by omega) (by rw[Int.fdiv_eq_ediv_of_nonneg i (by omega)];exact q) (.inl (PyProof.noPylong_small (by omega)))
theorem bX:eP X (binaryOp .Mod) (rI (fun _ j=>0 < j) fun i j => .int (i % j)):=IU fun i j _ _ _ _ _ hc q=>by
 have h1:(0:Int) < j:=hc
 exact mod_int' (by omega) (by rw[Int.fmod_eq_emod_of_nonneg i (by omega)];exact q)
theorem tp:eP X (binaryOp .Pow) (rI JO fun i j => .int (i ^ j.toNat)):=IU fun _ _ _ _ _ _ _ hc q=>pow_int_small hc.1 hc.2.1 hc.2.2 q
theorem xS:eP X (binaryOp .LShift) (rI JO fun i j => .int (i * 2 ^ j.toNat)):=IU fun _ _ _ _ _ _ _ hc q=>lshift_int_small hc.1 hc.2.1 hc.2.2 q
theorem tj:eP X (binaryOp .RShift) (rI (fun _ j=>0 <= j) fun i j => .int (i / 2 ^ j.toNat)):=IU fun i j _ _ _ _ _ hc q =>
 rshift_int hc (by rw[Int.fdiv_eq_ediv_of_nonneg i (na _)];exact q)
theorem tq:eP X (binaryOp .BitAnd) (rg fun i j => .int (Builtin.bitAnd i j)):=qv fun _ _ _ _ _ _ _ q=>and_int q
theorem JP:eP X (binaryOp .BitOr) (rg fun i j => .int (Builtin.bitOr i j)):=qv fun _ _ _ _ _ _ _ q=>or_int q
theorem kZ:eP X (inplaceOp .Add) (rg fun i j => .int (i + j)):=qv fun _ _ _ _ _ _ _ q=>iadd_int q
theorem pN:eP X (inplaceOp .Sub) (rg fun i j => .int (i - j)):=qv fun _ _ _ _ _ _ _ q=>isub_int q
end
noncomputable def xk:V->V->Bool
 | .zm, .zm=>true | .zm, .int _=>true | .int _, .zm=>true | .zm, .bl _=>true | .bl _, .zm=>true | .zm, .str _=>true | .str _, .zm=>true
 | .int _, .int _=>true | .bl _, .bl _=>true | .str _, .str _=>true | .CN _, .CN _=>true
 | .int _, .str _=>true | .str _, .int _=>true | .bl _, .str _=>true | .str _, .bl _=>true
 | _,_=>false
noncomputable def rEq:R2:=fun x y H Q=>xk x y=true/\Q (.bl (decide (x=y))) H
noncomputable def rNe:R2:=fun x y H Q=>xk x y=true/\Q (.bl (!decide (x=y))) H
theorem pS {i j:Int}:decide (V.int i=V.int j)=(i == j):=by
 rw[Bool.eq_iff_iff]
 simp
theorem ut {i j:Bool}:decide (V.bl i=V.bl j)=(i == j):=by
 rw[Bool.eq_iff_iff]
 simp
theorem pR {i j:Str}:decide (V.str i=V.str j)=(i == j):=by
 rw[Bool.eq_iff_iff]
 simp
theorem pT {i j:Array UInt8}:decide (V.CN i=V.CN j)=(i.toList == j.toList):=by
 rw[Bool.eq_iff_iff]
 cases i
 cases j
 simp
section
variable {X:Cx}{a b c:Expr}{ta tb tc:TE}{pos:Pos}
theorem aQ {pins:List (Addr × Obj)}{σ:St}{H:Hp}{s:Shared}{Q:VK}{k k':Bool}(I:Inv X pins σ H s)(q:Q (.bl k) H)(e:k=k'):EP X pins σ Q (.bool k') s:=by
 subst e
 exact⟨.bl k,H,I,rfl,q⟩
theorem bv:eP X (compareOp .Eq) rEq:=by
 intro pins s σ H x y v u Q I rx ry h
 obtain⟨hs,q⟩:=h
 cases x with
 | zm =>
  cases rx
  cases y with
  | zm=>cases ry;exact PySem.EqNone.eq_none_none (aQ I q (by simp))
  | bl j=>cases ry;exact PySem.EqNone.eq_none_bool (aQ I q (by simp))
  | int j=>obtain⟨t',rfl⟩:=ry;exact PySem.EqNone.eq_none_int (aQ I q (by simp))
  | str j=>obtain⟨t',rfl⟩:=ry;exact PySem.EqNone.eq_none_str (aQ I q (by simp))
  | _=>exact absurd (show false=true from hs) Bool.false_ne_true
 | bl i =>
  cases rx
  cases y with
  | zm=>cases ry;exact PySem.EqNone.eq_bool_none (aQ I q (by simp))
  | bl j=>cases ry;exact eq_bool (aQ I q ut)
  | str j=>obtain⟨t',rfl⟩:=ry;exact PySem.EqMixed.eq_bool_str (aQ I q (by simp))
  | _=>exact absurd (show false=true from hs) Bool.false_ne_true
 | int i =>
  obtain⟨t,rfl⟩:=rx
  cases y with
  | zm=>cases ry;exact PySem.EqNone.eq_int_none (aQ I q (by simp))
  | int j=>obtain⟨t',rfl⟩:=ry;exact eq_int (aQ I q pS)
  | str j=>obtain⟨t',rfl⟩:=ry;exact PySem.EqMixed.eq_int_str (aQ I q (by simp))
  | _=>exact absurd (show false=true from hs) Bool.false_ne_true
 | str i =>
  obtain⟨t,rfl⟩:=rx
  cases y with
  | zm=>cases ry;exact PySem.EqNone.eq_str_none (aQ I q (by simp))
  | bl j=>cases ry;exact PySem.EqMixed.eq_str_bool (aQ I q (by simp))
  | int j=>obtain⟨t',rfl⟩:=ry;exact PySem.EqMixed.eq_str_int (aQ I q (by simp))
  | str j=>obtain⟨t',rfl⟩:=ry;exact eq_str (aQ I q pR)
  | _=>exact absurd (show false=true from hs) Bool.false_ne_true
 | CN i =>
  obtain⟨t,rfl⟩:=rx
  cases y with
  | CN j=>obtain⟨t',rfl⟩:=ry;exact PySem.W.eq_bytes (aQ I q pT)
  | _=>exact absurd (show false=true from hs) Bool.false_ne_true
 | _=>cases y<;>exact absurd (show false=true from hs) Bool.false_ne_true
theorem lV:eP X (compareOp .NotEq) rNe:=by
 intro pins s σ H x y v u Q I rx ry h
 obtain⟨hs,q⟩:=h
 cases x with
 | zm =>
  cases rx
  cases y with
  | zm=>cases ry;exact PySem.EqNone.ne_none_none (aQ I q (by simp))
  | bl j=>cases ry;exact PySem.EqNone.ne_none_bool (aQ I q (by simp))
  | int j=>obtain⟨t',rfl⟩:=ry;exact PySem.EqNone.ne_none_int (aQ I q (by simp))
  | str j=>obtain⟨t',rfl⟩:=ry;exact PySem.EqNone.ne_none_str (aQ I q (by simp))
  | _=>exact absurd (show false=true from hs) Bool.false_ne_true
 | bl i =>
  cases rx
  cases y with
  | zm=>cases ry;exact PySem.EqNone.ne_bool_none (aQ I q (by simp))
  | bl j=>cases ry;exact ne_bool (aQ I q (congrArg not ut))
  | str j=>obtain⟨t',rfl⟩:=ry;exact PySem.EqMixed.ne_bool_str (aQ I q (by simp))
  | _=>exact absurd (show false=true from hs) Bool.false_ne_true
 | int i =>
  obtain⟨t,rfl⟩:=rx
  cases y with
  | zm=>cases ry;exact PySem.EqNone.ne_int_none (aQ I q (by simp))
  | int j=>obtain⟨t',rfl⟩:=ry;exact ne_int (aQ I q (congrArg not pS))
  | str j=>obtain⟨t',rfl⟩:=ry;exact PySem.EqMixed.ne_int_str (aQ I q (by simp))
  | _=>exact absurd (show false=true from hs) Bool.false_ne_true
 | str i =>
  obtain⟨t,rfl⟩:=rx
  cases y with
  | zm=>cases ry;exact PySem.EqNone.ne_str_none (aQ I q (by simp))
  | bl j=>cases ry;exact PySem.EqMixed.ne_str_bool (aQ I q (by simp))
  | int j=>obtain⟨t',rfl⟩:=ry;exact PySem.EqMixed.ne_str_int (aQ I q (by simp))
  | str j=>obtain⟨t',rfl⟩:=ry;exact ne_str (aQ I q (congrArg not pR))
  | _=>exact absurd (show false=true from hs) Bool.false_ne_true
 | CN i =>
  obtain⟨t,rfl⟩:=rx
  cases y with
  | CN j=>obtain⟨t',rfl⟩:=ry;exact PySem.W.ne_bytes (aQ I q (congrArg not pT))
  | _=>exact absurd (show false=true from hs) Bool.false_ne_true
 | _=>cases y<;>exact absurd (show false=true from hs) Bool.false_ne_true
theorem p6:eP X (compareOp .Lt) (rg fun i j => .bl (decide (i < j))):=vf fun _ _ _ _ _ _ _ q=>lt_int q
theorem p7:eP X (compareOp .LtE) (rg fun i j => .bl (decide (i <= j))):=vf fun _ _ _ _ _ _ _ q=>le_int q
theorem wH:eP X (compareOp .Gt) (rg fun i j => .bl (decide (j < i))):=vf fun _ _ _ _ _ _ _ q=>gt_int q
theorem wI:eP X (compareOp .GtE) (rg fun i j => .bl (decide (j <= i))):=vf fun _ _ _ _ _ _ _ q=>ge_int q
theorem kS:eP X (compareOp .Is) (fun x y H Q=>y = .zm/\Q (.bl (decide (x = .zm))) H):=by
 intro pins s σ H x y v u Q I rx ry h
 obtain⟨rfl,q⟩:=h
 cases ry
 refine is_none_gen (aQ I q ?_)
 cases x<;>first
  | (cases rx;rfl)
  | (obtain⟨t,rfl⟩:=rx;rfl)
theorem p5:eP X (compareOp .IsNot) (fun x y H Q=>y = .zm/\Q (.bl (!decide (x = .zm))) H):=by
 intro pins s σ H x y v u Q I rx ry h
 obtain⟨rfl,q⟩:=h
 cases ry
 refine isnot_none_gen (aQ I q ?_)
 cases x<;>first
  | (cases rx;rfl)
  | (obtain⟨t,rfl⟩:=rx;rfl)
theorem aB (b:Expr){op:CmpOp}(h:op ≠ .In:=by decide)(h2:op ≠ .NotIn:=by decide):behindInMarks op b=false:=by
 have e1:(op == CmpOp.In)=false:=by cases op<;>first | rfl | exact absurd rfl h
 have e2:(op == CmpOp.NotIn)=false:=by cases op<;>first | rfl | exact absurd rfl h2
 cases b<;>simp[behindInMarks,e1,e2]
theorem c8 {op:CmpOp}{r:R2}(ho:eP X (compareOp op) r)(ha:PE X a ta)(hb:PE X b tb)(hm:behindInMarks op b=false):PE X (.Compare a [op] [b] pos) (Ox r ta tb):=by
 intro pins s σ H Q I h
 exact wpAny_Compare1 (yL ha hb I h fun v u s2 x y H2 I2 rx ry q=>ho pins s2 σ H2 x y v u Q I2 rx ry q) hm
noncomputable def JQ (t:TE):TT:=fun σ H Q=>t σ H fun x H'=>∃ k,x = .bl k/\Q k H'
theorem ax {op:CmpOp}{r:R2}(ho:eP X (compareOp op) r)(ha:PE X a ta)(hb:PE X b tb)(hm:behindInMarks op b=false):PT X (.Compare a [op] [b] pos) (JQ (Ox r ta tb)):=by
 intro pins s σ H Q I h
 refine wpAny_isTrue_Compare1 (aT (ha pins s σ H _ I h) fun v s1 ⟨x,H1,I1,r1,q1⟩=>aT (hb pins s1 σ H1 _ I1 q1) fun u s2 ⟨y,H2,I2,r2,q2⟩ =>
  aT (ho pins s2 σ H2 x y v u _ I2 r1 r2 q2) fun c s3 ⟨z,H3,I3,r3,k,e,q3⟩=>?_) hm
 subst e
 cases r3
 exact wpAny_truthy_bool ⟨H3,I3,q3⟩
noncomputable def xc (r r':R2)(ta tb tc:TE):TE:=fun σ H Q=>ta σ H fun x H1=>tb σ H1 fun y H2=>r x y H2 fun z H3=>∃ k,z = .bl k /\
 (if k=true then tc σ H3 fun w' H4=>r' y w' H4 Q else Q (.bl false) H3)
theorem lT {op Qz:CmpOp}{r r':R2}(ho:eP X (compareOp op) r)(DN:eP X (compareOp Qz) r')(ha:PE X a ta)(hb:PE X b tb)(hc:PE X c tc)
  (hm:lastMarks [op,Qz] [b,c]=false:=by with_unfolding_all rfl):PE X (.Compare a [op,Qz] [b,c] pos) (xc r r' ta tb tc):=by
 intro pins s σ H Q I h
 refine Compare_chain (aT (ha pins s σ H _ I h) fun v s1 ⟨x,H1,I1,r1,q1⟩=>chain_link (aT (hb pins s1 σ H1 _ I1 q1) fun u s2 ⟨y,H2,I2,r2,q2⟩ =>
  aT (ho pins s2 σ H2 x y v u _ I2 r1 r2 q2) fun d s3 ⟨z,H3,I3,r3,k,e,q3⟩=>?_)) hm
 subst e
 cases r3
 refine wpAny_truthy_bool ?_
 cases k with
 | false=>exact ite_ff ⟨.bl false,H3,I3,rfl,q3⟩
 | true=>exact ite_tt (chain_last (aT (hc pins s3 σ H3 _ I3 q3) fun w' s4 ⟨z',H4,I4,r4,q4⟩=>DN pins s4 σ H4 y z' u w' Q I4 r2 r4 q4))
noncomputable def JR (K:Frag)(x:V)(H:Hp)(k:Bool):Prop :=
 match x with
 | .zm=>k=false
 | .bl b=>k=b
 | .int i=>k=(i != 0)
 | .str y=>y.length <= sizeLine/\k=((y.length:Int) != 0)
 | .CN y=>y.size <= sizeLine/\k=((y.size:Int) != 0)
 | .ref p=>(∃ xs,zb K H p xs/\k = !xs.isEmpty)∨(∃ xs,zc K H p xs/\k = !xs.isEmpty)∨∃ kvs,H p=some (.dK kvs)/\k = !kvs.isEmpty
 | _=>False
theorem ou {κ:Type} {kvs:List (κ × V)} {vs:List (κ × Value)} (r:KV kvs vs):(!vs.isEmpty) = !kvs.isEmpty:=by
 cases r<;>rfl
theorem ju {xs:List V}{za:List Value}(r:Vals xs za):(!za.toArray.isEmpty) = !xs.isEmpty:=by
 cases r<;>simp
theorem jq:(sizeLine:Nat) < 2 ^ 63:=by rw[sizeLine_eq];decide
theorem wS:Qx X (fun x H Q=>∃ k,JR X.K x H k/\Q k H):=by
 intro pins s σ H x v Q I rx h
 obtain⟨k,e,q⟩:=h
 have hl:=jq
 have hs:sizeLine=16777216:=sizeLine_eq
 cases x with
 | zm =>
  cases rx
  have e':k=false:=e
  subst e'
  exact truthy_none ⟨H,I,q⟩
 | bl b =>
  cases rx
  have e':k=b:=e
  subst e'
  exact wpAny_truthy_bool ⟨H,I,q⟩
 | int i =>
  obtain⟨t,rfl⟩:=rx
  have e':k=(i != 0):=e
  subst e'
  exact PySem.P.truthy_int ⟨H,I,q⟩
 | str y =>
  obtain⟨t,rfl⟩:=rx
  obtain⟨hy,e'⟩:y.length <= sizeLine/\k=((y.length:Int) != 0):=e
  subst e'
  exact PySem.P.truthy_str (by omega) ⟨H,I.tok _,q⟩
 | CN y =>
  obtain⟨t,rfl⟩:=rx
  obtain⟨hy,e'⟩:y.size <= sizeLine/\k=((y.size:Int) != 0):=e
  subst e'
  exact PySem.W.truthy_bytes (by omega) ⟨H,I.tok _,q⟩
 | ref p =>
  cases rx
  have e':(∃ xs,zb X.K H p xs/\k = !xs.isEmpty)∨(∃ xs,zc X.K H p xs/\k = !xs.isEmpty)∨∃ kvs,H p=some (.dK kvs)/\k = !kvs.isEmpty:=e
  rcases e' with ⟨xs,hx,e'⟩ | ⟨xs,hx,e'⟩ | ⟨kvs,hx,e'⟩
  ·subst e'
   obtain⟨za,r,pl,hz⟩:=I.list hx
   have hlen:=r.length
   exact wpAny_truthy_list pl.isList (by simp only[size_toArray];omega) ⟨H,I.tok _,by rw[ju r];exact q⟩
  ·subst e'
   obtain⟨za,r,pl,hz⟩:=I.tuple hx
   have hlen:=r.length
   exact truthy_tuple pl (by simp only[size_toArray];omega) ⟨H,I.tok _,by rw[ju r];exact q⟩
  ·subst e'
   obtain⟨hz,hS,vs,r,m⟩:kvs.length <= sizeLine/\(p == sysModules)=false/\∃ vs,KV kvs vs/\s.heap.DictOf (aU X.prog X.w) p vs:=I.ze p _ hx
   have hlen:kvs.length=vs.length:=Paired.length r
   exact wpAny_truthy_dict hS m (by omega) ⟨H,I.tok _,by rw[ou r];exact q⟩
 | _=>exact(show False from e).elim
theorem ji (ha:PE X a ta)(he:∀ whole,isTrue a X.env whole=(do let v ← whole;standAt a.pos;holding [v] (truthy v))) :
  PT X a (fun σ H Q=>ta σ H fun x H'=>∃ k,JR X.K x H' k/\Q k H'):=by
 intro pins s σ H Q I h
 exact isTrue_plain (aT (ha pins s σ H _ I h) fun v s1 ⟨x,H1,I1,r1,q1⟩=>wS pins s1 σ H1 x v Q I1 r1 q1) (he _)
theorem lz {x:V}{us:List Value}(r:Vals [x] us):∃ u,us=[u]/\RelV x u:=by
 cases r with
 | cons r1 r2=>cases r2;exact⟨_,rfl,r1⟩
theorem vals2 {x y:V}{us:List Value}(r:Vals [x,y] us):∃ u w',us=[u,w']/\RelV x u/\RelV y w':=by
 cases r with
 | cons r1 r2 =>
  cases r2 with
  | cons r3 r4=>cases r4;exact⟨_,_,rfl,r1,r3⟩
theorem uv:fP X (.builtin "abs") (fun xs H Q=>∃ i,xs=[.int i]/\Q (.int (if i < 0 then -i else i)) H):=by
 intro pins s σ H xs us Q I r h
 obtain⟨i,rfl,q⟩:=h
 obtain⟨u,rfl,t,rfl⟩:=lz r
 exact call_abs_int fun u tk=>⟨.int (if i < 0 then -i else i),H,I.tok _,⟨_,rfl⟩,q⟩
theorem rb (hc:X.calm=true):fP X (.builtin "min") (fun xs H Q=>∃ i j,xs=[.int i, .int j]/\Q (.int (if j < i then j else i)) H):=by
 intro pins s σ H xs us Q I r h
 obtain⟨i,j,rfl,q⟩:=h
 obtain⟨u,w',rfl,⟨t,rfl⟩,⟨t',rfl⟩⟩:=vals2 r
 refine min_two_ints (I.ok.hd hc) fun h' tk k=>⟨_,H,I.kept k,?_,q⟩
 by_cases hj:j < i
 ·rw[if_pos hj,if_pos hj];exact⟨_,rfl⟩
 ·rw[if_neg hj,if_neg hj];exact⟨_,rfl⟩
end
end L2
namespace L2
open PySem PySem.Spec PyProof.Rows
structure C3 (h:Heap)(x dx C:Addr)(mA:Str->Option Value):Prop where
 obj:h.get? x=some (PySem.W.instObj C dx)
 ns:h.Ns1 dx mA
 ne:dx ≠ x
theorem qJ {h:Heap}{dx:Addr}{mA:Str->Option Value}(n:h.Ns1 dx mA):∃ od,h.get? dx=some od/\∀ name,PySem.W.lookIn name od=some (mA name):=by
 obtain⟨o,es,ep,ho,hd,hk,_,hm⟩:=n
 refine⟨o,ho,fun name=>?_⟩
 have e:=hm name
 unfold nsFind findBy at e
 rw[← Array.find?_toList]at e
 unfold PySem.W.lookIn
 rw[hd]
 dsimp only
 split
 ·rename_i y q
  rw[q]at e
  exact congrArg some e
 ·rename_i q
  rw[q]at e
  have a:es.toList.any (·.refKey)=false:=by
   rw[List.any_eq_false]
   intro y hy
   obtain⟨z,t,Q0⟩:=hk y (Array.mem_toList_iff.mp hy)
   simp[DictEntry.refKey,Q0]
  have a':¬ es.toList.any (·.refKey)=true:=by rw[a];exact Bool.false_ne_true
  rw[if_neg a']
  exact congrArg some e
theorem C3.look {h:Heap}{x dx C:Addr}{mA:Str->Option Value}(I:C3 h x dx C mA):∃ od,PySem.W.InstAt h x (PySem.W.instObj C dx) C (some od)/\∀ name,PySem.W.lookIn name od=some (mA name) :=
 let ⟨od,ho,hl⟩:=qJ I.ns
 ⟨od,⟨I.obj,rfl,rfl,ho⟩,hl⟩
section
variable {prog:Program}{w:World}{A:Around}{E:Value->Shared->Prop}{s:Shared}{K:Frag}{x dx C f:Addr}{mA:Str->Option Value}{name:Str}{v:Value}
theorem vV {expr:Bool}{Q:Value->Shared->Prop}(X:K.In s.heap)(I:C3 s.heap x dx C mA)(hg:plainGet K C name=true)(hh:hasDictIn K C=true)
  (ha:findIn K (.ref C) name=some none) (hv:mA name=some v) (IV:PySem.W.handedIn v=true) (h:Q v { s with toks:=s.toks + 1 }) :
  wpAny (model prog w) A (getAttr (.ref x) name expr) Q E s:=by
 obtain⟨od,J,hl⟩:=I.look
 exact PySem.W.get_value X J (PySem.W.plainGet_of hg).1 (PySem.W.findObj_own hh ha rfl (by rw[hl,hv])) IV h
theorem uc {pl:Sem Bool}{Q:Value × List Value->Shared->Prop}(X:K.In s.heap)(I:C3 s.heap x dx C mA)(hg:plainGet K C name=true)
  (hf:findIn K (.ref C) name=some (some (.ref f))) (ht:isFn K (.ref f)=true) (hv:mA name=none) (h:Q (.ref f,[.ref x]) s) :
  wpAny (model prog w) A (getMethod (.ref x) name pl) Q E s:=by
 obtain⟨od,J,hl⟩:=I.look
 exact PySem.W.method_fn X J (PySem.W.plainGet_of hg).1 (PySem.W.plainGet_of hg).2 hf (beq_iff_eq.mp ht) (by show(PySem.W.lookIn name od).map (·.isSome)=some false;rw[hl,hv];rfl) h
theorem uJ {ns:List Str}{Q:Unit->Shared->Prop}(X:K.In s.heap)(I:C3 s.heap x dx C mA)
  (hs:findIn K (.ref C) "__setattr__" = some (some (.builtin "object.__setattr__"))) (hp:plainOver K C=true) (ht:PySem.W.takerIn K C name=some none) (hh:hasDictIn K C=true)
  (hw:PySem.Within mA ns) (hsz:ns.length <= sizeLine)
  (h:∀ h',C3 h' x dx C (fun y=>if y=name then some v else mA y)->Heap.SameBut dx s.heap h'->Q () { s with heap:=h',toks:=s.toks + 2 }) :
  wpAny (model prog w) A (setAttr (.ref x) name v) Q E s:=by
 obtain⟨od,J,hl⟩:=I.look
 refine PySem.W.set_plain X J hs (PySem.W.osa_open (s:={ s with toks:=s.toks + 1 }) (r:=none) X J hp ht fun b=>?_)
 obtain⟨cd,hc,GK⟩:=PySem.W.any_some hh
 have hx:s.heap.get? x=some ⟨.ref C,some dx, .plain,#[]⟩:=I.obj
 refine wpAny_bind (wpAny_pure (wpAny_bind (wpAny_bind (wpAny_loadPart hx (wpAny_bind (PySem.W.Looks.here (s:={ s with toks:=s.toks + 1 }) (PySem.W.looks_clsIn X hc) ?_))))))
 rw[GK]
 refine wpAny_pure (a:=some dx) (wpAny_bind (wpAny_pure (wpAny_bind ?_)))
 refine wpAny_nsSet1 (s:={ s with toks:=s.toks + 1 }) I.ns fun h' DB Dr=>?_
 obtain⟨oD,VF,VG,JS,JT,JU⟩:=DB.count (PySem.Within.cons name v hw)
 refine wpAny_bind (wpAny_lookBehind JS (by rw[JT];exact pastItsLine_dict (le_trans JU (by rw[length_cons];omega))) ?_)
 exact wpAny_pure (h _ ⟨(Dr.2 _ (Ne.symm I.ne)).trans I.obj,DB,I.ne⟩ Dr)
theorem tW {R:Result->Shared->Prop}{vs:List Value}{kw:List (Str × Value)}(X:K.In s.heap)(hm:makesIn K C=true)
  (hi:findIn K (.ref C) "__init__" = some (some (.ref f))) (hf:PySem.W.typeIn K (.ref f)=some (.type "function"))
  (h:codeAny (model prog w) (A.under (.builtin "type.__call__" ⟨.ref C :: vs,kw⟩)) (.call (.ref f) ⟨.ref (s.heap.objs.size + 1) :: vs,kw⟩) (PySem.W.InitBack (s.heap.objs.size + 1) R)
   { s with heap:=(s.heap.push PySem.W.emptyDict).push (PySem.W.instObj C s.heap.objs.size) }) :
  codeAny (model prog w) A (.call (.ref C) ⟨vs,kw⟩) R s:=by
 obtain⟨hh,g,d,t,os⟩:=s
 exact PySem.W.make_core (PySem.W.makes_of X hm) (PySem.W.looks_findIn X hi) (fun self=>PySem.W.bind_fn X self hf) (.inl rfl) h
end
noncomputable def aL (f:Str)(v:V):List (Str × V)->List (Str × V)
 | []=>[(f,v)]
 | (g,x) :: r=>if g=f then (g,v) :: r else (g,x) :: aL f v r
theorem fH (f g:Str)(v:V):∀ fs:List (Str × V),(aL f v fs).lookup g=if g=f then some v else fs.lookup g
 | []=>by
  show List.lookup g [(f,v)]=_
  by_cases h:g=f
  ·have hb:(g == f)=true:=beq_iff_eq.mpr h
   simp only[List.lookup,hb,if_pos h]
  ·have hb:(g == f)=false:=beq_eq_false_iff_ne.mpr h
   simp only[List.lookup,hb,if_neg h]
 | (k,x) :: r=>by
  have ih:=fH f g v r
  rw[show aL f v ((k,x) :: r)=(if k=f then (k,v) :: r else (k,x) :: aL f v r) from rfl]
  by_cases hk:k=f
  ·rw[if_pos hk]
   by_cases h:g=k
   ·have hb:(g == k)=true:=beq_iff_eq.mpr h
    simp only[List.lookup,hb,if_pos (h.trans hk)]
   ·have hb:(g == k)=false:=beq_eq_false_iff_ne.mpr h
    simp only[List.lookup,hb,if_neg (fun e:g=f=>h (e.trans hk.symm))]
  ·rw[if_neg hk]
   by_cases h:g=k
   ·have hb:(g == k)=true:=beq_iff_eq.mpr h
    simp only[List.lookup,hb,if_neg (fun e:g=f=>hk (h.symm.trans e))]
   ·have hb:(g == k)=false:=beq_eq_false_iff_ne.mpr h
    simp only[List.lookup,hb]
    exact ih
theorem iy (f:Str)(v:V):∀ fs:List (Str × V),f ∈ (aL f v fs).map (·.1)/\∀ g,g ∈ fs.map (·.1)->g ∈ (aL f v fs).map (·.1)
 | []=>⟨by simp[aL],fun g h=>by simp at h⟩
 | (k,x) :: r=>by
  obtain⟨i1,i2⟩:=iy f v r
  rw[show aL f v ((k,x) :: r)=(if k=f then (k,v) :: r else (k,x) :: aL f v r) from rfl]
  by_cases hk:k=f
  ·rw[if_pos hk]
   subst hk
   exact⟨by simp,fun g h=>by simpa using h⟩
  ·rw[if_neg hk]
   refine⟨?_,fun g h=>?_⟩
   ·rw[map_cons]
    exact mem_cons_of_mem _ i1
   ·rw[map_cons]at h ⊢
    rcases mem_cons.mp h with e | e
    ·exact mem_cons.mpr (.inl e)
    ·exact mem_cons_of_mem _ (i2 g e)
theorem i9 (f:Str)(v:V):∀ fs:List (Str × V),(aL f v fs).length <= fs.length + 1
 | []=>by simp[aL]
 | (k,x) :: r=>by
  have ih:=i9 f v r
  rw[show aL f v ((k,x) :: r)=(if k=f then (k,v) :: r else (k,x) :: aL f v r) from rfl]
  by_cases hk:k=f
  ·rw[if_pos hk,length_cons,length_cons];omega
  ·rw[if_neg hk,length_cons,length_cons];omega
theorem zQ.some_of {v:V}{o:Option Value}(r:zQ (some v) o):∃ u,o=some u/\RelV v u:=by
 cases o with
 | none=>exact(show False from r).elim
 | some u=>exact⟨u,rfl,r⟩
theorem zQ.none_of {o:Option Value}(r:zQ none o):o=none:=by
 cases o with
 | none=>rfl
 | some u=>exact(show False from r).elim
theorem qR {v:V}{u:Value}(r:RelV v u):PySem.W.handedIn u=true:=by
 cases v with
 | zm=>cases (show u=Value.none from r);rfl
 | bl b=>cases (show u=Value.bool b from r);rfl
 | int i=>obtain⟨t,e⟩:=(show ∃ t,u=Value.int i t from r);cases e;rfl
 | str x=>obtain⟨t,e⟩:=(show ∃ t,u=Value.str x t from r);cases e;rfl
 | CN b=>obtain⟨t,e⟩:=(show ∃ t,u=Value.bytes b t from r);cases e;rfl
 | GG b=>obtain⟨t,e⟩:=(show ∃ t,u=Value.float b t from r);cases e;rfl
 | ref a=>cases (show u=Value.ref a from r);rfl
 | ty n=>cases (show u=Value.type n from r);rfl
section
variable {P:Program}{w:World}{H H':Hp}{h h':Heap}{a C dx:Addr}{fs zI:List (Str × V)}
theorem iN (ze:Ad P w H h)(e:H a=some (.ins C dx fs)):∃ mA,C3 h a dx C mA/\(∀ f,zQ (fs.lookup f) (mA f))/\PySem.Within mA (fs.map (·.1))/\fs.length <= 1000/\H dx=some (.own a):=by
 obtain⟨d,z,ne,ob,mA,n,r,q⟩:=(show zq P w H h a (.ins C dx fs) from ze a _ e)
 exact⟨mA,⟨ob,n,ne⟩,r,q,z,d⟩
end
structure BB (K:Frag)(C:Addr):Prop where
 pg:plainGet K C Str.empty=true
 hd:hasDictIn K C=true
 po:plainOver K C=true
 sa:findIn K (.ref C) "__setattr__" = some (some (.builtin "object.__setattr__"))
theorem BB.get {K:Frag}{C:Addr}(c:BB K C)(f:Str):plainGet K C f=true:=c.pg
noncomputable def zj (K:Frag)(C:Addr)(f:Str):Prop:=findIn K (.ref C) f=some none
theorem zj.JV {K:Frag}{C:Addr}{f:Str}(n:zj K C f):PySem.W.takerIn K C f=some none:=by
 unfold PySem.W.takerIn
 rw[show findIn K (.ref C) f=some none from n]
 rfl
structure b6 (K:Frag)(C:Addr)(m:Str)(f:Addr):Prop where
 at_:findIn K (.ref C) m=some (some (.ref f))
 fn:isFn K (.ref f)=true
 kp:keepIn K (.ref f)=true
section
variable {X:Cx}{pins:List (Addr × Obj)}{σ:St}{H:Hp}{s:Shared}{a C dx:Addr}{fs:List (Str × V)}{f:Str}{v:V}{A:Around}{E:Value->Shared->Prop}
theorem jx {b:Bool}{Q:Value->Shared->Prop}(I:Inv X pins σ H s)(e:H a=some (.ins C dx fs))(c:BB X.K C)(n:zj X.K C f)(l:fs.lookup f=some v)
  (h:∀ u s',Inv X pins σ H s'->RelV v u->Q u s'):wpAny (model X.prog X.w) A (getAttr (.ref a) f b) Q E s:=by
 obtain⟨mA,O,r,_,_,_⟩:=iN I.ze e
 obtain⟨u,hu,ru⟩:=zQ.some_of (v:=v) (o:=mA f) (by rw[← l];exact r f)
 exact vV I.Ac O (c.get f) c.hd n hu (qR ru) (h u _ (I.tok _) ru)
theorem jw {m:Str}{g:Addr}{pl:Sem Bool}{Q:Value × List Value->Shared->Prop}(I:Inv X pins σ H s)(e:H a=some (.ins C dx fs))(c:BB X.K C)(k:b6 X.K C m g)(l:fs.lookup m=none)
  (h:Q (.ref g,[.ref a]) s):wpAny (model X.prog X.w) A (getMethod (.ref a) m pl) Q E s:=by
 obtain⟨mA,O,r,_,_,_⟩:=iN I.ze e
 have hn:mA m=none:=zQ.none_of (by rw[← l];exact r m)
 exact uc I.Ac O (c.get m) k.at_ k.fn hn h
theorem je {y:V}{u:Value}{Q:Unit->Shared->Prop}(I:Inv X pins σ H s)(e:H a=some (.ins C dx fs))(c:BB X.K C)(n:zj X.K C f)(hl:fs.length < 1000)(ry:RelV y u)
  (h:∀ s',Inv X pins σ (upd H a (.ins C dx (aL f y fs))) s'->Q () s'):wpAny (model X.prog X.w) A (setAttr (.ref a) f u) Q E s:=by
 obtain⟨mA,O,r,wi,_,ho⟩:=iN I.ze e
 have hz:(fs.map (·.1)).length <= sizeLine:=by rw[length_map,sizeLine_eq];omega
 refine uJ I.Ac O c.sa c.po n.JV c.hd wi hz fun h' O' sb=>h _ ?_
 have hd:∃ o,h'.get? dx=some o:=let ⟨o,_,_,e',_⟩:=O'.ns; ⟨o,e'⟩
 refine I.write (x:=a) (e:=dx) (by rw[e];exact True.intro) (.inr ho) (fun b q hb z=>(sb.2 b hb).trans z) hd ?_
 refine⟨by rw[ae O.ne];exact ho,?_,O.ne,O'.obj,_,O'.ns,fun g=>?_,fun g hg=>?_⟩
 ·have:=i9 f y fs;omega
 ·show zQ ((aL f y fs).lookup g) (if g=f then some u else mA g)
  rw[fH]
  by_cases q:g=f
  ·rw[if_pos q,if_pos q];exact ry
  ·rw[if_neg q,if_neg q];exact r g
 ·by_cases q:g=f
  ·rw[q];exact(iy f y fs).1
  ·refine(iy f y fs).2 g (wi g fun z=>hg ?_)
   show(if g=f then some u else mA g)=none
   rw[if_neg q];exact z
theorem Inv.made (I:Inv X pins σ H s):Inv X pins σ (upd (upd H s.heap.objs.size (.own (s.heap.objs.size + 1))) (s.heap.objs.size + 1) (.ins C s.heap.objs.size []))
  { s with heap:=(s.heap.push PySem.W.emptyDict).push (PySem.W.instObj C s.heap.objs.size) }:=by
 have e1:(s.heap.push PySem.W.emptyDict).get? s.heap.objs.size=some PySem.W.emptyDict:=Heap.get?_push_size s.heap rfl
 have e2:((s.heap.push PySem.W.emptyDict).push (PySem.W.instObj C s.heap.objs.size)).get? (s.heap.objs.size + 1)=some (PySem.W.instObj C s.heap.objs.size):=by
  have:=Heap.get?_push_size (s.heap.push PySem.W.emptyDict) (o:=PySem.W.instObj C s.heap.objs.size) rfl
  rwa [size_push]at this
 have e3:(s.heap.push PySem.W.emptyDict).Ns s.heap.objs.size (fun _=>none):=⟨PySem.W.emptyDict,#[],_,e1,rfl,(fun e he=>absurd he (by simp)),fun _=>rfl⟩
 have I1:=I.laid (a:=s.heap.objs.size) (o := .own (s.heap.objs.size + 1)) (h':=s.heap.push PySem.W.emptyDict) (t':=s.toks) (fun b u q=>Heap.get?_push_of_some _ q) (le_refl _) ⟨_,e1⟩
 refine I1.laid (a:=s.heap.objs.size + 1) (o := .ins C s.heap.objs.size []) (t':=s.toks) (fun b u q=>Heap.get?_push_of_some _ q) (le_of_eq (size_push _ _)) ?_
 have ne:s.heap.objs.size ≠ s.heap.objs.size + 1:=ne_of_lt (lt_succ_self _)
 refine⟨by rw[ae ne,ac],zero_le _,ne,e2,fun _=>none,(Heap.Ns1.of_empty e3).at fun o q=>Heap.get?_push_of_some _ q,fun _=>True.intro,fun y hy=>absurd rfl hy⟩
theorem wf {prog:Program}{w:World}{env:Env}{e:Expr}{f:Str}{pos:Pos}{s:Shared}{Q:Value->Shared->Prop}(hb:attributeBase e f env (eval e env)=eval e env)
  (h:wpAny (model prog w) A (eval e env) (fun o s₁=>wpAny (model prog w) A (getAttr o f true) Q E s₁) E s):wpAny (model prog w) A (eval (.Attribute e f pos) env) Q E s :=
 Attribute_any_ h (by rw[arm_eval_Attribute,hb])
end
noncomputable def rA (K:Frag)(ta:TE)(f:Str):TE:=fun σ H Q=>ta σ H fun x H1=>∃ a C dx fs v,x = .ref a/\H1 a=some (.ins C dx fs)/\BB K C/\zj K C f/\fs.lookup f=some v/\Q v H1
noncomputable def Q2 (K:Frag)(ta tv:TE)(f:Str):TS:=fun D σ H=>tv σ H fun y H1=>ta σ H1 fun x H2=>∃ a C dx fs,x = .ref a/\H2 a=some (.ins C dx fs)/\BB K C/\zj K C f/\fs.length < 1000 /\
 D.nx σ (upd H2 a (.ins C dx (aL f y fs)))
noncomputable def Q3 (X:Cx)(op:Operator)(rd:V->V->Hp->VK->Prop):Prop :=
 ∀ (pins:List (Addr × Obj))(s:Shared)(σ:St)(H:Hp)(x y:V)(u v:Value)(Q:VK),Inv X pins σ H s->RelV x u->RelV y v->rd x y H Q->wpAny (model X.prog X.w) X.A (inplaceOp op u v) (EP X pins σ Q) X.xe s
noncomputable def uQ (K:Frag)(ta tv:TE)(rd:V->V->Hp->VK->Prop)(f:Str):TS:=fun D σ H=>ta σ H fun x H1=>∃ a C dx fs v,x = .ref a/\H1 a=some (.ins C dx fs)/\BB K C/\zj K C f/\fs.lookup f=some v /\
 tv σ H1 fun y H2=>rd v y H2 fun z H3=>∃ Ds zI,H3 a=some (.ins C Ds zI)/\zI.length < 1000/\D.nx σ (upd H3 a (.ins C Ds (aL f z zI)))
section
variable {X:Cx}{o e value:Expr}{f:Str}{pos pos' Dt:Pos}{ta tv:TE}
theorem al (he:PE X e ta)(hb:attributeBase e f X.env (eval e X.env)=eval e X.env):PE X (.Attribute e f pos) (rA X.K ta f):=by
 intro pins s σ H Q I h
 refine wf hb (aT (he pins s σ H _ I h) fun u s1 zo=>?_)
 obtain⟨x,H1,I1,rx,a,C,dx,fs,v,ex,ea,c,n,l,q⟩:=zo
 subst ex
 obtain rfl:u=Value.ref a:=rx
 exact jx I1 ea c n l fun u' s2 I2 ru=>⟨v,H1,I2,ru,q⟩
theorem aY (ha:PE X o ta)(hv:PE X value tv)(hs:swapsWith value (some (.Attribute o f pos')) pos.line X.env=pure false):PS X (.Assign [.Attribute o f pos'] value pos) (Q2 X.K ta tv f):=by
 intro pins s σ H D I h
 refine plainObj_wpAny_Assign_Attribute (aT (hv pins s σ H _ I h) fun u s1 ⟨y,H1,I1,ry,q⟩=>aT (ha pins s1 σ H1 _ I1 q) fun ov s2 ⟨x,H2,I2,rx,a,C,dx,fs,ex,ea,c,n,l,q2⟩=>?_) hs
 subst ex
 obtain rfl:ov=Value.ref a:=rx
 exact je I2 ea c n l ry fun s3 I3=>⟨σ,_,I3,q2⟩
theorem dU {op:Operator}{rd:V->V->Hp->VK->Prop}(ha:PE X o ta)(hv:PE X value tv)(JW:Q3 X op rd):PS X (.AugAssign (.Attribute o f Dt) op value pos) (uQ X.K ta tv rd f):=by
 intro pins s σ H D I h
 refine wpAny_AugAssign_AttributeAny (aT (ha pins s σ H _ I h) fun ov s1 zo=>?_)
 obtain⟨x,H1,I1,rx,a,C,dx,fs,v,ex,ea,c,n,l,q⟩:=zo
 subst ex
 obtain rfl:ov=Value.ref a:=rx
 refine jx I1 ea c n l fun u s2 I2 ru=>aT (hv pins s2 σ H1 _ I2 q) fun w3 s3 ⟨y,H2,I3,ry,q3⟩=>aT (JW pins s3 σ H2 v y u w3 _ I3 ru ry q3) fun w4 s4 zo=>?_
 obtain⟨z,H3,I4,rz,Ds,zI,ea',l',q4⟩:=zo
 exact je I4 ea' c n l' rz fun s5 I5=>⟨σ,_,I5,q4⟩
end
section
variable {X:Cx}{pins:List (Addr × Obj)}{σ:St}{H:Hp}{s:Shared}{A:Around}{E:Value->Shared->Prop}{Q:Value->Shared->Prop}{c:Value}{b:Bool}
inductive i6 (K:Frag)(H:Hp):V->Value->Prop where
 | zm:i6 K H .zm (.type "NoneType")
 | bl (x:Bool):i6 K H (.bl x) (.type "bool")
 | int (i:Int):i6 K H (.int i) (.type "int")
 | str (x:Str):i6 K H (.str x) (.type "str")
 | GG (x:UInt64):i6 K H (.GG x) (.type "float")
 | lst {a:Addr} {xs:List V} (e:H a=some (.lst xs)):i6 K H (.ref a) (.type "list")
 | AU {a:Addr} {o:Obj} {xs:List V} (e:H a=some (.AU o (.lst xs))):i6 K H (.ref a) (.type "list")
 | tup {a:Addr} {xs:List V} (e:H a=some (.tup xs)):i6 K H (.ref a) (.type "tuple")
 | dK {a:Addr} {kvs:List (ca × V)} (e:H a=some (.dK kvs)):i6 K H (.ref a) (.type "dict")
 | dT {a:Addr} {kvs:List (List ca × V)} (e:H a=some (.dT kvs)):i6 K H (.ref a) (.type "dict")
 | ins {a C dx:Addr} {fs:List (Str × V)} (e:H a=some (.ins C dx fs)) (cl:BB K C) (ha:findIn K (.ref C) "__class__" = some (some (.builtin "object.__class__")))
   (hn:PySem.W.specialIn K (.builtin "object.__class__") "__get__" = some (some (.builtin "getset_descriptor.__get__"))) (VH:PySem.W.takesIn K (.builtin "object.__class__")=some true)
   (hm:PySem.W.mroIn K C (.type "object")=some true):i6 K H (.ref a) (.ref C)
theorem qN {x:V}{u t:Value}(I:Inv X pins σ H s)(rx:RelV x u)(ty:i6 X.K H x t)(e:kitOne X.K t c=some b)(h:∀ tk,Q (.bool b) { s with toks:=tk }) :
  wpAny (model X.prog X.w) A (call (.builtin "isinstance") [u,c]) Q E s:=by
 cases ty with
 | zm=>cases (show u=Value.none from rx);exact PySem.W.kia_one PySem.W.kitx_none I.Ac True.intro e (fun z=>nomatch z) h
 | bl y=>cases (show u=Value.bool y from rx);exact PySem.W.kia_one PySem.W.kitx_bool I.Ac True.intro e (fun z=>nomatch z) h
 | int i=>obtain⟨t,q⟩:=(show ∃ t,u=Value.int i t from rx);cases q;exact PySem.W.kia_one PySem.W.kitx_int I.Ac True.intro e (fun z=>nomatch z) h
 | str y=>obtain⟨t,q⟩:=(show ∃ t,u=Value.str y t from rx);cases q;exact PySem.W.kia_one PySem.W.kitx_str I.Ac True.intro e (fun z=>nomatch z) h
 | GG y=>obtain⟨t,q⟩:=(show ∃ t,u=Value.float y t from rx);cases q;exact PySem.W.kia_one PySem.W.kitx_float I.Ac True.intro e (fun z=>nomatch z) h
 | @lst a xs ea =>
  cases (show u=Value.ref a from rx)
  obtain⟨_,_,n,_,h1⟩:=(show zq X.prog X.w H s.heap a (.lst xs) from I.ze a _ ea)
  exact PySem.W.kia_one PySem.W.kitx_list I.Ac ⟨_,h1,rfl⟩ e (fun z=>nomatch z) h
 | @AU a ob xs ea =>
  cases (show u=Value.ref a from rx)
  obtain⟨_,_,_,n,_,h1⟩:=(show zq X.prog X.w H s.heap a (.AU ob (.lst xs)) from I.ze a _ ea)
  exact PySem.W.kia_one PySem.W.kitx_list I.Ac ⟨_,h1,rfl⟩ e (fun z=>nomatch z) h
 | @tup a xs ea =>
  cases (show u=Value.ref a from rx)
  obtain⟨_,_,_,p⟩:=(show zq X.prog X.w H s.heap a (.tup xs) from I.ze a _ ea)
  obtain⟨o,h1,⟨h2,_⟩,_⟩:=p
  exact PySem.W.kia_one PySem.W.kitx_tuple I.Ac ⟨o,h1,h2⟩ e (fun z=>nomatch z) h
 | @dK a kvs ea =>
  cases (show u=Value.ref a from rx)
  obtain⟨_,_,vs,_,p⟩:=(show zq X.prog X.w H s.heap a (.dK kvs) from I.ze a _ ea)
  obtain⟨o,es,ep,h1,h2,_⟩:=p
  exact PySem.W.kia_one PySem.W.kitx_dict I.Ac ⟨o,h1,h2.1⟩ e (fun z=>nomatch z) h
 | @dT a kvs ea =>
  cases (show u=Value.ref a from rx)
  obtain⟨_,_,xs,_,o,es,ep,h1,h2,_⟩:=(show zq X.prog X.w H s.heap a (.dT kvs) from I.ze a _ ea)
  exact PySem.W.kia_one PySem.W.kitx_dict I.Ac ⟨o,h1,h2.1⟩ e (fun z=>nomatch z) h
 | @ins a C dx fs ea cl ha hn VH hm =>
  cases (show u=Value.ref a from rx)
  obtain⟨mA,O,_⟩:=iN I.ze ea
  obtain⟨od,J,_⟩:=O.look
  exact PySem.W.kia_one (PySem.W.kitx_own (cl.get _) cl.hd ha hn VH hm) I.Ac J e (fun z=>nomatch z) h
end
end L2
namespace L2
open PySem PySem.Spec PyProof.Rows
structure zi (k:Nat)(A:Around):Prop where
 hd:A.handled=none
 dp:A.depth + 3 * k + 5 < recursionLimit
 un:A.units + 16 * k + 200 < cLine
theorem zi.mono {j k:Nat}{A:Around}(r:zi k A)(h:j <= k):zi j A:=⟨r.hd,by have:=r.dp;omega,by have:=r.un;omega⟩
theorem zi.deeper {k:Nat}{A:Around}(r:zi (k + 1) A)(env:Env):zi k (A.deeper env) :=
 ⟨r.hd,by have:=r.dp;show A.depth + 1 + 3 * k + 5 < _;omega,by have:=r.un;show A.units + 3 + 16 * k + 200 < _;omega⟩
theorem oh {A:Around}{C:Addr}{us:List Value}{kw:List (Str × Value)}:(A.under (.builtin "type.__call__" ⟨.ref C :: us,kw⟩)).depth=A.depth + 1:=by
 first | rfl | simp[Around.under,Code.weight,Code.isCreation,Code.isGuard,Code.isCaller,Code.frames,Code.isFrame,guardIds]
theorem og {A:Around}{C:Addr}{us:List Value}{kw:List (Str × Value)}:(A.under (.builtin "type.__call__" ⟨.ref C :: us,kw⟩)).units=A.units + 1:=by
 first | rfl | simp[Around.under,Code.cUnits,Code.frames,Code.isFrame]
theorem zi.make {k:Nat}{A:Around}(r:zi (k + 1) A)(C:Addr)(us:List Value)(kw:List (Str × Value)):zi k (A.under (.builtin "type.__call__" ⟨.ref C :: us,kw⟩)) :=
 ⟨r.hd,by have:=r.dp;rw[oh];omega,by have:=r.un;rw[og];omega⟩
theorem zi.depth {k:Nat}{A:Around}(r:zi k A):A.depth < recursionLimit:=by have:=r.dp;omega
theorem zi.units {k:Nat}{A:Around}(r:zi k A):A.units + 64 < cLine:=by have:=r.un;omega
noncomputable def JX:TA:=fun _ H Q=>Q [] H
noncomputable def JY (ta:TE)(tr:TA):TA:=fun σ H Q=>ta σ H fun x H1=>tr σ H1 fun xs H2=>Q (x :: xs) H2
section
variable {X:Cx}{e:Expr}{es:List Expr}{te:TE}{t:TA}{pos:Pos}
theorem ad:PA X [] JX:=fun _ _ _ _ H Q I h=>Calls.spliced_nil ⟨[],H,I, .nil,h⟩
theorem aa (ha:PE X e te)(hr:PA X es t)(hs:starEach (e :: es) X.env=(false,eval e X.env) :: starEach es X.env:=by rfl):PA X (e :: es) (JY te t):=by
 intro pos pins s σ H Q I h
 rw[hs]
 show wpAny _ _ (spliced ((false,eval e X.env) :: backTo pos (starEach es X.env))) _ _ s
 refine Calls.spliced_cons (aT (ha pins s σ H _ I h) fun u s1 zo=>?_)
 obtain⟨x,H1,I1,r1,q1⟩:=zo
 exact aT (hr pos pins s1 σ H1 _ I1 q1) fun us s2 ⟨xs,H2,I2,r2,q2⟩=>⟨x :: xs,H2,I2, .cons r1 r2,q2⟩
noncomputable def Q4 (t:TA):TE:=fun σ H Q=>t σ H fun xs H1=>xs.length <= sizeLine/\∀ p,H1 p=none->Q (.ref p) (upd H1 p (.tup xs))
noncomputable def Q5 (t:TA):TE:=fun σ H Q=>t σ H fun xs H1=>xs.length <= sizeLine/\∀ p,H1 p=none->Q (.ref p) (upd H1 p (.lst xs))
theorem aW {x1} (h:PA X es t):PE X (.Tuple es x1 pos) (Q4 t):=by
 intro pins s σ H Q I hq
 refine wpAny_Tuple_spliced (aT (h pos pins s σ H _ I hq) fun us s1 ⟨xs,H1,I1,r,z,q⟩=>⟨by rw[← r.length];exact z,?_⟩)
 have hf:H1 s1.heap.objs.size=none:=I1.ze.fresh (le_refl _)
 refine⟨.ref s1.heap.objs.size,upd H1 s1.heap.objs.size (.tup xs),I1.laid (t':=s1.toks) (fun b u e=>Heap.get?_push_of_some _ e) (le_refl _) ?_,rfl,q _ hf⟩
 exact⟨z,us,r,⟨_,Heap.get?_push_size _ rfl,⟨rfl,_,rfl⟩,rfl⟩⟩
theorem aV (h:PA X es t):PE X (.List es pos) (Q5 t):=by
 intro pins s σ H Q I hq
 refine wpAny_List_spliced (aT (h pos pins s σ H _ I hq) fun us s1 ⟨xs,H1,I1,r,z,q⟩=>⟨by rw[← r.length];exact z,?_⟩)
 have hf:H1 s1.heap.objs.size=none:=I1.ze.fresh (le_refl _)
 refine⟨.ref s1.heap.objs.size,upd H1 s1.heap.objs.size (.lst xs),I1.laid (t':=s1.toks) (fun b u e=>Heap.get?_push_of_some _ e) (le_refl _) ?_,rfl,q _ hf⟩
 exact⟨z,us,0,r,Heap.get?_push_size _ rfl⟩
end
noncomputable abbrev Sp:=List V->Hp->VK->XK->Prop
noncomputable abbrev oH:=List Env->Hp->Shared->XK->Value->Shared->Prop
structure C4 (P:Program)(w:World)(K:Frag)(mg:Str->Option Value)(base:Heap)(A:Around)(outer:List Env)(s:Shared)(H:Hp):Prop where
 frames:A.frames=some outer
 mod:Mod K mg base
 bs:∀ b o,base.get? b=some o->s.heap.get? b=some o/\H b=none
 E7:base.objs.size <= s.heap.objs.size
 Ba:s.heap.FunFrames base outer
 GJ:∀ b ∈ lg outer,H b=none
 ze:Ad P w H s.heap
 bare:AllBare s.gens
noncomputable def CE (outer:List Env)(P:Program)(w:World)(H:Hp)(s:Shared)(Q:VK)(u:Value)(s':Shared):Prop :=
 ∃ v H',s'.os=s.os/\AllBare s'.gens/\Un (lg outer) [] H H' s.heap s'.heap/\Ad P w H' s'.heap/\RelV v u/\Q v H'
noncomputable def CR (CX:oH)(outer:List Env)(P:Program)(w:World)(H:Hp)(s:Shared)(Q:VK)(E:XK)(r:Result)(s':Shared):Prop :=
 match r with
 | .ok (.ret u)=>CE outer P w H s Q u s'
 | .ok _=>False
 | .error e=>CX outer H s E e s'
structure yX (P:Program)(w:World)(K:Frag)(mg:Str->Option Value)(base:Heap)(CX:oH)(k:Nat)(f:Addr)(fd:FuncData)(ps:List Str)(sp:Sp):Prop where
 len:∀ vs H Q E,sp vs H Q E->vs.length=ps.length
 run:∀ (A:Around)(outer:List Env)(s:Shared)(H:Hp)(args:Args)(us:List Value)(vs:List V)(Q:VK)(E:XK),zi k A->C4 P w K mg base A outer s H->BindsTo s fd args (ps.zip us)->Vals vs us->sp vs H Q E ->
  codeAny (model P w) A (.call (.ref f) args) (CR CX outer P w H s Q E) s
theorem yX.imp {P:Program}{w:World}{K:Frag}{mg:Str->Option Value}{base:Heap}{CX:oH}{k:Nat}{f:Addr}{fd:FuncData}{ps:List Str}{sp VI:Sp}(F:yX P w K mg base CX k f fd ps sp)
  (h:∀ vs H Q E,VI vs H Q E->sp vs H Q E):yX P w K mg base CX k f fd ps VI :=
 ⟨fun vs H Q E q=>F.len vs H Q E (h _ _ _ _ q),fun A outer s H args us vs Q E hr he hb hv hs=>F.run A outer s H args us vs Q E hr he hb hv (h _ _ _ _ hs)⟩
theorem C4.make {P:Program}{w:World}{K:Frag}{mg:Str->Option Value}{base:Heap}{A:Around}{outer:List Env}{s:Shared}{H:Hp}(e:C4 P w K mg base A outer s H)(C:Addr)(us:List Value)(kw:List (Str × Value)) :
  C4 P w K mg base (A.under (.builtin "type.__call__" ⟨.ref C :: us,kw⟩)) outer s H:=⟨by first | exact e.frames | (simpa [Around.under,Code.envs,Code.isFrame,pushEnvs] using e.frames),e.mod,e.bs,e.E7,e.Ba,e.GJ,e.ze,e.bare⟩
section
variable {X:Cx}{pins:List (Addr × Obj)}{σ:St}{H:Hp}{s s':Shared}
theorem Inv.GN (I:Inv X pins σ H s):C4 X.prog X.w X.K X.mg X.base X.A X.stack s H :=
 ⟨I.ok.frames,I.ok.mod,I.bs,le_trans I.ok.E7 I.sz,I.stack,I.BJ,I.ze,I.bare⟩
theorem Inv.after {Q:VK}{u:Value}(I:Inv X pins σ H s)(h:CE X.stack X.prog X.w H s Q u s'):EP X pins σ Q u s':=by
 obtain⟨v,H',os,bare,un,ze,r,q⟩:=h
 obtain⟨hh,g,d,t,os'⟩:=s'
 obtain rfl:os' = s.os:=os
 exact⟨v,H',I.call (h':=hh) (g':=g) (d':=d) (t':=t) (ch:=[]) un ze bare (fun b z=>absurd z (by simp)),r,q⟩
end
noncomputable def JZ (sp:Sp)(zJ:List V)(E:XK)(t:TA):TE:=fun σ H Q=>t σ H fun vs H1=>sp (vs ++ zJ) H1 Q E
noncomputable def wq (C:Addr)(m:Str)(sp:Sp)(zJ:List V)(E:XK)(ta:TE)(t:TA):TE:=fun σ H Q=>ta σ H fun x H1=>∃ a dx fs,x = .ref a/\H1 a=some (.ins C dx fs)/\fs.lookup m=none /\
 t σ H1 fun vs H2=>sp (x :: (vs ++ zJ)) H2 Q E
noncomputable def Ka (C:Addr)(sp:Sp)(zJ:List V)(E:XK)(t:TA):TE:=fun σ H Q=>t σ H fun vs H1=>∀ x dx,H1 x=none->H1 dx=none->dx ≠ x ->
 sp (.ref x :: (vs ++ zJ)) (upd (upd H1 dx (.own x)) x (.ins C dx [])) (fun v H2=>v = .zm/\Q (.ref x) H2) E
noncomputable def Binds (K:Frag)(fd:FuncData)(ps:List Str)(ds:List Value):Prop :=
 ∀ (s:Shared)(us:List Value),K.In s.heap->(us ++ ds).length=ps.length->BindsTo s fd ⟨us,[]⟩ (ps.zip (us ++ ds))
theorem Binds.all {K:Frag}{fd:FuncData}{ps:List Str}(h:∀ us:List Value,us.length=ps.length->bindArgs fd ⟨us,[]⟩ = pure (ps.zip us)):Binds K fd ps []:=fun s us _ hl=>by
 rw[append_nil]at hl ⊢
 exact .of_eq (h us hl)
noncomputable def dP (CX:oH)(X:Cx)(E:XK):Prop:=∀ (pins:List (Addr × Obj))(σ:St)(H:Hp)(s:Shared)(e:Value)(s':Shared),Inv X pins σ H s->CX X.stack H s E e s'->X.xe e s'
section
variable {X:Cx}{CX:oH}{k:Nat}{f C:Addr}{fd:FuncData}{ps:List Str}{sp:Sp}{zJ:List V}{ds:List Value}{E:XK}{x m:Str}{p pos apos:Pos}{e o:Expr}{es:List Expr}{ta:TE}{t:TA}
theorem kK {pins:List (Addr × Obj)}{σ:St}{H:Hp}{s:Shared}{Q:VK}{us:List Value}{vs:List V}(F:yX X.prog X.w X.K X.mg X.base CX k f fd ps sp)(hr:zi k X.A)(hb:Binds X.K fd ps ds)(hd:Vals zJ ds)(hx:dP CX X E)
  (I:Inv X pins σ H s) (r:Vals vs us) (h:sp (vs ++ zJ) H Q E):wpAny (model X.prog X.w) X.A (call (.ref f) us) (EP X pins σ Q) X.xe s:=by
 have r2:Vals (vs ++ zJ) (us ++ ds):=r.append hd
 have hl:(us ++ ds).length=ps.length:=by rw[← r2.length];exact F.len _ _ _ _ h
 refine wpAny_call (codeAny_mono (F.run X.A X.stack s H ⟨us,[]⟩ (us ++ ds) (vs ++ zJ) Q E hr I.GN (hb s us I.Ac hl) r2 h) fun r s' hq=>?_)
 cases r with
 | error e=>exact hx pins σ H s e s' I hq
 | ok fl =>
  cases fl with
  | ret u=>exact I.after hq
  | next=>exact False.elim hq
  | brk=>exact False.elim hq
  | cont=>exact False.elim hq
theorem aw (F:yX X.prog X.w X.K X.mg X.base CX k f fd ps sp)(hr:zi k X.A)(hg:Gl X x)(hm:X.mg x=some (.ref f))(hk:keepIn X.K (.ref f)=true)(hb:Binds X.K fd ps ds)(hd:Vals zJ ds)(hx:dP CX X E)
  (ha:PA X (e :: es) t) (DO:(x == ("__debug__":Str))=false:=by decide) (he:starEach (e :: es) X.env=(false,eval e X.env) :: starEach es X.env:=by rfl) (AJ:(backTo pos (starEach es X.env)).any (·.1)=false:=by rfl) :
  PE X (.Call (.Name x p) (e :: es) [] pos) (JZ sp zJ E t):=by
 intro pins s σ H Q I h
 refine wpAny_Call_Name_kw (gY I hg hm ?_ DO)
 refine PySem.W.callWith_K (h₀:=X.base) I.ok.mod.D9 hk (aT (ha pos pins s σ H _ I h) fun us s1 ⟨vs,H1,I1,r,q⟩=>⟨I1.Ac,?_⟩) he AJ
 exact kK F hr hb hd hx I1 r q
theorem aF {pl:Sem Bool}(he:PE X o ta)(c:BB X.K C)(hm:b6 X.K C m f)(F:yX X.prog X.w X.K X.mg X.base CX k f fd ps sp)(hr:zi k X.A)(hb:Binds X.K fd ps ds)(hd:Vals zJ ds)(hx:dP CX X E)(ha:PA X (e :: es) t)
  (B1:starEach (e :: es) X.env=(false,eval e X.env) :: starEach es X.env:=by rfl) (AJ:(backTo pos (starEach es X.env)).any (·.1)=false:=by rfl)
  (ht:eval (.Call (.Attribute o m apos) (e :: es) [] pos) X.env=(do
   let ov ← eval o X.env
   standAt apos.atName
   let (f,first) ← holding [ov] (getMethod ov m pl)
   callWith pos f first (backTo pos (starEach (e :: es) X.env)) (backToKw pos (keywordEach [] X.env))):=by rfl) :
  PE X (.Call (.Attribute o m apos) (e :: es) [] pos) (wq C m sp zJ E ta t):=by
 intro pins s σ H Q I h
 refine PySem.W.methodCall_KW (pl:=pl) (aT (he pins s σ H _ I h) fun u s1 zo=>?_) ht
 obtain⟨x,H1,I1,rx,a,dx,fs,ex,ea,l,q⟩:=zo
 subst ex
 obtain rfl:u=Value.ref a:=rx
 refine jw I1 ea c hm l ?_
 refine PySem.W.callWith_K (first:=[.ref a]) (h₀:=X.base) I.ok.mod.D9 hm.kp (aT (ha pos pins s1 σ H1 _ I1 q) fun us s2 ⟨vs,H2,I2,r,q2⟩=>⟨I2.Ac,?_⟩) B1 AJ
 exact kK (us := .ref a :: us) (vs := .ref a :: vs) F hr hb hd hx I2 (.cons rfl r) q2
theorem b9 {pl:Sem Bool}(he:PE X o ta)(c:BB X.K C)(hm:b6 X.K C m f)(F:yX X.prog X.w X.K X.mg X.base CX k f fd ps sp)(hr:zi k X.A)(hb:Binds X.K fd ps ds)(hd:Vals zJ ds)(hx:dP CX X E)
  (ht:eval (.Call (.Attribute o m apos) [] [] pos) X.env=(do
   let ov ← eval o X.env
   standAt apos.atName
   let (f,first) ← holding [ov] (getMethod ov m pl)
   callWith pos f first (backTo pos (starEach [] X.env)) (backToKw pos (keywordEach [] X.env))):=by rfl) :
  PE X (.Call (.Attribute o m apos) [] [] pos) (wq C m sp zJ E ta JX):=by
 intro pins s σ H Q I h
 refine PySem.W.methodCall_KW (pl:=pl) (aT (he pins s σ H _ I h) fun u s1 zo=>?_) ht
 obtain⟨x,H1,I1,rx,a,dx,fs,ex,ea,l,q⟩:=zo
 subst ex
 obtain rfl:u=Value.ref a:=rx
 refine jw I1 ea c hm l ?_
 exact PySem.W.callWith_K0 (first:=[.ref a]) I1.Ac hm.kp (kK (us:=[.ref a]) (vs:=[.ref a]) F hr hb hd hx I1 (.cons rfl .nil) q)
structure Mk (K:Frag)(C f:Addr):Prop where
 makes:makesIn K C=true
 init:findIn K (.ref C) "__init__" = some (some (.ref f))
 fn:isFn K (.ref f)=true
 kp:keepIn K (.ref C)=true
theorem sM {pins:List (Addr × Obj)}{σ:St}{H:Hp}{s:Shared}{Q:VK}{us:List Value}{vs:List V}(M:Mk X.K C f)(F:yX X.prog X.w X.K X.mg X.base CX k f fd ps sp)(hr:zi (k + 1) X.A)(hb:Binds X.K fd ps ds)(hd:Vals zJ ds)
  (hx:dP CX X E) (I:Inv X pins σ H s) (r:Vals vs us)
  (h:∀ x dx,H x=none->H dx=none->dx ≠ x->sp (.ref x :: (vs ++ zJ)) (upd (upd H dx (.own x)) x (.ins C dx [])) (fun v H2=>v = .zm/\Q (.ref x) H2) E) :
  wpAny (model X.prog X.w) X.A (call (.ref C) us) (EP X pins σ Q) X.xe s:=by
 have hq:=h (s.heap.objs.size + 1) s.heap.objs.size (I.ze.fresh (le_succ _)) (I.ze.fresh (le_refl _)) (ne_of_lt (lt_succ_self _))
 have I2:=Inv.made (C:=C) I
 have r2:Vals (V.ref (s.heap.objs.size + 1) :: (vs ++ zJ)) (Value.ref (s.heap.objs.size + 1) :: (us ++ ds)) := .cons rfl (r.append hd)
 have hl:(Value.ref (s.heap.objs.size + 1) :: us ++ ds).length=ps.length:=by
  have e:=r2.length
  rw[F.len _ _ _ _ hq]at e
  exact e.symm
 refine wpAny_call (tW (f:=f) I.Ac M.makes M.init (beq_iff_eq.mp M.fn) (codeAny_mono (F.run _ X.stack _ _ ⟨Value.ref (s.heap.objs.size + 1) :: us,[]⟩ (Value.ref (s.heap.objs.size + 1) :: (us ++ ds)) _ _ E (hr.make C us [])
  (I2.GN.make C us []) (hb _ (Value.ref (s.heap.objs.size + 1) :: us) I2.Ac hl) r2 hq) fun r s' AB=>?_))
 cases r with
 | error e=>exact hx pins σ _ _ e s' I2 AB
 | ok fl =>
  cases fl with
  | ret u =>
   obtain⟨v,H',I3,rv,ev,q3⟩:=I2.after AB
   subst ev
   exact⟨rv,⟨V.ref (s.heap.objs.size + 1),H',I3,rfl,q3⟩⟩
  | next=>exact False.elim AB
  | brk=>exact False.elim AB
  | cont=>exact False.elim AB
theorem dD (M:Mk X.K C f)(F:yX X.prog X.w X.K X.mg X.base CX k f fd ps sp)(hr:zi (k + 1) X.A)(hg:Gl X x)(hm:X.mg x=some (.ref C))(hb:Binds X.K fd ps ds)(hd:Vals zJ ds)(hx:dP CX X E)
  (ha:PA X (e :: es) t) (DO:(x == ("__debug__":Str))=false:=by decide) (he:starEach (e :: es) X.env=(false,eval e X.env) :: starEach es X.env:=by rfl) (AJ:(backTo pos (starEach es X.env)).any (·.1)=false:=by rfl) :
  PE X (.Call (.Name x p) (e :: es) [] pos) (Ka C sp zJ E t):=by
 intro pins s σ H Q I h
 refine wpAny_Call_Name_kw (gY I hg hm ?_ DO)
 refine PySem.W.callWith_K (h₀:=X.base) I.ok.mod.D9 M.kp (aT (ha pos pins s σ H _ I h) fun us s1 ⟨vs,H1,I1,r,q⟩=>⟨I1.Ac,?_⟩) he AJ
 exact sM M F hr hb hd hx I1 r q
end
section
variable {X:Cx}{CX:oH}{k:Nat}{f C:Addr}{fd:FuncData}{ps ks:List Str}{sp:Sp}{E:XK}{x m:Str}{p pos apos kpos:Pos}{e o:Expr}{es:List Expr}{kws:List Keyword}{te ta:TE}{t tk:TA}{nm:Option Str}
variable {g:List Value->List Value->List Value}{gV:List V->List V->List V}
end
structure ao (N P:List Str)(sc:Scope):Prop where
 kind:sc.kind = .function
 co:sc.isCoroutine=false
 gen:sc.isGenerator=false
 nd:N.Nodup
 pre:N.take P.length=P
 par:∀ x ∈ P,sc.names.lookup x=some .local∨sc.names.lookup x=some .cell
 GO:∀ y ∈ sc.names,y.2 ≠ .free
theorem ke {kindOf:Str->Option NameKind}{x:Str}:∀ {binds:List (Str × Value)}{m:Str->Option Value},(∀ v,(x,v) ∉ binds)->bindL kindOf binds m x=m x
 | [],_,_=>rfl
 | (n,v) :: r,m,h=>by
  unfold bindL
  rw[ke fun w hw=>h w (mem_cons_of_mem _ hw)]
  split
  ·have:x ≠ n:=by rintro rfl;exact h v mem_cons_self
   simp[this]
  ·rfl
theorem kj {kindOf:Str->Option NameKind}{x:Str}:∀ {binds:List (Str × Value)}{m:Str->Option Value},(∀ v,(x,v) ∉ binds)->bindC kindOf binds m x=m x
 | [],_,_=>rfl
 | (n,v) :: r,m,h=>by
  unfold bindC
  rw[kj fun w hw=>h w (mem_cons_of_mem _ hw)]
  split
  ·rfl
  ·have:x ≠ n:=by rintro rfl;exact h v mem_cons_self
   simp[this]
theorem kg {kindOf:Str->Option NameKind}{x:Str}{v:Value}:∀ {P:List Str}{vs:List Value}{i:Nat}{m:Str->Option Value},P.Nodup->P[i]? = some x->vs[i]? = some v->kindOf x=some .local ->
  bindL kindOf (P.zip vs) m x=some v
 | [],_,_,_,_,h,_,_=>by simp at h
 | _ :: _,[],_,_,_,_,h,_=>by simp at h
 | p :: P,w :: vs,0,m,nd,h1,h2,hk=>by
  simp at h1 h2;subst h1;subst h2
  show bindL kindOf ((p,w) :: P.zip vs) m p=_
  unfold bindL
  rw[ke fun v hv=>(nodup_cons.mp nd).1 (of_mem_zip hv).1,if_pos hk]
  simp
 | p :: P,w :: vs,i + 1,m,nd,h1,h2,hk=>by
  show bindL kindOf ((p,w) :: P.zip vs) m x=_
  unfold bindL
  exact kg (i:=i) (nodup_cons.mp nd).2 (by simpa using h1) (by simpa using h2) hk
theorem kq {kindOf:Str->Option NameKind}{x:Str}{v:Value}:∀ {P:List Str}{vs:List Value}{i:Nat}{m:Str->Option Value},P.Nodup->P[i]? = some x->vs[i]? = some v->kindOf x ≠ some .local ->
  bindC kindOf (P.zip vs) m x=some v
 | [],_,_,_,_,h,_,_=>by simp at h
 | _ :: _,[],_,_,_,_,h,_=>by simp at h
 | p :: P,w :: vs,0,m,nd,h1,h2,hk=>by
  simp at h1 h2;subst h1;subst h2
  show bindC kindOf ((p,w) :: P.zip vs) m p=_
  unfold bindC
  rw[kj fun v hv=>(nodup_cons.mp nd).1 (of_mem_zip hv).1,if_neg hk]
  simp
 | p :: P,w :: vs,i + 1,m,nd,h1,h2,hk=>by
  show bindC kindOf ((p,w) :: P.zip vs) m x=_
  unfold bindC
  exact kq (i:=i) (nodup_cons.mp nd).2 (by simpa using h1) (by simpa using h2) hk
noncomputable def start (N:List Str)(vs:List V):St:=vs.map some ++ List.replicate (N.length - vs.length) none
noncomputable def iD (CX:oH)(P:Program)(w:World)(K:Frag)(mg:Str->Option Value)(base:Heap)(N:List Str)(qual:Str)(scope:Scope)(f:Addr)(cd:Value)(A:Around)(outer:List Env)(s:Shared)(H:Hp)(E:XK):Cx where
 prog:=P
 w:=w
 K:=K
 mg:=mg
 base:=base
 A:=A.deeper (envOfC qual scope s.heap.objs.size f cd)
 N:=N
 s₀:=s
 H₀:=H
 env:=envOfC qual scope s.heap.objs.size f cd
 outer:=outer
 stack:=envOfC qual scope s.heap.objs.size f cd :: outer
 ex:=[]
 calm:=true
 fn:=fun _=>true
 pn:=[]
 xe:=fun e s'=>wpAny (model P w) (A.deeper (envOfC qual scope s.heap.objs.size f cd)) (leaving (envOfC qual scope s.heap.objs.size f cd) e) (fun _ GQ=>CX outer H s E e GQ) (fun e' GQ=>CX outer H s E e' GQ) s'
theorem mR {sc:Scope}{n:Nat}{x:Str}(h:sc.names.lookup x=some .cell):∃ c,(cellsFrom n sc.names []).lookup x=some c:=by
 have q:=PySem.W.cellsFrom_some sc.names n [] (.inl h)
 exact Option.isSome_iff_exists.mp q
theorem qO {CX:oH}{P:Program}{w:World}{K:Frag}{mg:Str->Option Value}{base:Heap}{N ps:List Str}{qual:Str}{scope:Scope}{f:Addr}{cd:Value}{A:Around}{outer:List Env}{s s1:Shared}{H:Hp}{E:XK}{us:List Value}{vs:List V}
  (S:ao N ps scope) (hd:A.handled=none) (e0:C4 P w K mg base A outer s H) (hl:vs.length=ps.length) (r:Vals vs us)
  (x:InCallC s s.heap.objs.size (bindL (envOfC qual scope s.heap.objs.size f cd).kindOf (ps.zip us) fun _=>none) (cellsFrom (s.heap.objs.size + 1) scope.names []) (bindC (envOfC qual scope s.heap.objs.size f cd).kindOf (ps.zip us) fun _=>none) s1) :
  Inv (iD CX P w K mg base N qual scope f cd A outer s H E) [] (start N vs) H s1:=by
 have AJ:ps.length <= N.length:=by have:=congrArg List.length S.pre;rw[length_take]at this;omega
 obtain⟨h1,tk,rfl,hk⟩:=x.done
 have Kb:∀ b:Addr,b ∉ (iD CX P w K mg base N qual scope f cd A outer s H E).ex:=fun b z=>absurd (show b ∈ ([]:List Addr) from z) (by simp)
 refine⟨⟨e0.mod,S.kind,rfl,rfl,le_refl _,fun y z c h1 h2=>?_,fun y hy=>?_,fun y c _ h=>?_,fun _=>hd,Around.frames_deeper e0.frames, .inr ⟨rfl,rfl⟩,fun b z=>absurd z (Kb b),e0.bs,e0.E7,fun b _ _=>Kb b,fun b z=>absurd z (Kb b),e0.Ba,e0.GJ⟩,
  rfl,e0.bare,Un.kept hk,⟨_,x.toInCall.ns,fun i y v h1 h2 h3=>?_⟩,fun y c h=>⟨_,x.cell y c h⟩,e0.ze.fresh (le_refl _),fun y c h=>?_,fun p hp=>absurd (show p ∈ ([]:List (Addr × Obj)) from hp) (by simp),e0.ze.kept hk,?_⟩
 ·exact name_of_addr x.apart (PySem.mem_of_lookup h1) (PySem.mem_of_lookup h2)
 ·have hy:scope.names.lookup y=some .cell∨scope.names.lookup y=some .free:=hy
  rcases hy with hy | hy
  ·exact mR hy
  ·exact absurd rfl (S.GO _ (PySem.mem_of_lookup hy))
 ·exact le_of_lt (x.above y c (PySem.mem_of_lookup h))
 ·have hi:i < vs.length:=by
   unfold start at h2
   by_cases hi:i < vs.length
   ·exact hi
   ·rw[List.getElem?_append_right (by simpa using hi)]at h2
    rw[List.getElem?_replicate]at h2
    split at h2<;>cases h2
  have ha:vs[i]? = some v:=by
   unfold start at h2
   rw[List.getElem?_append_left (by simpa using hi),List.getElem?_map]at h2
   cases e:vs[i]? with
   | none=>rw[e]at h2;cases h2
   | some a=>rw[e]at h2;cases h2;rfl
  obtain⟨u,hu,rv⟩:=r.get ha
  have hp:ps[i]? = some y:=by
   rw[← S.pre,List.getElem?_take_of_lt (by omega)];exact h1
  have VJ:ps.Nodup:=by rw[← S.pre];exact S.nd.sublist (List.take_sublist _ _)
  refine⟨u,rv,?_⟩
  rcases S.par y (mem_of_getElem? hp) with k | k
  ·exact .inl ⟨k,kg VJ hp hu k⟩
  ·obtain⟨c,e⟩:=mR (n:=s.heap.objs.size + 1) k
   refine .inr ⟨.inl k,c,e,?_⟩
   have q:=x.cell y c e
   rw[kq VJ hp hu (by show scope.names.lookup y ≠ _;rw[k];decide)]at q
   exact q
 ·exact e0.ze.fresh (le_of_lt (x.above y c (PySem.mem_of_lookup h)))
 ·unfold start
  show _=N.length
  rw[length_append,length_map,length_replicate]
  omega
theorem ue {CX:oH}{P:Program}{w:World}{K:Frag}{mg:Str->Option Value}{base:Heap}{k:Nat}{f:Addr}{name qual:Str}{params:Arguments}{body:List Stmt}{scope:Scope}{dV kV doc pm cdv ct oc:Value}{an od:Option Addr}
  {C5:Array (Option Value)} {N ps:List Str} {sp:Sp} (lk:K.lookup f=some ⟨oc,od, .func (fnOf name qual params body scope dV kV doc pm an cdv ct),C5⟩) (C2:codeIn K cdv qual=true) (S:ao N ps scope)
  (len:∀ vs H Q E,sp vs H Q E->vs.length=ps.length)
  (Bo:∀ (A:Around)(outer:List Env)(s:Shared)(H:Hp)(vs:List V)(Q:VK)(E:XK),zi k (A.deeper (envOfC qual scope s.heap.objs.size f cdv))->sp vs H Q E ->
   ∃ t,Bz (iD CX P w K mg base N qual scope f cdv A outer s H E) body t/\t { nx:=fun _ H'=>Q .zm H',rt:=Q } (start N vs) H) :
  yX P w K mg base CX (k + 1) f (fnOf name qual params body scope dV kV doc pm an cdv ct) ps sp:=by
 refine⟨len,fun A outer s H args us vs Q E hr e0 hb r DC=>?_⟩
 have hl:=len _ _ _ _ DC
 have KX:K.In s.heap:=e0.mod.D9.keeps fun b o e=>(e0.bs b o e).1
 have lim:s.heap.NoLimit:=e0.mod.nolimit.keeps fun b o e=>(e0.bs b o e).1
 have Kc:∀ y ∈ ps.zip us,scope.names.lookup y.1=some .local∨(scope.names.lookup y.1=some .cell/\((cellsFrom (s.heap.objs.size + 1) scope.names []).lookup y.1).isSome=true):=fun⟨n,v⟩ hy=>by
  rcases S.par n (of_mem_zip hy).1 with q | q
  ·exact .inl q
  ·exact .inr ⟨q,PySem.W.cellsFrom_some _ _ _ (.inl q)⟩
 refine codeAny_call_function hr.depth (KX _ _ lk) rfl S.co S.gen rfl (PySem.W.codeRec_of KX C2) (hb _ _ _ _ ?_)
 refine wpAny_newFunctionEnv_cells S.kind Kc fun env he s1 x=>?_
 subst he
 refine⟨lim.keeps x.toInCall.keep,codeAny_func ?_⟩
 obtain⟨t,ht,hq⟩:=Bo A outer s H vs Q E (hr.deeper _) DC
 have I:Inv (iD CX P w K mg base N qual scope f cdv A outer s H E) [] (start N vs) H s1:=qO S hr.hd e0 hl r x
 refine wpAny_mono (ht [] s1 (start N vs) H _ I hq) (fun fl s' hs=>?_) fun e s' hs=>hs
 have fin:∀ {σ':St}{H':Hp}{v:V}{u:Value},Inv (iD CX P w K mg base N qual scope f cdv A outer s H E) [] σ' H' s'->RelV v u->Q v H'->CE outer P w H s Q u s' :=
  fun {σ' H' v u} J rv q=>⟨v,H',J.os,J.bare,J.base,J.ze,rv,q⟩
 cases fl with
 | ret u =>
  obtain⟨v,σ',H',J,rv,q⟩:=hs
  exact fin J rv q
 | next =>
  obtain⟨σ',H',J,q⟩:=hs
  exact fin (v:=V.zm) (u:=Value.none) J rfl q
 | brk =>
  obtain⟨_,_,_,q⟩:=hs
  exact False.elim q
 | cont =>
  obtain⟨_,_,_,q⟩:=hs
  exact False.elim q
end L2
namespace L2
open PySem PySem.Spec PyProof.Rows
section
variable {X:Cx}{x:Str}{p pos:Pos}{e:Expr}{es:List Expr}{t:TA}{id T:String}{r:List V->Hp->VK->Prop}
noncomputable def VL (r:List V->Hp->VK->Prop)(t:TA):TE:=fun σ H Q=>t σ H fun vs H1=>r vs H1 Q
theorem aG (hc:fP X (.builtin id) r)(hg:Gl X x)(hm:X.mg x=none)(hv:bootBuiltins x=some (.builtin id))(ha:PA X (e :: es) t)(hn:x ≠ "__name__":=by decide)(DO:(x == ("__debug__":Str))=false:=by decide)
  (he:starEach (e :: es) X.env=(false,eval e X.env) :: starEach es X.env:=by rfl) (AJ:(backTo pos (starEach es X.env)).any (·.1)=false:=by rfl):PE X (.Call (.Name x p) (e :: es) [] pos) (VL r t):=by
 intro pins s σ H Q I h
 refine wpAny_Call_Name_kw (gp I hg hm hv ?_ hn DO)
 exact PyProof.Rows.callWith_builtin1 (aT (ha pos pins s σ H _ I h) fun us s1 ⟨vs,H1,I1,r1,q1⟩=>hc pins s1 σ H1 vs us Q I1 r1 q1) he AJ
theorem bF (hc:fP X (.type T) r)(hg:Gl X x)(hm:X.mg x=none)(hv:bootBuiltins x=some (.type T))(ha:PA X (e :: es) t)(hn:x ≠ "__name__":=by decide)(DO:(x == ("__debug__":Str))=false:=by decide)
  (he:starEach (e :: es) X.env=(false,eval e X.env) :: starEach es X.env:=by rfl) (AJ:(backTo pos (starEach es X.env)).any (·.1)=false:=by rfl):PE X (.Call (.Name x p) (e :: es) [] pos) (VL r t):=by
 intro pins s σ H Q I h
 refine wpAny_Call_Name_kw (gp I hg hm hv ?_ hn DO)
 exact PyProof.Rows.callWith_type1 (aT (ha pos pins s σ H _ I h) fun us s1 ⟨vs,H1,I1,r1,q1⟩=>hc pins s1 σ H1 vs us Q I1 r1 q1) he AJ
end
end L2
namespace HT
open PySem PyProof.Rows
section
open PySem.SeqAt
open PySem.AutoSeq1 (wpAny_loadPart')
open PySem.MeetsSeq PySem.MeetsSeq2 PySem.MeetsSeq3
end
section
variable {prog:Program}{w:World}{A:Around}{E:Value->Shared->Prop}{s:Shared}
theorem E9 {t b:Addr}{vs ws:List Value}{Q:Value->Shared->Prop}(ht:IsTup s.heap t vs.toArray)(hb:IsTup s.heap b ws.toArray)(hv:vs ≠ [])
  (h1:ws=[]->Q (.ref t) s) (h2:ws ≠ []->Q (.ref s.heap.objs.size) { s with heap:=s.heap.push { cls := .type "tuple",data := .seq (vs ++ ws).toArray } })
  (hsz:vs.length + ws.length <= sizeLine):wpAny (model prog w) A (binaryOp .Add (.ref t) (.ref b)) Q E s:=by
 obtain⟨⟨cls,dd,data,sl⟩,ho,hc,n,hd⟩:=id ht
 obtain⟨⟨Q6,Oy,data2,IW⟩,zS,Cd,n2,hd2⟩:=id hb
 simp only at hc hd Cd hd2
 subst hc hd Cd hd2
 have e:vs.toArray ++ ws.toArray=(vs ++ ws).toArray:=by simp
 by_cases hw:ws=[]
 ·exact concat_meets ⟨_,ho,rfl⟩ ⟨_,zS,rfl⟩ noFill_tuple_add seq_tuple_add slot_tuple_add entry_tuple_add (args_tuple_add_2 _ _)
   (tuple_addW1 t b vs.toArray ws.toArray n n2 dd Oy sl IW (by simpa using hv) (by simp[hw])) ⟨ho,zS,h1 hw⟩
 ·refine concat_meets ⟨_,ho,rfl⟩ ⟨_,zS,rfl⟩ noFill_tuple_add seq_tuple_add slot_tuple_add entry_tuple_add (args_tuple_add_2 _ _)
   (tuple_addW2 t b vs.toArray ws.toArray n n2 dd Oy sl IW (by simpa using hv) (by simpa using hw) (by rw[size_toArray,size_toArray];exact hsz)) ⟨ho,zS,?_⟩
  rw[e]
  exact h2 hw
noncomputable def Bi (n d:Nat):Option Int->Nat
 | none=>d
 | some v=>if v < 0 then (v + (n:Int)).toNat else min v.toNat n
theorem AE (n d k:Nat):Bi n d (some (k:Int))=min k n:=by
 show(if (k:Int) < 0 then ((k:Int) + (n:Int)).toNat else min (k:Int).toNat n)=min k n
 rw[if_neg (by omega),toNat_natCast]
end
end HT
namespace L2
open PySem PySem.Spec PyProof.Rows
noncomputable abbrev TO:=St->Hp->(Option Int->Hp->Prop)->Prop
noncomputable def PO (X:Cx)(e:Option Expr)(t:TO):Prop :=
 ∀ (pins:List (Addr × Obj))(s:Shared)(σ:St)(H:Hp)(Q:Option Int->Hp->Prop),Inv X pins σ H s->t σ H Q ->
  wpAny (model X.prog X.w) X.A (evalPart e X.env) (fun u s'=>∃ o H',Inv X pins σ H' s'/\IsPart u o/\Q o H') X.xe s
noncomputable def uE:TO:=fun _ H Q=>Q none H
noncomputable def Kd (t:TE):TO:=fun σ H Q=>t σ H fun x H1=>∃ i,x = .int i/\Q (some i) H1
theorem ow {ns:List Int}:∀ {us:List Value},Vals (ns.map V.int) us->IntsAre us ns:=by
 induction ns with
 | nil=>intro us r;rw[map_nil]at r;cases r;exact .nil
 | cons n ns ih =>
  intro us r
  rw[map_cons]at r
  cases r with
  | cons r1 r2 =>
   obtain⟨t,e⟩:=r1
   subst e
   exact .cons n t (ih r2)
section
variable {X:Cx}{e:Expr}{te:TE}{lo hi:Option Expr}{tl th:TO}{pos p2:Pos}
theorem dB:PO X none uE:=by
 intro pins s σ H Q I h
 rw[evalPart_none]
 exact wpAny_pure ⟨none,H,I, .none,h⟩
theorem cy (h:PE X e te):PO X (some e) (Kd te):=by
 intro pins s σ H Q I hw
 rw[evalPart_some]
 refine aT (h pins s σ H _ I hw) fun u s1 zo=>?_
 obtain⟨x,H1,I1,r1,q1⟩:=zo
 obtain⟨i,rfl,q⟩:=q1
 obtain⟨t,rfl⟩:=r1
 exact⟨some i,H1,I1, .int i t,q⟩
noncomputable def VM (X:Cx)(r:V->Option Int->Option Int->Hp->VK->Prop):Prop :=
 ∀ (pins:List (Addr × Obj))(s:Shared)(σ:St)(H:Hp)(x:V)(v vl vu:Value)(lo hi:Option Int)(sl:Addr)(Q:VK),Inv X pins σ H s->RelV x v->s.heap.IsSliceOf sl vl vu .none->IsPart vl lo->IsPart vu hi->r x lo hi H Q ->
  ∃ T id,typeLookup (.type T) "__getitem__" = pure (some (.builtin id))/\s.TypeIs v T/\wpAny (model X.prog X.w) X.A (getItem v (.ref sl)) (EP X pins σ Q) X.xe s
noncomputable def tSl (r:V->Option Int->Option Int->Hp->VK->Prop)(te:TE)(tl th:TO):TE:=fun σ H Q=>te σ H fun x H1=>tl σ H1 fun l H2=>th σ H2 fun u H3=>r x l u H3 Q
theorem cn {r:V->Option Int->Option Int->Hp->VK->Prop}(hr:VM X r)(he:PE X e te)(hl:PO X lo tl)(hu:PO X hi th):PE X (.Subscript e (.Slice lo hi none p2) pos) (tSl r te tl th):=by
 intro pins s σ H Q I h
 refine Subscript_ (aT (he pins s σ H _ I h) fun v s1 zo=>?_)
 obtain⟨x,H1,I1,r1,q1⟩:=zo
 refine wpAny_Slice (aT (hl pins s1 σ H1 _ I1 q1) fun vl s2 ⟨l,H2,I2,pl,q2⟩=>aT (hu pins s2 σ H2 _ I2 q2) fun vu s3 zo=>?_)
 obtain⟨u,H3,I3,pu,q3⟩:=zo
 rw[evalPart_none]
 refine wpAny_pure ?_
 have I4:Inv X pins σ H3 { s3 with heap:=s3.heap.push { cls := .type "slice",data := .fields #[vl,vu, .none] } }:=I3.kept (t':=s3.toks) fun b ob q=>Heap.get?_push_of_some _ q
 obtain⟨T,id,hT,ht,hg⟩:=hr pins { s3 with heap:=s3.heap.push { cls := .type "slice",data := .fields #[vl,vu, .none] } } σ H3 x v vl vu l u s3.heap.objs.size Q I4 r1 (Heap.IsSliceOf.new ..) pl pu q3
 show wpAny (model X.prog X.w) X.A (subscriptTail e (.Slice lo hi none p2) v (.ref s3.heap.objs.size)) (EP X pins σ Q) X.xe { s3 with heap:=s3.heap.push { cls := .type "slice",data := .fields #[vl,vu, .none] } }
 exact tail_any (ops:=[.ref s3.heap.objs.size,v]) ht hT hg (by with_unfolding_all rfl)
noncomputable def fM (xs:List V)(lo hi:Option Int):List V:=(xs.drop (HT.Bi xs.length 0 lo)).take (HT.Bi xs.length xs.length hi - HT.Bi xs.length 0 lo)
theorem mJ (xs:List V)(lo hi:Option Int):(fM xs lo hi).length <= xs.length:=by
 unfold fM
 rw[length_take,length_drop]
 omega
noncomputable def wG (K:Frag):R2:=fun x y H Q=>∃ a b xs ys,x = .ref a/\y = .ref b/\zc K H a xs/\zc K H b ys/\xs ≠ []/\xs.length + ys.length <= sizeLine /\
 (ys=[]->Q (.ref a) H)/\(ys ≠ []->∀ p,H p=none->Q (.ref p) (upd H p (.tup (xs ++ ys))))
theorem Vals.Bj {xs:List V}{us:List Value}(r:Vals xs us):us=[]↔xs=[]:=by
 cases r with
 | nil=>simp
 | cons _ _=>simp
theorem p8:eP X (binaryOp .Add) (wG X.K):=by
 intro pins s σ H x y v u Q I rx ry h
 obtain⟨a,b,xs,ys,rfl,rfl,ha,hb,hx,hz,q1,q2⟩:=h
 cases rx
 cases ry
 obtain⟨za,r1,p1,_⟩:=I.tuple ha
 obtain⟨B3,r2,p2,_⟩:=I.tuple hb
 refine HT.E9 p1 p2 (fun z=>hx (r1.Bj.mp z)) (fun z=>⟨.ref a,H,I,rfl,q1 (r2.Bj.mp z)⟩) (fun z=>?_) (by rw[← r1.length,← r2.length];exact hz)
 refine⟨.ref s.heap.objs.size,_,I.laid (t':=s.toks) (o := .tup (xs ++ ys)) (fun b ob q=>Heap.get?_push_of_some _ q) (le_refl _) ?_,rfl,q2 (fun w=>z (r2.Bj.mpr w)) _ (I.ze.fresh (le_refl _))⟩
 exact⟨by rw[length_append];exact hz,_,r1.append r2,Ai.new _ _⟩
end
end L2
namespace L2
open PySem PySem.Spec PyProof.Rows
noncomputable def vS (n:Nat)(i:Int):Option Nat:=if 0 <= i then (if i < n then some i.toNat else none) else if -(n:Int) <= i then some (i + n).toNat else none
noncomputable def IX {α:Type}(xs:List α)(i:Int):Option α:=(vS xs.length i).bind fun j=>xs[j]?
theorem pJ {n:Nat}{i:Int}{j:Nat}(h:vS n i=some j):seqIndex? i n=some j/\j < n/\-(n:Int) <= i/\i < n:=by
 unfold vS at h
 by_cases h0:0 <= i
 ·rw[if_pos h0]at h
  by_cases h1:i < n
  ·rw[if_pos h1]at h
   have e:i.toNat=j:=Option.some.inj h
   exact⟨by rw[seqIndex_of h0 h1,e],by omega,by omega,h1⟩
  ·rw[if_neg h1]at h;cases h
 ·rw[if_neg h0]at h
  by_cases h1:-(n:Int) <= i
  ·rw[if_pos h1]at h
   have e:(i + n).toNat=j:=Option.some.inj h
   exact⟨by rw[seqIndex_neg (by omega) h1,e],by omega,h1,by omega⟩
  ·rw[if_neg h1]at h;cases h
theorem pV {α:Type}{xs:List α}{i:Int}{v:α}(h:IX xs i=some v):∃ j,seqIndex? i xs.length=some j/\xs[j]? = some v/\j < xs.length/\-(xs.length:Int) <= i/\i < xs.length:=by
 unfold IX at h
 cases e:vS xs.length i with
 | none=>rw[e]at h;cases h
 | some j =>
  rw[e]at h
  obtain⟨h1,h2,h3,h4⟩:=pJ e
  exact⟨j,h1,h,h2,h3,h4⟩
theorem ai {α:Type}{xs:List α}{j:Nat}{v:α}(h:xs[j]? = some v):IX xs (j:Int)=some v:=by
 have hj:j < xs.length:=(List.getElem?_eq_some_iff.mp h).1
 have e:vS xs.length (j:Int)=some j:=by
  unfold vS
  rw[if_pos (by omega),if_pos (by omega)];simp
 unfold IX;rw[e];exact h
noncomputable def wk (b:Expr):Prop:=∀ o i,subscripted b false o i=operate [o,i] (getItem o i)
noncomputable def oG (X:Cx)(r:R2):Prop :=
 ∀ (value slice:Expr)(pins:List (Addr × Obj))(s:Shared)(σ:St)(H:Hp)(x y:V)(v u:Value)(Q:VK),Inv X pins σ H s->RelV x v->RelV y u->r x y H Q ->
  subscripted slice false v u=operate [v,u] (getItem v u)->wpAny (model X.prog X.w) X.A (subscriptTail value slice v u) (EP X pins σ Q) X.xe s
noncomputable def Oz (X:Cx)(id:String)(r:V->List V->Hp->VK->Prop):Prop :=
 ∀ (pins:List (Addr × Obj))(s:Shared)(σ:St)(H:Hp)(x:V)(xs:List V)(v:Value)(us:List Value)(Q:VK),Inv X pins σ H s->RelV x v->Vals xs us->r x xs H Q ->
  wpAny (model X.prog X.w) X.A (call (.builtin id) (v :: us)) (EP X pins σ Q) X.xe s
section
variable {X:Cx}{a b:Expr}{ta tb:TE}{pos:Pos}
theorem ap {r:R2}(hr:oG X r)(ha:PE X a ta)(hb:PE X b tb)(hs:wk b):PE X (.Subscript a b pos) (Ox r ta tb):=by
 intro pins s σ H Q I h
 exact Subscript_ (yL ha hb I h fun v u s2 x y H2 I2 rx ry q=>hr a b pins s2 σ H2 x y v u Q I2 rx ry q (hs _ _))
noncomputable def sP (K:Frag):R2:=fun x y H Q=>∃ p xs i v,x = .ref p/\y = .int i/\zb K H p xs/\IX xs i=some v/\Q v H
noncomputable def kM (K:Frag):R2:=fun x y H Q=>∃ p xs i v,x = .ref p/\y = .int i/\zc K H p xs/\IX xs i=some v/\Q v H
theorem aJ:oG X (sP X.K):=by
 intro value slice pins s σ H x y v u Q I rx ry h hs
 obtain⟨p,xs,i,z,rfl,rfl,hq,he,q⟩:=h
 cases rx
 obtain⟨t,rfl⟩:=ry
 obtain⟨za,r,pl,hz⟩:=I.list hq
 obtain⟨j,h1,h2,h3,h4,h5⟩:=pV he
 obtain⟨w,ew,Ce⟩:=r.get h2
 have hl:=r.length
 have hn:=jq
 have fin:EP X pins σ Q w s:=⟨z,H,I,Ce,q⟩
 by_cases h0:0 <= i
 ·have hj:i.toNat=j:=by
   rw[seqIndex_of h0 h5]at h1
   exact Option.some.inj h1
  exact item_listR pl.isList h0 (by omega) (by rw[hj];simpa using ew) fin hs
 ·have hj:(i + (za.toArray.size:Int)).toNat=j:=by
   rw[seqIndex_neg (by omega) h4]at h1
   rw[size_toArray,← hl]
   exact Option.some.inj h1
  exact subscriptTail_builtinR (x:=w) pl.isList.typeIs slot_list_getitem.lookup
   (wpAny_getItem_list_neg (Q:=fun r s'=>r=w/\EP X pins σ Q r s') pl.isList (by omega) (by rw[size_toArray]<;>omega) (by omega) (by rw[hj];simpa using ew) ⟨rfl,fin⟩) hs
theorem ar:oG X (kM X.K):=by
 intro value slice pins s σ H x y v u Q I rx ry h hs
 obtain⟨p,xs,i,z,rfl,rfl,hq,he,q⟩:=h
 cases rx
 obtain⟨t,rfl⟩:=ry
 obtain⟨za,r,pl,hz⟩:=I.tuple hq
 obtain⟨j,h1,h2,h3,h4,h5⟩:=pV he
 obtain⟨w,ew,Ce⟩:=r.get h2
 have hl:=r.length
 have hn:=jq
 have fin:EP X pins σ Q w s:=⟨z,H,I,Ce,q⟩
 exact subscriptTail_builtinR (x:=w) pl.typeIs slot_tuple_getitem.lookup
  (getItem_tuple (j:=j) (Q:=fun r s'=>r=w/\EP X pins σ Q r s') pl (by omega) (by omega) (by rw[size_toArray,← hl];exact h1) (by simpa using ew) ⟨rfl,fin⟩) hs
theorem oa (za:List Value)(n j:Nat)(u:Value):Obj.mapSeq (·.setIfInBounds j u) { cls := .type "list",data := .seq za.toArray n } = { cls := .type "list",data := .seq (za.set j u).toArray n }:=by
 simp[Obj.mapSeq]
theorem Inv.lst {pins:List (Addr × Obj)}{σ:St}{H:Hp}{s:Shared}{p:Addr}{xs:List V}(I:Inv X pins σ H s)(h:H p=some (.lst xs)) :
  ∃ (za:List Value)(n:Nat),Vals xs za/\s.heap.get? p=some { cls := .type "list",data := .seq za.toArray n }/\xs.length <= sizeLine:=by
 obtain⟨z,za,n,r,e⟩:=I.ze p _ h
 exact⟨za,n,r,e,z⟩
theorem Inv.GR {pins:List (Addr × Obj)}{σ:St}{H:Hp}{s:Shared}{p:Addr}{xs ys:List V}{za its':List Value}{n n':Nat}{f:Obj->Obj}(I:Inv X pins σ H s)(h:H p=some (.lst xs))
  (ho:s.heap.get? p=some { cls := .type "list",data := .seq za.toArray n }) (hf:f { cls := .type "list",data := .seq za.toArray n } = { cls := .type "list",data := .seq its'.toArray n' }) (r:Vals ys its') (hz:ys.length <= sizeLine) (t:Nat) :
  Inv X pins σ (upd H p (.lst ys)) { s with heap:=s.heap.update p f,toks:=t }:=by
 have e:(s.heap.update p f).get? p=some { cls := .type "list",data := .seq its'.toArray n' }:=by
  rw[Heap.get?_update_self f ho (by rw[hf]<;>rfl),hf]
 refine I.write (x:=p) (e:=p) (by rw[h];trivial) (.inl rfl) (fun b u hb q=>(Heap.get?_update_other _ _ (Ne.symm hb)).trans q) ⟨_,e⟩ ?_
 exact⟨hz,its',n',r,e⟩
noncomputable def Ke:V->V->V->Hp->(Hp->Prop)->Prop:=fun o i v H Q=>∃ p xs k j,o = .ref p/\i = .int k/\H p=some (.lst xs)/\vS xs.length k=some j/\Q (upd H p (.lst (xs.set j v)))
theorem dS:JH X Ke:=by
 intro pins s σ H o i v ov iv u Q I ro ri rv h
 obtain⟨p,xs,k,j,rfl,rfl,hp,hj,q⟩:=h
 cases ro
 obtain⟨t,rfl⟩:=ri
 obtain⟨za,n,r,ho,hz⟩:=I.lst hp
 obtain⟨h1,h2,h3,h4⟩:=pJ hj
 have hl:=r.length
 have hn:=jq
 have I':Inv X pins σ (upd H p (.lst (xs.set j v))) { s with heap:=s.heap.update p (Obj.mapSeq (·.setIfInBounds j u)) } :=
  I.GR hp ho (oa za n j u) (r.set rv j) (by rw[length_set];exact hz) s.toks
 by_cases h0:0 <= k
 ·have hk:k.toNat=j:=by
   rw[seqIndex_of h0 h4]at h1
   exact Option.some.inj h1
  exact PySem.W.ki_setAt ho h0 (by omega) (by rw[size_toArray,← hl];exact h4) (by rw[hk];exact⟨_,I',q⟩)
 ·have hk:(k + (za.toArray.size:Int)).toNat=j:=by
   rw[seqIndex_neg (by omega) h3]at h1
   rw[size_toArray,← hl]
   exact Option.some.inj h1
  exact PySem.W.ki_setBack ho (by omega) (by rw[size_toArray,← hl];exact h3) (by omega) (by rw[hk];exact⟨_,I',q⟩)
theorem kB (lo hi:Option Int)(n:Nat):(sliceBounds lo hi none n).1=((HT.Bi n 0 lo:Nat):Int)/\(sliceBounds lo hi none n).2.1=((HT.Bi n n hi:Nat):Int)/\(sliceBounds lo hi none n).2.2=1:=by
 refine⟨?_,?_,rfl⟩
 ·cases lo with
  | none=>simp[sliceBounds,HT.Bi]
  | some i =>
   simp only[sliceBounds,HT.Bi,Option.getD_none,show (1:Int) > 0 by decide,if_true]
   by_cases h:i < 0
   ·simp only[h,if_true]<;>omega
   ·simp only[h,if_false]<;>omega
 ·cases hi with
  | none=>simp[sliceBounds,HT.Bi]
  | some i =>
   simp only[sliceBounds,HT.Bi,Option.getD_none,show (1:Int) > 0 by decide,if_true]
   by_cases h:i < 0
   ·simp only[h,if_true]<;>omega
   ·simp only[h,if_false]<;>omega
theorem jA (za:List Value)(lo hi:Option Int):slicePick za.toArray lo hi none=((za.drop (HT.Bi za.length 0 lo)).take (HT.Bi za.length za.length hi - HT.Bi za.length 0 lo)).toArray:=by
 obtain⟨h1,h2,h3⟩:=kB lo hi za.toArray.size
 unfold slicePick
 rw[h1,h2,h3]
 simp only[sliceRange_one,pick_run,size_toArray]<;>rfl
noncomputable def Q7 (K:Frag):V->Option Int->Option Int->Hp->VK->Prop:=fun x lo hi H Q=>∃ a xs,x = .ref a/\zb K H a xs/\∀ p,H p=none->Q (.ref p) (upd H p (.lst (fM xs lo hi)))
theorem c6:VM X (Q7 X.K):=by
 intro pins s σ H x v vl vu lo hi sl Q I rx hs pl pu h
 obtain⟨a,xs,rfl,hx,q⟩:=h
 cases rx
 obtain⟨za,r,ht,hz⟩:=I.list hx
 have hlen:=r.length
 refine⟨"list",_,slot_list_getitem.lookup,ht.isList.typeIs,?_⟩
 refine wpAny_getItem_list_slice ht.isList hs pl pu .none (by simp) ?_ (by rw[size_toArray]<;>omega)
 rw[jA,← hlen]
 refine⟨.ref s.heap.objs.size,_,I.laid (t':=s.toks) (o := .lst (fM xs lo hi)) (fun b ob q=>Heap.get?_push_of_some _ q) (le_refl _) ?_,rfl,q _ (I.ze.fresh (le_refl _))⟩
 exact⟨le_trans (mJ xs lo hi) hz,_,0,(r.drop (HT.Bi xs.length 0 lo)).take (HT.Bi xs.length xs.length hi - HT.Bi xs.length 0 lo),Heap.get?_push_size _ rfl⟩
noncomputable def hZ:V->Bool
 | .zm=>true
 | .bl _=>true
 | .int _=>true
 | .str _=>true
 | _=>false
noncomputable def wN:V->V->Bool
 | .zm, .zm=>true
 | .bl a, .bl b=>a == b
 | .bl a, .int b=>(if a then 1 else 0) == b
 | .int a, .bl b=>a == (if b then 1 else 0)
 | .int a, .int b=>a == b
 | .str a, .str b=>a == b
 | _,_=>false
theorem yE {A:Around}{s:Shared}{y x:V}{u v:Value}(ry:RelV y u)(rx:RelV x v)(fy:hZ y=true)(fx:hZ x=true):SeqAt.EqAt A s u v (wN y x):=by
 cases y with
 | zm =>
  cases ry
  cases x with
  | zm=>cases rx;exact SeqAt.EqAt.same _
  | bl b=>cases rx;exact SeqAt.EqAt.none_bool b
  | int b=>obtain⟨t,rfl⟩:=rx;exact SeqAt.EqAt.none_int b t
  | str b=>obtain⟨t,rfl⟩:=rx;exact SeqAt.EqAt.none_str b t
  | _=>exact absurd (show false=true from fx) Bool.false_ne_true
 | bl a =>
  cases ry
  cases x with
  | zm=>cases rx;exact SeqAt.EqAt.bool_none a
  | bl b=>cases rx;exact SeqAt.EqAt.bool_bool a b
  | int b=>obtain⟨t,rfl⟩:=rx;exact SeqAt.EqAt.bool_int a b t
  | str b=>obtain⟨t,rfl⟩:=rx;exact SeqAt.EqAt.bool_str a b t
  | _=>exact absurd (show false=true from fx) Bool.false_ne_true
 | int a =>
  obtain⟨t',rfl⟩:=ry
  cases x with
  | zm=>cases rx;exact SeqAt.EqAt.int_none a t'
  | bl b=>cases rx;exact SeqAt.EqAt.int_bool a t' b
  | int b=>obtain⟨t,rfl⟩:=rx;exact SeqAt.EqAt.int_int a t' b t
  | str b=>obtain⟨t,rfl⟩:=rx;exact SeqAt.EqAt.int_str a t' b t
  | _=>exact absurd (show false=true from fx) Bool.false_ne_true
 | str a =>
  obtain⟨t',rfl⟩:=ry
  cases x with
  | zm=>cases rx;exact SeqAt.EqAt.str_none a t'
  | bl b=>cases rx;exact SeqAt.EqAt.str_bool a t' b
  | int b=>obtain⟨t,rfl⟩:=rx;exact SeqAt.EqAt.str_int a t' b t
  | str b=>obtain⟨t,rfl⟩:=rx;exact SeqAt.EqAt.str_str a t' b t
  | _=>exact absurd (show false=true from fx) Bool.false_ne_true
 | _=>exact absurd (show false=true from fy) Bool.false_ne_true
noncomputable def o0 (x:V)(u:Value):Bool:=match u with
 | .none=>wN .zm x
 | .bool b=>wN (.bl b) x
 | .int i _=>wN (.int i) x
 | .str z _=>wN (.str z) x
 | _=>false
theorem uf {x y:V}{u:Value}(r:RelV y u)(f:hZ y=true):o0 x u=wN y x:=by
 cases y with
 | zm=>cases r;rfl
 | bl b=>cases r;rfl
 | int i=>obtain⟨t,rfl⟩:=r;rfl
 | str z=>obtain⟨t,rfl⟩:=r;rfl
 | _=>exact absurd (show false=true from f) Bool.false_ne_true
theorem ij {x:V}:∀ {xs:List V}{us:List Value},Vals xs us->xs.all hZ=true->us.any (o0 x)=xs.any fun y=>wN y x
 | _,_, .nil,_=>rfl
 | y :: xs,u :: us, .cons r t,f=>by
  rw[all_cons,Bool.and_eq_true]at f
  rw[any_cons,any_cons,uf r f.1,ij t f.2]
theorem fF {A:Around}{s:Shared}{x:V}{v:Value}(rx:RelV x v)(fx:hZ x=true):∀ {xs:List V}{us:List Value},Vals xs us->xs.all hZ=true->∀ u ∈ us,SeqAt.EqAt A s u v (o0 x u)
 | _,_, .nil,_=>fun u hu=>by cases hu
 | y :: xs,u :: us, .cons r t,f=>fun u' hu=>by
  rw[all_cons,Bool.and_eq_true]at f
  rcases mem_cons.mp hu with rfl | hu
  ·rw[uf r f.1];exact yE r rx f.1 fx
  ·exact fF rx fx t f.2 u' hu
noncomputable def IY (x:V)(xs:List V):Bool:=xs.any fun y=>wN y x
noncomputable def Q8 (K:Frag)(neg:Bool):R2:=fun x y H Q=>∃ p xs,y = .ref p/\(zb K H p xs∨zc K H p xs)/\hZ x=true/\xs.all hZ=true/\Q (.bl (if neg then !IY x xs else IY x xs)) H
theorem qu:eP X (compareOp .In) (Q8 X.K false):=by
 intro pins s σ H x y v u Q I rx ry h
 obtain⟨p,xs,rfl,hq,fx,fs,q⟩:=h
 cases ry
 rcases hq with hq | hq
 ·obtain⟨za,r,pl,hz⟩:=I.list hq
  refine SeqAt.in_listAt (o0 x) pl.isList (fun w hw=>fF rx fx r fs w (by simpa using hw)) ⟨.bl _,H,I,rfl,?_⟩
  rw[show za.toArray.any (o0 x)=za.any (o0 x) by simp,ij r fs]
  exact q
 ·obtain⟨za,r,pl,hz⟩:=I.tuple hq
  refine SeqAt.in_tupleAt (o0 x) pl (fun w hw=>fF rx fx r fs w (by simpa using hw)) ⟨.bl _,H,I,rfl,?_⟩
  rw[show za.toArray.any (o0 x)=za.any (o0 x) by simp,ij r fs]
  exact q
theorem kR:eP X (compareOp .NotIn) (Q8 X.K true):=by
 intro pins s σ H x y v u Q I rx ry h
 obtain⟨p,xs,rfl,hq,fx,fs,q⟩:=h
 cases ry
 rcases hq with hq | hq
 ·obtain⟨za,r,pl,hz⟩:=I.list hq
  refine SeqAt.notIn_listAt (o0 x) pl.isList (fun w hw=>fF rx fx r fs w (by simpa using hw)) ⟨.bl _,H,I,rfl,?_⟩
  rw[show za.toArray.any (o0 x)=za.any (o0 x) by simp,ij r fs]
  exact q
 ·obtain⟨za,r,pl,hz⟩:=I.tuple hq
  refine SeqAt.notIn_tupleAt (o0 x) pl (fun w hw=>fF rx fx r fs w (by simpa using hw)) ⟨.bl _,H,I,rfl,?_⟩
  rw[show za.toArray.any (o0 x)=za.any (o0 x) by simp,ij r fs]
  exact q
theorem ay:fP X (.builtin "len") (fun xs H Q=>∃ p ys,xs=[.ref p]/\(zb X.K H p ys∨zc X.K H p ys)/\Q (.int ys.length) H):=by
 intro pins s σ H xs us Q I r h
 obtain⟨p,ys,rfl,hq,q⟩:=h
 obtain⟨u,rfl,rx⟩:=lz r
 cases rx
 have hn:=jq
 rcases hq with hq | hq
 ·obtain⟨za,r',pl,hz⟩:=I.list hq
  have hlen:=r'.length
  exact Calls.call_len_list pl.isList (by simp only[size_toArray]<;>omega) ⟨.int ys.length,H,I.tok _,⟨s.toks + 1,by rw[size_toArray,hlen]⟩,q⟩
 ·obtain⟨za,r',pl,hz⟩:=I.tuple hq
  have hlen:=r'.length
  exact len_tuple pl (by simp only[size_toArray]<;>omega) ⟨.int ys.length,H,I.tok _,⟨s.toks + 1,by rw[size_toArray,hlen]⟩,q⟩
theorem bA:fP X (.type "list") (fun xs H Q=>∃ p ys,xs=[.ref p]/\(zb X.K H p ys∨zc X.K H p ys)/\∀ l,H l=none->Q (.ref l) (upd H l (.lst ys))):=by
 intro pins s σ H xs us Q I r h
 obtain⟨p,ys,rfl,hq,q⟩:=h
 obtain⟨u,rfl,rx⟩:=lz r
 cases rx
 have fin:∀ (za:List Value),Vals ys za->ys.length <= sizeLine->∀ (h':Heap)(c':Nat),(∀ b o',s.heap.get? b=some o'->h'.get? b=some o') ->
   h'.get? s.heap.objs.size=some { cls := .type "list",dict:=none,data := .seq za.toArray c',slots:=#[] }->EP X pins σ Q (.ref s.heap.objs.size) { s with heap:=h' }:=fun za r' hz h' c' kp e =>
  ⟨.ref s.heap.objs.size,_,I.laid (t':=s.toks) kp (le_refl _) (show zq X.prog X.w _ h' _ (.lst ys) from ⟨hz,za,c',r',e⟩),rfl,q _ (I.ze.fresh (le_refl _))⟩
 rcases hq with hq | hq
 ·obtain⟨za,r',pl,hz⟩:=I.list hq
  have hlen:=r'.length
  obtain⟨o,ho,hc,n,hd⟩:=pl.isList
  exact call_list_seq p (.inl rfl) ho hc hd (fun h' c' kp e=>fin za r' hz h' c' kp e) (by simp only[size_toArray]<;>omega)
 ·obtain⟨za,r',pl,hz⟩:=I.tuple hq
  have hlen:=r'.length
  obtain⟨o,ho,hc,n,hd⟩:=pl
  exact call_list_seq p (.inr rfl) ho hc hd (fun h' c' kp e=>fin za r' hz h' c' kp e) (by simp only[size_toArray]<;>omega)
theorem dO:fP X (.type "tuple") (fun xs H Q=>∃ p ys,xs=[.ref p]/\((zb X.K H p ys/\∀ l,H l=none->Q (.ref l) (upd H l (.tup ys)))∨(zc X.K H p ys/\Q (.ref p) H))):=by
 intro pins s σ H xs us Q I r h
 obtain⟨p,ys,rfl,h⟩:=h
 obtain⟨u,rfl,rx⟩:=lz r
 cases rx
 rcases h with ⟨hq,q⟩ | ⟨hq,q⟩
 ·obtain⟨za,r',pl,hz⟩:=I.list hq
  have hlen:=r'.length
  refine call_tuple_list pl.isList (fun h' kp=>?_) (by simp only[size_toArray]<;>omega)
  have I1:Inv X pins σ H { s with heap:=h' }:=I.kept (t':=s.toks) kp
  have I2:Inv X pins σ (upd H h'.objs.size (.tup ys)) { s with heap:=h'.push { cls := .type "tuple",data := .seq za.toArray } } :=
   I1.laid (t':=s.toks) (fun b o e=>Heap.get?_push_of_some _ e) (le_refl _) (show zq X.prog X.w _ _ _ (.tup ys) from ⟨hz,za,r',Ai.new _ _⟩)
  exact⟨.ref h'.objs.size,_,I2,rfl,q _ (I1.ze.fresh (le_refl _))⟩
 ·obtain⟨za,r',pl,hz⟩:=I.tuple hq
  exact call_tuple_same pl ⟨.ref p,H,I,rfl,q⟩
noncomputable def Q9 (K:Frag)(T:String)(x:V)(H:Hp):Prop:=match x with
 | .str _=>T = "str"
 | .int _=>T = "int"
 | .ref p=>(T = "list"/\∃ xs,zb K H p xs)∨(T = "tuple"/\∃ o,K.lookup p=some o/\o.cls = .type "tuple"/\o.dict=none) ∨
   (T = "dict"/\((∃ kvs,H p=some (.dK kvs))∨∃ kvs,H p=some (.dT kvs)))∨(T = "set"/\∃ S n,H p=some (.set S n))
 | _=>False
theorem rq {pins:List (Addr × Obj)}{σ:St}{H:Hp}{s:Shared}{T:String}{x:V}{v:Value}(I:Inv X pins σ H s)(r:RelV x v)(ty:Q9 X.K T x H) :
  s.TypeIs v T/\∀ a,v = .ref a->∃ ob,s.heap.get? a=some ob/\ob.dict=none:=by
 cases x with
 | str z =>
  obtain⟨t,rfl⟩:=r
  cases (show T = "str" from ty)
  exact⟨typeIs_str s z t,fun _ e=>nomatch e⟩
 | int i =>
  obtain⟨t,rfl⟩:=r
  cases (show T = "int" from ty)
  exact⟨typeIs_int s i t,fun _ e=>nomatch e⟩
 | ref p =>
  cases r
  rcases ty with ⟨rfl,xs,hq⟩ | ⟨rfl,o,hk,hc,hd⟩ | ⟨rfl,hk⟩ | ⟨rfl,S,n,hk⟩
  ·obtain⟨za,_,pl,_⟩:=I.list hq
   refine⟨pl.isList.typeIs,fun a e=>?_⟩
   cases e
   obtain⟨o,n,e,c,hd,_⟩:=pl
   exact⟨o,e,hd⟩
  ·refine⟨⟨o,I.Ac p o hk,hc⟩,fun a e=>?_⟩
   cases e
   exact⟨o,I.Ac _ o hk,hd⟩
  ·have z:∃ o,s.heap.get? p=some o/\o.ExactDict:=by
    rcases hk with ⟨kvs,hk⟩ | ⟨kvs,hk⟩
    ·obtain⟨_,_,_,_,o,_,_,e,ex,_⟩:=I.ze p _ hk
     exact⟨o,e,ex⟩
    ·obtain⟨_,_,_,_,o,_,_,e,ex,_⟩:=I.ze p _ hk
     exact⟨o,e,ex⟩
   obtain⟨o,e,ex⟩:=z
   refine⟨⟨o,e,ex.1⟩,fun a e2=>?_⟩
   cases e2
   exact⟨o,e,ex.2.1⟩
  ·obtain⟨o,_,_,_,e,ex,_⟩:=I.ze p _ hk
   refine⟨⟨o,e,ex.1⟩,fun a e2=>?_⟩
   cases e2
   exact⟨o,e,ex.2.1⟩
 | _=>exact False.elim ty
noncomputable def QA (K:Frag)(T:String)(r:V->List V->Hp->VK->Prop)(to:TE):TE:=fun σ H Q=>to σ H fun x H1=>Q9 K T x H1/\r x [] H1 Q
noncomputable def tBM (K:Frag)(T:String)(r:V->List V->Hp->VK->Prop)(to:TE)(t:TA):TE:=fun σ H Q=>to σ H fun x H1=>Q9 K T x H1/\t σ H1 fun xs H2=>r x xs H2 Q
variable {o e:Expr}{es:List Expr}{to:TE}{t:TA}{name:Str}{apos zK:Pos}{T id:String}{r:V->List V->Hp->VK->Prop}
theorem xM (pa:PlainAttrs T)(slot:Slot T name id)(QB:typeOf (.builtin id)=pure (.type "method_descriptor"))(hm:Oz X id r)(ho:PE X o to)
  (Cf:attributeBase o name X.env (eval o X.env)=eval o X.env:=by rfl) (DP:(apos.endLine == zK.line)=true:=by rfl):PE X (.Call (.Attribute o name apos) [] [] zK) (QA X.K T r to):=by
 intro pins s σ H Q I h
 refine wpAny_Call_method0_late Cf DP (aT (ho pins s σ H _ I h) fun v s1 zo=>?_)
 obtain⟨x,H1,I1,r1,ty,q1⟩:=zo
 obtain⟨h1,h2⟩:=rq I1 r1 ty
 exact⟨T,id,pa,slot,QB,h1,h2,Calls.callWith_builtin rfl (PySem.evalArgs_none (hm pins s1 σ H1 x [] v [] Q I1 r1 .nil q1))⟩
theorem cz (pa:PlainAttrs T)(slot:Slot T name id)(QB:typeOf (.builtin id)=pure (.type "method_descriptor"))(hm:Oz X id r)(ho:PE X o to)(ha:PA X (e :: es) t)
  (Cf:attributeBase o name X.env (eval o X.env)=eval o X.env:=by rfl)
  (DQ:((backTo zK (starEach (e :: es) X.env)).all (fun x=>!x.1) && (backToKw zK (keywordEach [] X.env)).all (fun x=>x.1.isSome)
   && decide ((e :: es).length + ([]:List Keyword).length + (if ([]:List Keyword).isEmpty then 0 else 1) < 30))=true:=by rfl)
  (DP:(apos.endLine == zK.line)=true:=by rfl) (hs:starEach (e :: es) X.env=(false,eval e X.env) :: starEach es X.env:=by rfl) (GU:(backTo zK (starEach es X.env)).any (·.1)=false:=by rfl) :
  PE X (.Call (.Attribute o name apos) (e :: es) [] zK) (tBM X.K T r to t):=by
 intro pins s σ H Q I h
 refine wpAny_Call_method_late Cf DQ DP rfl (aT (ho pins s σ H _ I h) fun v s1 zo=>?_)
 obtain⟨x,H1,I1,r1,ty,q1⟩:=zo
 obtain⟨h1,h2⟩:=rq I1 r1 ty
 refine⟨T,id,pa,slot,QB,h1,h2,?_⟩
 have hA:=ha zK pins s1 σ H1 _ I1 q1
 rw[hs]at hA ⊢
 refine Calls.callWith_builtin (by show(false || (backTo zK (starEach es X.env)).any (·.1))=false;rw[GU]<;>rfl) (Calls.evalArgs_plain ?_)
 exact aT hA fun us s2 ⟨vs,H2,I2,r2,q2⟩=>hm pins s2 σ H2 x vs v us Q I2 r1 r2 q2
end
end L2
namespace L2
open PySem PySem.Spec PyProof.Rows
noncomputable def QC (X:Cx)(id:String)(r:V->List V->Hp->VK->Prop):Prop :=
 ∀ (pins:List (Addr × Obj))(s:Shared)(σ:St)(H:Hp)(x:V)(xs:List V)(v:Value)(us:List Value)(Q:VK),Inv X pins σ H s->RelV x v->Vals xs us->r x xs H Q ->
  wpAny (model X.prog X.w) X.A (call (.builtin id) (v :: us)) (EP X pins σ Q) X.xe s
theorem Vals.one:∀ {x:V}{us:List Value},Vals [x] us->∃ u,us=[u]/\RelV x u:=by
 intro x us h
 cases h with
 | cons r t=>cases t;exact⟨_,rfl,r⟩
theorem Vals.eraseIdx:∀ {xs:List V}{us:List Value}(i:Nat),Vals xs us->Vals (xs.eraseIdx i) (us.eraseIdx i)
 | _,_,_, .nil => .nil
 | _,_,0, .cons _ t=>t
 | _,_,i + 1, .cons r t => .cons r (Vals.eraseIdx i t)
theorem jQ {α:Type}:∀ (l:List α)(i:Nat),(l.eraseIdx i).length <= l.length
 | [],_=>le_refl _
 | _ :: _,0=>le_succ _
 | _ :: r,i + 1=>Nat.succ_le_succ (jQ r i)
section
variable {X:Cx}{pins:List (Addr × Obj)}{σ:St}{H:Hp}{s:Shared}{l b:Addr}{xs ys zs:List V}
theorem Inv.GV {za its':List Value}{n:Nat}{f:Array Value->Array Value}{t':Nat}(I:Inv X pins σ H s)(hH:H l=some (.lst xs))
  (e:s.heap.get? l=some { cls := .type "list",data := .seq za.toArray n }) (hf:f za.toArray=its'.toArray) (hv:Vals ys its') (hz:ys.length <= sizeLine) :
  Inv X pins σ (upd H l (.lst ys)) { s with heap:=s.heap.update l (Obj.mapSeq f),toks:=t' }:=by
 have q:=PySem.IsL.update e f
 rw[hf]at q
 refine I.write (x:=l) (e:=l) (by rw[hH];exact trivial) (.inl rfl) (fun b' u hb hu=>(Heap.get?_update_other s.heap (Obj.mapSeq f) (Ne.symm hb)).trans hu) ⟨_,q⟩ ?_
 exact⟨hz,its',_,hv,q⟩
theorem Inv.QD {za:List Value}{t':Nat}(I:Inv X pins σ H s)(hv:Vals ys za)(hz:ys.length <= sizeLine) :
  Inv X pins σ (upd H s.heap.objs.size (.lst ys)) { s with heap:=s.heap.push { cls := .type "list",data := .seq za.toArray },toks:=t' } :=
 I.laid (fun _ _ q=>Heap.get?_push_of_some _ q) (le_refl _) ⟨hz,za,0,hv,Heap.get?_push_size _ rfl⟩
theorem Inv.fresh (I:Inv X pins σ H s):H s.heap.objs.size=none:=I.ze.fresh (le_refl _)
theorem Inv.C6 (I:Inv X pins σ H s)(hH:H l=some (.lst xs)):xs.length <= sizeLine/\∃ (za:List Value)(n:Nat),Vals xs za/\xs.length=za.length/\s.heap.get? l=some { cls := .type "list",data := .seq za.toArray n }:=by
 obtain⟨z,za,n,r,e⟩:=I.ze l _ hH
 exact⟨z,za,n,r,r.length,e⟩
theorem tP {n:Nat}(h:n <= sizeLine):Builtin.List.listTooLong n=false:=by
 unfold Builtin.List.listTooLong
 exact decide_eq_false (by omega)
end
section
variable {X:Cx}
noncomputable def uV:V->List V->Hp->VK->Prop:=fun x vs H Q=>∃ l xs y,x = .ref l/\vs=[y]/\H l=some (.lst xs)/\xs.length < sizeLine/\Q .zm (upd H l (.lst (xs ++ [y])))
theorem bG:QC X "list.append" uV:=by
 intro pins s σ H x vs v us Q I rx rv h
 obtain⟨l,xs,y,rfl,rfl,hH,hz,q⟩:=h
 cases rx
 obtain⟨u,rfl,ru⟩:=rv.one
 obtain⟨z,za,n,r,hl,e⟩:=I.C6 hH
 refine call_meets F.slot_list_append ⟨_,e,rfl⟩ F.entry_list_append (F.args_list_append_2 _ _) (PySem.list_append l za.toArray n u (by rw[size_toArray];omega)) ⟨e,?_⟩
 refine⟨.zm,_,I.GV (its':=za ++ [u]) hH e (by simp) (r.append (.cons ru .nil)) ?_,rfl,q⟩
 rw[length_append,length_singleton]
 omega
noncomputable def uU:V->List V->Hp->VK->Prop:=fun x vs H Q=>∃ l b xs zs,x = .ref l/\vs=[.ref b]/\H l=some (.lst xs)/\H b=some (.lst zs)/\xs.length + zs.length <= sizeLine/\Q .zm (upd H l (.lst (xs ++ zs)))
theorem fU:QC X "list.extend" uU:=by
 intro pins s σ H x vs v us Q I rx rv h
 obtain⟨l,b,xs,zs,rfl,rfl,hH,hB,hz,q⟩:=h
 cases rx
 obtain⟨u,rfl,ru⟩:=rv.one
 cases ru
 obtain⟨z,za,n,r,hl,e⟩:=I.C6 hH
 obtain⟨z2,B3,n2,r2,Et,e2⟩:=I.C6 hB
 have hsz:za.toArray.size + B3.toArray.size <= sizeLine:=by rw[size_toArray,size_toArray];omega
 have Kf:¬ (!za.toArray.isEmpty && Builtin.List.listTooLong (za.toArray.size + B3.toArray.size))=true:=by
  rw[tP hsz,Bool.and_false]
  exact Bool.false_ne_true
 refine call_meets F.slot_list_extend ⟨_,e,rfl⟩ F.entry_list_extend (F.args_list_extend_2 _ _)
  (AutoSeq1.list_extend_list_list_0 l za.toArray n b B3.toArray n2 Kf (by rw[size_toArray];omega) (by omega)) ⟨e,e2,?_⟩
 refine⟨.zm,_,I.GV (its':=za ++ B3) hH e (by simp) (r.append r2) ?_,rfl,q⟩
 rw[length_append]
 omega
noncomputable def xH:V->List V->Hp->VK->Prop:=fun x vs H Q=>∃ l xs i k y,x = .ref l/\vs=[.int i]/\H l=some (.lst xs)/\-(2 ^ 63) <= i/\i < 2 ^ 63/\seqIndex? i xs.length=some k/\xs[k]? = some y/\Q y (upd H l (.lst (xs.eraseIdx k)))
theorem tT:QC X "list.pop" xH:=by
 intro pins s σ H x vs v us Q I rx rv h
 obtain⟨l,xs,i,k,y,rfl,rfl,hH,h1,h2,hk,hy,q⟩:=h
 cases rx
 obtain⟨u,rfl,ru⟩:=rv.one
 obtain⟨t,rfl⟩:=ru
 obtain⟨z,za,n,r,hl,e⟩:=I.C6 hH
 obtain⟨w,hw,Ce⟩:=r.get hy
 refine call_meets F.slot_list_pop ⟨_,e,rfl⟩ F.entry_list_pop (F.args_list_pop_2 _ _)
  (MeetsSeq.list_pop_at l za.toArray n i t k w (fitsIndex_both h1 h2) (by rw[size_toArray,← hl];exact hk) (by rw[← Array.getElem?_toList];exact hw) (by rw[size_toArray];omega)) ⟨e,?_⟩
 refine⟨y,_,I.GV (its':=za.eraseIdx k) hH e ?_ (r.eraseIdx k) ?_,Ce,q⟩
 ·show za.toArray.eraseIdxIfInBounds k=(za.eraseIdx k).toArray
  rw[List.eraseIdxIfInBounds_toArray]
 ·have:=jQ xs k
  omega
noncomputable def QE:R2:=fun x y H Q=>∃ l b xs zs,x = .ref l/\y = .ref b/\H l=some (.lst xs)/\H b=some (.lst zs)/\xs.length + zs.length <= sizeLine/\∀ p,H p=none->Q (.ref p) (upd H p (.lst (xs ++ zs)))
theorem dL:eP X (binaryOp .Add) QE:=by
 intro pins s σ H x y v u Q I rx ry h
 obtain⟨l,b,xs,zs,rfl,rfl,hH,hB,hz,q⟩:=h
 cases rx
 cases ry
 obtain⟨z,za,n,r,hl,e⟩:=I.C6 hH
 obtain⟨z2,B3,n2,r2,Et,e2⟩:=I.C6 hB
 refine PySem.P.add_list e e2 ?_ (by rw[size_toArray,size_toArray];omega)
 have ea:za.toArray ++ B3.toArray=(za ++ B3).toArray:=by simp
 rw[ea]
 exact⟨.ref _,_,I.QD (t':=s.toks) (r.append r2) (by rw[length_append];omega),rfl,q _ I.fresh⟩
end
section
variable {prog:Program}{w:World}{A:Around}{E:Value->Shared->Prop}{s:Shared}
set_option maxRecDepth 100000 in
end
section
variable {X:Cx}
end
end L2
namespace VN
open PySem PySem.W PySem.Calls PyProof.Rows
theorem iC {P:Params}{h:Heap}:∀ (ns:List Int)(vs:List Value),WellAll P h vs (ns.map WData.int)->IntsAre vs ns:=by
 intro ns
 induction ns with
 | nil =>
  intro vs w
  rw[map_nil]at w
  cases w
  exact .nil
 | cons n ns ih =>
  intro vs w
  rw[map_cons]at w
  cases w with
  | cons a b =>
   cases a
   exact .cons _ _ (ih _ b)
theorem qi {l:OpenLaw}{n:Nat}(hn:l.most=some n){P:Params}{h:Heap}{args:List WData}{vals:List Value}
  (EA:l.row.toRowW.claim.pre args=true) (CO:WellAll P h vals args) :
  ∃ a vs ns,vals=[Value.ref a]/\args=[WData.list (ns.map WData.int)]/\h.get? a=some { cls := .type "list",data := .seq vs.toArray }/\IntsAre vs ns/\ns.length <= n:=by
 have hsh:WShape.hasAll [] args [.list .int]=true:=(pre_splitW EA).1
 have hc:l.pre.holds [] { args:=args } = true:=(pre_splitW EA).2
 obtain⟨d,r,rfl,h1,h2⟩:=hasAllW_cons hsh
 obtain rfl:=hasAllW_nil h2
 obtain⟨xs,rfl,h3⟩:=hasW_list h1
 obtain⟨ns,rfl⟩:=items_int h3
 have hlen:ns.length <= n:=by
  unfold OpenLaw.pre at hc
  have h4:(WTm.not (.lt (.lit (.int (n:Int))) (.len (.arg 0)))).holds [] { args:=[.list (ns.map .int)] } = true:=by
   have h4:=(holds_andW hc).1
   rw[hn]at h4
   exact h4
  have h5:=condW_of h4 (w_not (w_lt w_lit (w_len_list (w_arg rfl))))
  rw[length_map]at h5
  refine Nat.le_of_not_lt fun q=>?_
  have q':(n:Int) < ((ns.length:Nat):Int):=by omega
  first
   | (rw[decide_eq_true q']at h5;exact absurd h5 (by decide))
   | (simp at h5;omega)
 cases CO with
 | cons w1 w2 =>
  cases w2
  cases w1 with
  | list ho Ax=>exact⟨_,_,ns,rfl,rfl,ho,iC ns _ Ax,hlen⟩
theorem qm (l:OpenLaw)(args:List WData):l.row.toRowW.claim.post args (.bool true) args=true :=
 postW_of (r:=l.row.toRowW) (X:=(true == true))
  (show WShape.has [] (.bool true) .bool=true by first | rfl | decide | simp[WShape.has,WShape.arms,WShape.armsAll])
  (show(WTm.eq .res (.lit (.bool true))).value [] { args:=args,res:=some (.bool true),after:=args } = some (.bool (true == true)) from w_eq_bool (w_res rfl) w_lit) rfl
theorem Cg {l:OpenLaw}{n:Nat}{q:Program}{loose:List Str}{XP:(Str->Option Value)->Heap->Prop}{YP:World->Heap->Prop}{d:DefRec}
  (hn:l.most=some n) (Kg:d.params.defaults=[])
  (call:∀ (w:World)(s₀ s₁:Shared)(mg mb:Str->Option Value)(fa:Addr)(o:Obj)(pm cd doc:Value)(a:Addr)(vs:List Value)(ns:List Int),
   Ground q loose [] XP w s₀ mg mb s₁.heap->YP w s₁.heap ->
   s₁.heap.get? fa=some o->o.data = .func (docDef d.name d.params d.body d.scope pm cd doc)->s₁.heap.CodeRec cd d.name->mg d.name=some (.ref fa) ->
   s₁.heap.get? a=some { cls := .type "list",data := .seq vs.toArray }->IntsAre vs ns->ns.length <= n->s₁.gens = #[] ->
   codeAny (model l.prog w) callerA (.call (.ref fa) ⟨[.ref a],[]⟩) (fun r s'=>r = .ok (.ret (.bool true))/\OldK s₁.heap s'.heap/\s'.os=s₁.os/\AllBare s'.gens) s₁) :
  WalkO q loose XP YP l.row.toRowW d [] (fun f vs=>PySem.call f vs):=by
 intro w s₀ s₁ mg mb G Y fa o pm cd doc dV kV ho hd C2 hD hmg hg args vals as EA hlay hrd CO hlo
 obtain rfl:dV = .none:=Dflts.none hD Kg
 obtain rfl:kV = .none:=Dflts.noKw hD
 obtain⟨a,vs,ns,rfl,rfl,GX,hints,hlen⟩:=qi hn EA CO
 refine enter_call (codeAny_mono (call w s₀ s₁ mg mb fa o pm cd doc a vs ns G Y ho (fd_plain hd) C2 hmg GX hints hlen hg) fun r s' hq=>?_)
 obtain⟨rfl,h2,h3,h4⟩:=hq
 exact⟨.inl ⟨.bool true, .bool true,[],rfl,fun _=>rfl, .bool true,qm l _,fun _=>⟨List.Pairwise.nil,fun _ hm=>(nomatch hm)⟩⟩,h2,h3,h4⟩
section
variable {prog:Program}{w:World}{A:Around}{E:Value->Shared->Prop}{s:Shared}{K:Frag}
end
end VN
namespace L2
open PySem PySem.Spec PyProof.Rows
theorem jE:∀ {vs:List Value}{ns:List Int},IntsAre vs ns->Vals (ns.map V.int) vs
 | _,_, .nil => .nil
 | _,_, .cons n t h => .cons ⟨t,rfl⟩ (jE h)
noncomputable def yS (H:Hp):Prop:=∀ b,H b=none∨∃ o xs,H b=some (.AU o (.lst xs))
theorem tY {P:Program}{w:World}{K:Frag}{mg mb:Str->Option Value}{CX:oH}{k:Nat}{fa a:Addr}{fd:FuncData}{x:Str}{sp:Sp}{s₁:Shared}{vs:List Value}{ns:List Int}
  (KX:K.In s₁.heap) (GZ:s₁.heap.Ns mainGlobals mg) (hb:s₁.heap.Ns builtinsNs mb) (hbb:∀ x:Str,x ≠ "__name__"->mb x=bootBuiltins x) (QF:s₁.heap.NoLimit) (hg:s₁.gens = #[])
  (ha:s₁.heap.get? a=some { cls := .type "list",data := .seq vs.toArray }) (hi:IntsAre vs ns) (hl:ns.length <= sizeLine) (hr:zi k callerA)
  (F:∀ base:Heap,K.In base->base.Ns mainGlobals mg->yX P w K mg base CX k fa fd [x] sp) (Kh:∀ (s:Shared)(u:Value),BindsTo s fd ⟨[u],[]⟩ [(x,u)])
  (DC:∀ H:Hp,yS H->zb K H a (ns.map V.int)->sp [.ref a] H (fun v _=>v = .bl true) fun _ _ _=>False)
  (QG:∀ H e s',CX [] H s₁ (fun _ _ _=>False) e s'->False) :
  codeAny (model P w) callerA (.call (.ref fa) ⟨[.ref a],[]⟩) (fun r s'=>r = .ok (.ret (.bool true))/\OldK s₁.heap s'.heap/\s'.os=s₁.os/\AllBare s'.gens) s₁:=by
 have rv:=jE hi
 have QH:=hi.length
 have core:∀ H:Hp,yS H->zb K H a (ns.map V.int)->Ad P w H s₁.heap->(∀ b,H b ≠ none->b=a)->(H a ≠ none->K.lookup a=none) ->
   codeAny (model P w) callerA (.call (.ref fa) ⟨[.ref a],[]⟩) (fun r s'=>r = .ok (.ret (.bool true))/\OldK s₁.heap s'.heap/\s'.os=s₁.os/\AllBare s'.gens) s₁:=by
  intro H hO hS ze hA hK
  have base_of:∀ {b:Addr}{o:Obj},s₁.heap.get? b=some o->H b=none->(lc s₁.heap H).get? b=some o:=fun e n=>ub e n
  have Kb:∀ {b:Addr}{o:Obj}{es:Array DictEntry}{ep:Nat},s₁.heap.get? b=some o->o.data = .dict es ep->H b=none:=fun {b o es ep} e d=>by
   cases q:H b with
   | none=>rfl
   | some u =>
    have e':b=a:=hA b (by rw[q];simp)
    subst e'
    rw[ha]at e;cases e
    have d':Data.seq vs.toArray _=Data.dict es ep:=d
    cases d'
  have O0:∀ {b:Addr}{m:Str->Option Value},s₁.heap.Ns b m->(lc s₁.heap H).Ns b m:=fun {b m} ⟨o,es,ep,e,d,r⟩=>⟨o,es,ep,base_of e (Kb e d),d,r⟩
  have VO:K.In (lc s₁.heap H):=fun b o e=>base_of (KX b o e) (by
   cases q:H b with
   | none=>rfl
   | some u =>
    have e':b=a:=hA b (by rw[q];simp)
    subst e'
    rw[hK (by rw[q];simp)]at e;cases e)
  have hM:Mod K mg (lc s₁.heap H):=⟨VO,O0 GZ,⟨mb,O0 hb,hbb⟩,let ⟨mc,h1,h2⟩:=QF; ⟨mc,O0 h1,h2⟩⟩
  have e0:C4 P w K mg (lc s₁.heap H) callerA [] s₁ H:=⟨rfl,hM,fun b o e=>vG e,le_of_eq (qP _ _),trivial,fun b hb=>absurd (show b ∈ ([]:List Addr) from hb) (by simp),ze, .of_eq hg⟩
  refine codeAny_mono ((F _ VO (O0 GZ)).run callerA [] s₁ H ⟨[.ref a],[]⟩ [.ref a] [.ref a] _ _ hr e0 (Kh s₁ (.ref a)) (.cons rfl .nil) (DC H hO hS)) fun r s' h=>?_
  cases r with
  | error e=>exact(QG H e s' h).elim
  | ok fl =>
   cases fl with
   | next=>exact False.elim h
   | brk=>exact False.elim h
   | cont=>exact False.elim h
   | ret u =>
    obtain⟨v,H',os,bare,un,QI,r',q⟩:=h
    have q':v = .bl true:=q
    subst q'
    obtain rfl:u=Value.bool true:=r'
    refine⟨rfl,OldK.of_keep fun b o e=>?_,os,bare⟩
    cases q:H b with
    | none=>exact un.keep b o e q (by intro z;exact absurd (show b ∈ ([]:List Addr) from z) (by simp)) (by simp)
    | some u =>
     rcases hO b with z | ⟨ob,xs,z⟩
     ·rw[q]at z;cases z
     ·have z2:=un.AZ b ob _ z
      obtain⟨e1,_⟩:=ze b _ z
      obtain⟨e2,_⟩:=QI b _ z2
      rw[e]at e1;cases e1
      exact e2
 cases hk:K.lookup a with
 | some o =>
  have e:=KX a o hk
  rw[ha]at e
  cases e
  refine core (fun _=>none) (fun _ => .inl rfl) (.inr ⟨_,vs.toArray,_,hk,rfl,rfl,rfl,by rw[size_toArray,QH];exact hl,by simpa using rv⟩) (fun b u z=>by have z':(none:Option HO)=some u:=z;cases z') (fun b z=>absurd rfl z) fun z=>absurd rfl z
 | none =>
  refine core (fun b=>if b=a then some (.AU { cls := .type "list",data := .seq vs.toArray } (.lst (ns.map V.int))) else none) (fun b=>?_) (.inl (.inr ⟨{ cls := .type "list",data := .seq vs.toArray },if_pos rfl⟩)) (fun b u z=>?_) (fun b z=>?_) fun _=>hk
  ·by_cases hb:b=a
   ·exact .inr ⟨_,_,if_pos hb⟩
   ·exact .inl (if_neg hb)
  ·by_cases hb:b=a
   ·have z':=(if_pos hb).symm.trans z
    cases z'
    subst hb
    exact⟨ha,by rw[length_map];exact hl,vs,_,rv,ha⟩
   ·have z':=(if_neg hb).symm.trans z
    cases z'
  ·by_cases hb:b=a
   ·exact hb
   ·exact absurd (if_neg hb) z
end L2
namespace L2
open PySem PySem.Spec PyProof.Rows
theorem EB {l:PySem.W.OpenLaw}{n k:Nat}{q:Program}{loose:List Str}{XP:(Str->Option Value)->Heap->Prop}{YP:World->Heap->Prop}{d:DefRec}{K:Params->Frag}{CX:World->oH}{sp:World->Sp}{x:Str}
  (hn:l.most=some n) (DB:n <= sizeLine) (Kg:d.params.defaults=[]) (hr:zi k callerA)
  (hY:∀ (w:World)(h:Heap),YP w h->(K w.params).In h)
  (F:∀ (w:World)(mg:Str->Option Value)(fa:Addr)(h:Heap),(K w.params).In h->h.Ns mainGlobals mg->mg d.name=some (.ref fa) ->
   ∃ fd:FuncData,(∀ (s:Shared)(u:Value),BindsTo s fd ⟨[u],[]⟩ [(x,u)]) /\
    ∀ base:Heap,(K w.params).In base->base.Ns mainGlobals mg->yX l.prog w (K w.params) mg base (CX w) k fa fd [x] (sp w))
  (DC:∀ (w:World)(H:Hp)(a:Addr)(ns:List Int),ns.length <= n->yS H->zb (K w.params) H a (ns.map V.int)->sp w [.ref a] H (fun v _=>v = .bl true) fun _ _ _=>False)
  (QG:∀ (w:World)(H:Hp)(s:Shared)(e:Value)(s':Shared),CX w [] H s (fun _ _ _=>False) e s'->False) :
  PySem.W.WalkO q loose XP YP l.row.toRowW d [] (fun f vs=>PySem.call f vs):=by
 refine VN.Cg hn Kg fun w s₀ s₁ mg mb fa o pm cd doc a vs ns G Y ho hd C2 hmg GX hints hlen hg=>?_
 have KX:=hY w _ Y
 obtain⟨fd,hb,hF⟩:=F w mg fa _ KX G.T.g hmg
 exact tY KX G.T.g G.T.b G.T.builtins G.T.nolimit hg GX hints (le_trans hlen DB) hr hF hb (fun H hO hS=>DC w H a ns hlen hO hS) fun H e s'=>QG w H s₁ e s'
end L2
namespace L2
open PySem PySem.Spec PyProof.Rows
noncomputable def aC (s:Stmt)(j:Nat):Stmt:=match s with
 | .ClassDef _ _ _ body _ _ _ _ _ _ _=>body.getD j (.Pass ⟨0,0,0,0⟩)
 | _ => .Pass ⟨0,0,0,0⟩
noncomputable def bL (s:Stmt):Arguments:=match s with
 | .FunctionDef _ a _ _ _ _ _ _ _ _=>a
 | _=>{ posonlyargs:=[],args:=[],vararg:=none,kwonlyargs:=[],kw_defaults:=[],kwarg:=none,defaults:=[] }
noncomputable def aH (s:Stmt):List Stmt:=match s with
 | .FunctionDef _ _ b _ _ _ _ _ _ _=>b
 | _=>[]
noncomputable def aj (s:Stmt):Scope:=match s with
 | .FunctionDef _ _ _ _ _ _ sc _ _ _=>sc
 | _=>{ kind := .function,names:=[],isGenerator:=false,isCoroutine:=false }
noncomputable abbrev aD:oH:=fun _ _ _ _ _ _=>False
noncomputable abbrev E0:XK:=fun _ _ _=>False
theorem aq {X:Cx}:dP aD X E0:=fun _ _ _ _ _ _ _ h=>h.elim
structure zt (K:Frag)(x qual:Str)(st:Stmt)(f:Addr)(fd:FuncData):Prop where
 ex:∃ (oc:Value)(od:Option Addr)(kV doc pm:Value)(an:Option Addr)(cdv ct:Value)(C5:Array (Option Value)),
  fd=fnOf x qual (bL st) (aH st) (aj st) .none kV doc pm an cdv ct/\K.lookup f=some ⟨oc,od, .func fd,C5⟩/\codeIn K cdv qual=true
 kp:keepIn K (.ref f)=true
section
variable {P:Program}{w:World}{K:Frag}{mg:Str->Option Value}{base:Heap}
theorem zt.ok {x qual:Str}{st:Stmt}{f:Addr}{fd:FuncData}{N ps:List Str}{k:Nat}{sp:Sp}(F:zt K x qual st f fd)(S:ao N ps (aj st))(len:∀ vs H Q E,sp vs H Q E->vs.length=ps.length)
  (Bo:∀ (cdv:Value)(A:Around)(outer:List Env)(s:Shared)(H:Hp)(vs:List V)(Q:VK)(E:XK),zi k (A.deeper (envOfC qual (aj st) s.heap.objs.size f cdv))->sp vs H Q E ->
   ∃ t,Bz (iD aD P w K mg base N qual (aj st) f cdv A outer s H E).Om (aH st) t/\t { nx:=fun _ H'=>Q .zm H',rt:=Q } (start N vs) H):yX P w K mg base aD (k + 1) f fd ps sp:=by
 obtain⟨oc,od,kV,doc,pm,an,cdv,ct,C5,rfl,lk,C2⟩:=F.ex
 refine ue lk C2 S len fun A outer s H vs Q E hr DC=>?_
 obtain⟨t,h,q⟩:=Bo cdv A outer s H vs Q E hr DC
 exact⟨t,h.Om,q⟩
theorem zt.binds {x qual:Str}{st:Stmt}{f:Addr}{fd:FuncData}{ps:List Str}(F:zt K x qual st f fd)
  (h:∀ (kV doc pm:Value)(an:Option Addr)(cdv ct:Value)(us:List Value),us.length=ps.length->bindArgs (fnOf x qual (bL st) (aH st) (aj st) .none kV doc pm an cdv ct) ⟨us,[]⟩ = pure (ps.zip us)):Binds K fd ps []:=by
 obtain⟨oc,od,kV,doc,pm,an,cdv,ct,C5,rfl,lk,C2⟩:=F.ex
 exact .all (h kV doc pm an cdv ct)
theorem jy {x qual:Str}{st:Stmt}{f:Addr}{oc:Value}{od an:Option Addr}{C5:Array (Option Value)}{kV doc pm cdv ct:Value}(l:K.lookup f=some ⟨oc,od, .func (fnOf x qual (bL st) (aH st) (aj st) .none kV doc pm an cdv ct),C5⟩)
  (c:codeIn K cdv qual=true) (k:keepIn K (.ref f)=true):zt K x qual st f (fnOf x qual (bL st) (aH st) (aj st) .none kV doc pm an cdv ct):=⟨⟨oc,od,kV,doc,pm,an,cdv,ct,C5,rfl,l,c⟩,k⟩
end
theorem jT {A:Around}{k:Nat}(hr:zi k A):A.units + 1 < cLine:=lt_of_le_of_lt (Nat.add_le_add_left (by decide:1 <= 64) _) hr.units
section
variable {X:Cx}
theorem pv (i:Nat){x:Str}{pos:Pos}(hN:X.N[i]? = some x:=by rfl)(hv:Oe X.env.scope x:=by first | exact Or.inl rfl | exact Or.inr (Or.inl rfl) | exact Or.inr (Or.inr rfl))(hd:(x == ("__debug__":Str))=false:=by decide)
  (C2:(x == ("__classdict__":Str))=false:=by decide):PE X (.Name x pos) (qe i):=xL hN hv hd C2
end
theorem aI {A B:Prop}(h:B):if false=true then A else B:=by
 rw[if_neg Bool.false_ne_true]
 exact h
theorem aK {A B:Prop}(h:A):if true=true then A else B:=by
 rw[if_pos rfl]
 exact h
theorem QJ {c A B:Prop} [Decidable c] (h1:c->A) (h2:¬ c->B):if c then A else B:=by
 by_cases h:c
 ·rw[if_pos h]
  exact h1 h
 ·rw[if_neg h]
  exact h2 h
noncomputable def yW (H H':Hp):Prop:=∀ b o,H b=some o->H' b=some o
theorem yW.refl (H:Hp):yW H H:=fun _ _ h=>h
theorem yW.trans {H H1 H2:Hp}(a:yW H H1)(b:yW H1 H2):yW H H2:=fun c o h=>b c o (a c o h)
theorem yW.free {H H':Hp}(e:yW H H'){l:Addr}(h:H' l=Option.none):H l=Option.none:=by
 cases q:H l with
 | none=>rfl
 | some o =>
  rw[e l o q]at h
  cases h
theorem yW.seq {K:Frag}{H H':Hp}{a:Addr}{xs:List V}(e:yW H H')(h:zb K H a xs):zb K H' a xs:=by
 rcases h with (h | ⟨o,h⟩) | h
 ·exact .inl (.inl (e _ _ h))
 ·exact .inl (.inr ⟨o,e _ _ h⟩)
 ·exact .inr h
end L2
namespace Yd
open PySem
theorem oC (a b:Nat):Builtin.bitAnd (a:Int) (b:Int)=((a &&& b:Nat):Int):=by
 unfold Builtin.bitAnd
 simp
theorem cI (x:Int):Builtin.bitNot x = -x - 1:=by
 unfold Builtin.bitNot
 omega
theorem Du (a b:Nat):Builtin.bitOr (a:Int) (b:Int)=((a ||| b:Nat):Int):=by
 unfold Builtin.bitOr
 have h1:Builtin.bitNot (a:Int) = -(a:Int) - 1:=cI _
 have h2:Builtin.bitNot (b:Int) = -(b:Int) - 1:=cI _
 unfold Builtin.bitAnd
 rw[h1,h2]
 have e1:decide (0 <= -(a:Int) - 1)=false:=decide_eq_false (by omega)
 have e2:decide (0 <= -(b:Int) - 1)=false:=decide_eq_false (by omega)
 rw[e1,e2]
 simp only[]
 have e3:Builtin.bitNot (-(a:Int) - 1)=a:=by rw[cI];omega
 have e4:Builtin.bitNot (-(b:Int) - 1)=b:=by rw[cI];omega
 rw[e3,e4]
 simp only[toNat_natCast]
 rw[cI,cI]
 omega
noncomputable def zD:List Nat->Nat->Nat
 | [],s=>s
 | n :: r,s=>zD r (s ||| 2 ^ n)
theorem Ak (k:Nat):∀ (l:List Nat)(s:Nat),(zD l s).testBit k=(s.testBit k || decide (k ∈ l))
 | [],s=>by simp[zD]
 | n :: r,s=>by
  unfold zD
  rw[Ak k r]
  rw[Nat.testBit_or,Nat.testBit_two_pow]
  by_cases h:n=k
  ·subst h;simp
  ·have:¬ k=n:=fun z=>h z.symm
   simp[h,this]
theorem DR (l r:List Nat)(s:Nat):zD (l ++ r) s=zD r (zD l s):=by
 induction l generalizing s with
 | nil=>rfl
 | cons n t ih=>exact ih _
noncomputable def jC (l:List Nat):Nat->Nat
 | 0=>0
 | n + 1=>if n ∈ l then jC l n + 2 ^ n else jC l n
theorem BK (l:List Nat):∀ n,jC l n < 2 ^ n
 | 0=>by simp[jC]
 | n + 1=>by
  have:=BK l n
  unfold jC
  rw[Nat.pow_succ]
  split<;>omega
theorem mF (l:List Nat)(k:Nat):∀ n,(jC l n).testBit k=decide (k < n/\k ∈ l)
 | 0=>by simp[jC]
 | n + 1=>by
  have ih:=mF l k n
  have zR:=BK l n
  unfold jC
  by_cases hn:n ∈ l
  ·rw[if_pos hn,Nat.add_comm]
   rcases Nat.lt_trichotomy k n with h | h | h
   ·rw[Nat.testBit_two_pow_add_gt h,ih]
    simp[h,Nat.lt_succ_of_lt h]
   ·subst h
    rw[Nat.testBit_two_pow_add_eq,testBit_lt_two_pow zR]
    simp[hn]
   ·have hb:2 ^ n + jC l n < 2 ^ k:=by
     have:2 ^ (n + 1) <= 2 ^ k:=pow_le_pow_right (by decide) h
     rw[Nat.pow_succ]at this
     omega
    rw[testBit_lt_two_pow hb]
    have:¬ k < n + 1:=by omega
    simp[this]
  ·rw[if_neg hn,ih]
   by_cases h:k=n
   ·subst h;simp[hn]
   ·have:k < n↔k < n + 1:=by omega
    simp[this]
theorem EC {l:List Nat}{n:Nat}(h:∀ k ∈ l,k < n):jC l n=zD l 0:=by
 apply Nat.eq_of_testBit_eq
 intro k
 rw[mF,Ak]
 by_cases hk:k ∈ l
 ·simp[hk,h k hk]
 ·simp[hk]
noncomputable def C7 (m b:Nat):List Nat:=(List.range b).filter fun k=>m.testBit k
theorem Ci {m b k:Nat}(h:m < 2 ^ b):k ∈ C7 m b↔m.testBit k=true:=by
 unfold C7
 rw[mem_filter,mem_range]
 constructor
 ·exact fun z=>z.2
 ·intro z
  refine⟨?_,z⟩
  by_cases hk:k < b
  ·exact hk
  ·have:m < 2 ^ k:=lt_of_lt_of_le h (pow_le_pow_right (by decide) (by omega))
   rw[testBit_lt_two_pow this]at z
   cases z
theorem Dv (m b:Nat):(C7 m b).Pairwise (· < ·):=List.Pairwise.filter _ pairwise_lt_range
theorem Cj:∀ {l r:List Int},l.Pairwise (· < ·)->r.Pairwise (· < ·)->(∀ k,k ∈ l↔k ∈ r)->l=r
 | [],[],_,_,_=>rfl
 | [],y :: r,_,_,h=>by
  have:=(h y).mpr mem_cons_self
  cases this
 | x :: l,[],_,_,h=>by
  have:=(h x).mp mem_cons_self
  cases this
 | x :: l,y :: r,hl,hr,h=>by
  obtain⟨hx,DD⟩:=pairwise_cons.mp hl
  obtain⟨hy,F3⟩:=pairwise_cons.mp hr
  have e:x=y:=by
   rcases mem_cons.mp ((h x).mp mem_cons_self) with z | z
   ·exact z
   ·rcases mem_cons.mp ((h y).mpr mem_cons_self) with z' | z'
    ·exact z'.symm
    ·have:=hx y z'
     have:=hy x z
     omega
  subst e
  congr 1
  refine Cj DD F3 fun k=>?_
  constructor
  ·intro z
   rcases mem_cons.mp ((h k).mp (mem_cons_of_mem _ z)) with q | q
   ·have:=hx k z;omega
   ·exact q
  ·intro z
   rcases mem_cons.mp ((h k).mpr (mem_cons_of_mem _ z)) with q | q
   ·have:=hy k z;omega
   ·exact q
theorem CP (m:Nat):m < 2 ^ (Builtin.Int.intBits (m:Int)):=by
 unfold Builtin.Int.intBits
 by_cases h:m=0
 ·subst h;simp
 ·have e:((m:Int) == 0)=false:=by simp[h]
  rw[e]
  simp only[Bool.false_eq_true,if_false,Int.natAbs_natCast]
  exact Nat.lt_log2_self
theorem bits_le {m b:Nat}(h:m < 2 ^ b):Builtin.Int.intBits (m:Int) <= b:=by
 unfold Builtin.Int.intBits
 by_cases h0:m=0
 ·subst h0;simp
 ·have e:((m:Int) == 0)=false:=by simp[h0]
  rw[e]
  simp only[Bool.false_eq_true,if_false,Int.natAbs_natCast]
  have:=(Nat.log2_lt h0).mpr h
  omega
theorem CQ (m k:Nat):decide (Builtin.bitAnd ((m:Int) / 2 ^ k) 1=1)=m.testBit k:=by
 have e:((m:Int) / 2 ^ k)=((m / 2 ^ k:Nat):Int):=by
  rw[Int.natCast_ediv,Int.natCast_pow]
  rfl
 rw[e,show (1:Int)=((1:Nat):Int) from rfl,oC,Nat.testBit_eq_decide_div_mod_eq]
 rw[Nat.and_one_is_mod]
 congr 1
 exact propext ⟨fun z=>by exact_mod_cast z,fun z=>by exact_mod_cast z⟩
end Yd
namespace L2
open PySem PySem.Spec PyProof.Rows
noncomputable def bZ (cells:List (Str × Addr)):List (Str × NameKind)->List (Str × Addr)->List (Str × Addr)
 | [],acc=>acc
 | (n,k) :: r,acc=>if k == .free then bZ cells r ((n,(cells.lookup n).getD 0) :: acc) else bZ cells r acc
theorem gh {scope:Scope}{env:Env}(h:∀ y ∈ scope.names,y.2 = .free->∃ c,env.cells.lookup y.1=some c) :
  closureFor scope env=pure (bZ env.cells scope.names []):=by
 unfold closureFor
 have key:∀ (names:List (Str × NameKind))(acc:List (Str × Addr)),(∀ y ∈ names,y.2 = .free->∃ c,env.cells.lookup y.1=some c) ->
   (forIn names acc fun (x:Str × NameKind)(cs:List (Str × Addr))=>(match x with
    | (name,kind)=>if (kind == NameKind.free)=true then do
      let c ← cellOf env name
      pure (ForInStep.yield ((name,c) :: cs))
     else pure (ForInStep.yield cs):Sem (ForInStep (List (Str × Addr)))))=(pure (bZ env.cells names acc):Sem (List (Str × Addr))):=by
  intro names
  induction names with
  | nil=>intro acc _;rfl
  | cons y r ih =>
   intro acc hy
   obtain⟨n,k⟩:=y
   rw[List.forIn_cons]
   by_cases hk:(k == NameKind.free)=true
   ·obtain⟨c,hc⟩:=hy (n,k) mem_cons_self (by simpa using hk)
    have e1:cellOf env n=pure c:=by
     unfold cellOf
     simp only[]at hc
     rw[hc]
    simp only[hk,if_true,e1,pure_bind]
    rw[ih _ fun z hz=>hy z (mem_cons_of_mem _ hz)]
    unfold bZ
    simp only[]at hc
    rw[if_pos hk,hc]
    conv=>rhs;unfold bZ
    rfl
   ·simp only[hk,Bool.false_eq_true,if_false,pure_bind]
    rw[ih _ fun z hz=>hy z (mem_cons_of_mem _ hz)]
    conv=>rhs;unfold bZ
    rw[if_neg hk]
 exact(congrArg (fun (m:Sem (List (Str × Addr)))=>m >>= fun z=>pure z) (key scope.names [] h)).trans (pure_bind _ _)
theorem dN {cells:List (Str × Addr)}{x:Str}{c:Addr}:∀ (names:List (Str × NameKind))(acc:List (Str × Addr)),(∀ y ∈ names,y.2 = .free->∃ c,cells.lookup y.1=some c) ->
  (∀ c,acc.lookup x=some c->cells.lookup x=some c)->(bZ cells names acc).lookup x=some c->cells.lookup x=some c
 | [],acc,_,ha,e=>ha c e
 | (n,k) :: r,acc,hn,ha,e=>by
  unfold bZ at e
  have hr:=fun z hz=>hn z (mem_cons_of_mem _ hz)
  split at e
  ·rename_i hk
   refine dN r _ hr (fun c' e'=>?_) e
   rw[lookup_cons]at e'
   split at e'
   ·rename_i hx
    have BX:x=n:=by simpa using hx
    subst BX
    obtain⟨c0,Hj⟩:=hn (x,k) mem_cons_self (by simpa using hk)
    simp only[]at Hj
    rw[Hj]at e' ⊢
    exact e'
   ·exact ha c' e'
  ·exact dN r acc hr ha e
theorem eN {cells:List (Str × Addr)}{x:Str}:∀ (names:List (Str × NameKind))(acc:List (Str × Addr)),((x,NameKind.free) ∈ names∨∃ c,acc.lookup x=some c) ->
  ∃ c,(bZ cells names acc).lookup x=some c
 | [],acc,h=>by
  rcases h with h | h
  ·cases h
  ·exact h
 | (n,k) :: r,acc,h=>by
  unfold bZ
  split
  ·rename_i hk
   refine eN r _ ?_
   rcases h with h | ⟨c,h⟩
   ·rcases mem_cons.mp h with h | h
    ·refine .inr ⟨(cells.lookup n).getD 0,?_⟩
     injection h with h1 h2
     rw[lookup_cons,h1]
     simp
    ·exact .inl h
   ·refine .inr ?_
    rw[lookup_cons]
    split
    ·exact⟨_,rfl⟩
    ·exact⟨c,h⟩
  ·rename_i hk
   refine eN r _ ?_
   rcases h with h | h
   ·rcases mem_cons.mp h with h | h
    ·injection h with h1 h2
     subst h2
     exact absurd rfl hk
    ·exact .inl h
   ·exact .inr h
theorem gN {env:Env}{x:Str}:∀ {names:List (Str × NameKind)},names.lookup x=some .free ->
  (names.map fun (n,k)=>if (k == NameKind.free && env.scope.kind == .function && env.kindOf n == some .cell) then (n,NameKind.cell) else (n,k)).lookup x=some .cell ∨
  (names.map fun (n,k)=>if (k == NameKind.free && env.scope.kind == .function && env.kindOf n == some .cell) then (n,NameKind.cell) else (n,k)).lookup x=some .free
 | [],h=>by simp at h
 | (n,k) :: r,h=>by
  have ih:=@gN env x r
  rw[map_cons]
  cases hx:x == n with
  | true =>
   rw[lookup_cons,hx]at h
   cases h
   simp only[]
   split
   ·left;rw[lookup_cons,hx]
   ·right;rw[lookup_cons,hx]
  | false =>
   rw[lookup_cons,hx]at h
   simp only[]
   split
   ·rw[lookup_cons,hx];exact ih h
   ·rw[lookup_cons,hx];exact ih h
theorem fv {env:Env}{x:Str}{k:NameKind}(hk:k = .cell∨k = .free):∀ {names:List (Str × NameKind)},(∀ y ∈ names,y.2 ≠ .cell) ->
  (names.map fun (n,k)=>if (k == NameKind.free && env.scope.kind == .function && env.kindOf n == some .cell) then (n,NameKind.cell) else (n,k)).lookup x=some k->(x,NameKind.free) ∈ names
 | [],_,h=>by simp at h
 | (n,k') :: r,hc,h=>by
  have ih:=@fv env x k hk r fun y hy=>hc y (mem_cons_of_mem _ hy)
  rw[map_cons]at h
  simp only[]at h
  cases hx:x == n with
  | true =>
   have e:x=n:=by simpa using hx
   subst e
   split at h
   ·rename_i q
    have q':k' = .free:=by
     have:=(Bool.and_eq_true _ _ ▸ q:_/\_).1
     have:=(Bool.and_eq_true _ _ ▸ this:_/\_).1
     simpa using this
    rw[q']
    exact mem_cons_self
   ·rw[lookup_cons,hx]at h
    have e2:k' = k:=Option.some.inj h
    rcases hk with z | z
    ·exact absurd (e2.trans z) (hc (x,k') mem_cons_self)
    ·rw[e2,z];exact mem_cons_self
  | false =>
   split at h
   ·rw[lookup_cons,hx]at h;exact mem_cons_of_mem _ (ih h)
   ·rw[lookup_cons,hx]at h;exact mem_cons_of_mem _ (ih h)
section
variable {prog:Program}{w:World}{A:Around}{R:Result->Shared->Prop}{s:Shared}
noncomputable abbrev k4 (ifs:List Expr)(env:Env):Sem Bool :=
 forIn ifs true fun c r=>if r=true then do let ok ← isTrue c env (eval c env);pure (ForInStep.yield ok) else pure (ForInStep.yield r)
theorem mQ {elt tg iter:Expr}{ifs:List Expr}{scope:Scope}{pos:Pos}{it acc:Value}{env:Env}(I:Nat->Shared->Prop)
  (turn:∀ n s,I n s->wpAny (model prog w) A (pyNext it) (fun r s1=>match r with
   | none=>R (.ok .next) s1
   | some v=>wpAny (model prog w) A (letOwnedTupleGo tg it v) (fun _ s2=>wpAny (model prog w) A (assign tg env v) (fun _ s3 =>
     wpAny (model prog w) A (k4 ifs env) (fun ok s4 =>
      if ok=true then wpAny (model prog w) A (eval elt env) (fun x s5 =>
       wpAny (model prog w) A (call (.builtin "list.append") [acc,x]) (fun _ s6=>∃ m,m < n/\I m s6) (fun _ _=>False) s5) (fun _ _=>False) s4
      else ∃ m,m < n/\I m s4) (fun _ _=>False) s3) (fun _ _=>False) s2) (fun _ _=>False) s1) (fun _ _=>False) s)
  (n:Nat) (h:I n s):codeAny (model prog w) A (.compLoop (.ListComp elt [⟨tg,iter,ifs,0⟩] scope pos) 0 it acc env) R s:=by
 refine codeAny_loop rfl I (fun n s hI=>?_) n h
 have no:∀ {E':Value->Shared->Prop}(e:Value)(s':Shared),False->E' e s':=fun _ _ z=>z.elim
 show wpAny _ A (Sem.onRaise (compTurn (.ListComp elt [⟨tg,iter,ifs,0⟩] scope pos) 0 it acc env) fun x=>do
  noteFrame x env
  theTreesLotGoes x) _ _ s
 refine wpAny_noted ?_
 rw[compTurn_list]
 refine wpAny_bind (wpAny_standAt (wpAny_bind (wpAny_mono (turn n s hI) (fun r s1 h1=>?_) no)))
 cases r with
 | none=>exact wpAny_pure h1
 | some v =>
  refine wpAny_bind (wpAny_mono h1 (fun _ s2 h2=>?_) no)
  refine wpAny_bind (wpAny_mono h2 (fun _ s3 h3=>?_) no)
  refine wpAny_bind (wpAny_mono h3 (fun ok s4 h4=>?_) no)
  cases ok with
  | false=>exact wpAny_pure ⟨rfl,h4⟩
  | true =>
   refine wpAny_bind (wpAny_bind (wpAny_mono h4 (fun x s5 h5=>?_) no))
   exact wpAny_bind (wpAny_mono h5 (fun _ s6 h6=>wpAny_pure (wpAny_pure ⟨rfl,h6⟩)) no)
end
noncomputable def Ki (X:Cx)(ifs:List Expr)(t:TT):Prop :=
 ∀ (pins:List (Addr × Obj))(s:Shared)(σ:St)(H:Hp)(Q:Bool->Hp->Prop),Inv X pins σ H s->t σ H Q->wpAny (model X.prog X.w) X.A (k4 ifs X.env) (TP X pins σ Q) X.xe s
noncomputable def l7:TT:=fun _ H Q=>Q true H
theorem bJ {X:Cx}:Ki X [] l7:=fun _ _ _ H _ I h=>wpAny_pure ⟨H,I,h⟩
theorem cx {X:Cx}{c:Expr}{t:TT}(h:PT X c t):Ki X [c] t:=fun pins s σ H Q I hw=>by
 simp only[k4,List.forIn_cons,List.forIn_nil,if_true]
 exact wpAny_bind (wpAny_bind (aT (h pins s σ H Q I hw) fun b s' hb=>wpAny_pure (wpAny_pure hb)))
structure Ae (N:List Str)(sc scope:Scope)(capN:List Str)(cap:List Nat):Prop where
 kind:scope.kind = .function
 C8:∀ y ∈ scope.names,y.2 ≠ .cell
 loc:∀ y ∈ scope.names,y.2 = .local->scope.names.lookup y.1=some .local
 free:∀ y ∈ scope.names,y.2 = .free->sc.names.lookup y.1=some .cell∨sc.names.lookup y.1=some .free
 len:cap.length=capN.length
 cap:∀ p ∈ capN.zip cap,scope.names.lookup p.1=some .free/\N[p.2]? = some p.1
noncomputable abbrev bT (X:Cx)(scope:Scope)(N:List Str)(C:Addr)(s:Shared)(H:Hp)(fp:List Addr):Cx :=
 { X with N:=N,s₀:=s,H₀:=H,env:=compEnvC scope (bZ X.env.cells scope.names []) C X.env,outer:=X.stack,stack:=X.stack,ex:=fp,fn:=fun _=>false,pn:=[],xe:=fun _ _=>False }
noncomputable def i4 (n:Nat)(cap:List Nat)(σ:St):St:=List.replicate n none ++ cap.map fun j=>(σ[j]?).join
theorem mT (n:Nat)(cap:List Nat)(σ:St):(i4 n cap σ).length=n + cap.length:=by simp[i4]
section
variable {X:Cx}{pins:List (Addr × Obj)}{σ:St}{H:Hp}{s:Shared}{scope:Scope}{own capN:List Str}{cap:List Nat}{fp:List Addr}
theorem Ae.Hk (B:Ae X.N X.env.scope scope capN cap)(ok:X.Ok):∀ y ∈ scope.names,y.2 = .free->∃ c,X.env.cells.lookup y.1=some c:=fun y hy hf=>ok.has y.1 (B.free y hy hf)
theorem Ae.cell (B:Ae X.N X.env.scope scope capN cap)(ok:X.Ok){x:Str}{c:Addr}(h:(bZ X.env.cells scope.names []).lookup x=some c):X.env.cells.lookup x=some c :=
 dN scope.names [] (B.Hk ok) (fun _ e=>by cases e) h
theorem Ae.locs (I:Inv X pins σ H s)(B:Ae X.N X.env.scope scope capN cap){h':Heap}(k:∀ x c v,X.env.cells.lookup x=some c->s.heap.IsCell c v->h'.IsCell c v)(C:Addr)(m0:Str->Option Value) :
  ∀ (i:Nat)(x:Str)(v:V),(own ++ capN)[i]? = some x->(i4 own.length cap σ)[i]? = some (some v)->∃ u,RelV v u/\Look (compEnvC scope (bZ X.env.cells scope.names []) C X.env) h' m0 x u:=by
 intro i x v e1 e2
 have hi:own.length <= i:=by
  by_cases q:own.length <= i
  ·exact q
  ·unfold i4 at e2
   rw[List.getElem?_append_left (by simp;omega),List.getElem?_replicate,if_pos (by omega)]at e2
   cases e2
 have e1':capN[i - own.length]? = some x:=by
  rwa [List.getElem?_append_right hi]at e1
 unfold i4 at e2
 rw[List.getElem?_append_right (by simpa using hi),length_replicate,List.getElem?_map]at e2
 cases ej:cap[i - own.length]? with
 | none=>rw[ej]at e2;cases e2
 | some j =>
  rw[ej]at e2
  have O1:(σ[j]?).join=some v:=Option.some.inj e2
  have e3':σ[j]? = some (some v):=by
   cases q:σ[j]? with
   | none=>rw[q]at O1;cases O1
   | some u=>rw[q]at O1;exact congrArg some O1
  have hz:(x,j) ∈ capN.zip cap:=by
   refine List.mem_iff_getElem?.mpr ⟨i - own.length,?_⟩
   rw[List.getElem?_zip_eq_some]
   exact⟨e1',ej⟩
  obtain⟨c1,c2⟩:=B.cap (x,j) hz
  have VP:(x,NameKind.free) ∈ scope.names:=PySem.mem_of_lookup c1
  have hX:=B.free _ VP rfl
  obtain⟨m,hm,hl⟩:=I.loc
  obtain⟨u,ru,lk⟩:=hl j x v c2 e3' (hX.elim (fun z => .inr (.inl z)) fun z => .inr (.inr z))
  refine⟨u,ru, .inr ⟨gN c1,?_⟩⟩
  rcases lk with ⟨q,_⟩ | ⟨_,c,ec,ic⟩
  ·have q':X.env.scope.names.lookup x=some .local:=q
   rcases hX with z | z
   ·rw[z]at q';cases q'
   ·rw[z]at q';cases q'
  ·obtain⟨c',VQ⟩:=eN (cells:=X.env.cells) (x:=x) scope.names [] (.inl VP)
   have:=B.cell I.ok VQ
   rw[ec]at this
   cases this
   exact⟨c,VQ,k x c _ ec ic⟩
theorem Inv.blk {h4:Heap}{tk:Nat}{m0:Str->Option Value}{C:Addr}(I:Inv X pins σ H s)(B:Ae X.N X.env.scope scope capN cap)(hC:s.heap.objs.size <= C)(k:∀ b o,s.heap.get? b=some o->h4.get? b=some o)
  (hn:h4.Ns C m0) (hf:∀ b ∈ fp,fX X pins H b) (zR:∀ b ∈ fp,b < s.heap.objs.size) :
  Inv (bT X scope (own ++ capN) C s H fp) [] (i4 own.length cap σ) H { s with heap:=h4,toks:=tk }:=by
 have QK:∀ b ∈ fp,b ∉ lg X.stack:=fun b hb z=>by
  obtain⟨_,f1,f2,_⟩:=hf b hb
  rcases mem_cons.mp (I.AL b z) with e | e
  ·exact f1 e
  ·exact f2 e
 have hinv:∀ x,((relabel scope X.env).names.lookup x=some .cell∨(relabel scope X.env).names.lookup x=some .free)->(x,NameKind.free) ∈ scope.names:=fun x hx=>by
  rcases hx with q | q
  ·exact fv (.inl rfl) B.C8 q
  ·exact fv (.inr rfl) B.C8 q
 refine⟨⟨I.ok.mod,B.kind,I.ok.glob,I.ok.blt,hC,fun x y c h1 h2=>I.ok.inj x y c (B.cell I.ok h1) (B.cell I.ok h2),fun x hx=>eN scope.names [] (.inl (hinv x hx)),fun _ _ z=>absurd z Bool.false_ne_true,I.ok.hd,I.ok.frames, .inl rfl,
  fun b hb=>⟨ne_of_lt (lt_of_lt_of_le (zR b hb) hC),fun x c e=>(hf b hb).2.2.2.2.1 x c (B.cell I.ok e)⟩,I.bs,le_trans I.ok.E7 I.sz,fun b o e hb=>?_,fun b hb=>QK b hb,I.stack,I.BJ⟩,
  rfl,I.bare,Un.kept k,⟨m0,hn,fun i x v e1 e2 _=>B.locs I (fun _ _ _ _ q=>q.keeps k) C m0 i x v e1 e2⟩,fun x c e=>?_,I.ze.fresh hC,fun x c e=>I.zM x c (B.cell I.ok e),fun p hp=>absurd (show p ∈ ([]:List (Addr × Obj)) from hp) (by simp),I.ze.kept k,?_⟩
 ·rcases (hf b hb).2.2.2.1 with z | z
  ·exact I.ok.DL b o e z
  ·exact absurd (lt_of_lt_of_le (lt_size e) (le_trans I.ok.E7 z)) (lt_irrefl _)
 ·obtain⟨v,q⟩:=I.cell x c (B.cell I.ok e)
  exact⟨v,q.keeps k⟩
 ·show(i4 own.length cap σ).length=(own ++ capN).length
  rw[mT,length_append,B.len]
theorem Inv.reset {Cb:List (Addr × Obj)}{σ':St}{H':Hp}{s':Shared}{C:Addr}(I:Inv X pins σ H s)(B:Ae X.N X.env.scope scope capN cap)(hf:∀ b ∈ fp,fX X pins H b)(J:Inv (bT X scope (own ++ capN) C s H fp) Cb σ' H' s') :
  Inv (bT X scope (own ++ capN) C s H fp) Cb (i4 own.length cap σ) H' s':=by
 obtain⟨m,hn,_⟩:=J.loc
 refine⟨J.ok,J.os,J.bare,J.base,⟨m,hn,fun i x v e1 e2 _=>?_⟩,J.cell,J.free,J.zM,J.pin,J.ze,?_⟩
 ·refine B.locs I (fun y c v' ec ic=>?_) C m i x v e1 e2
  obtain⟨o,ho,hd⟩:=ic
  have hx:c ∉ fp:=fun z=>(hf c z).2.2.2.2.1 y c ec rfl
  obtain⟨sl,e⟩:=J.base.any ho (I.zM y c ec) hx
  exact⟨_,e,hd⟩
 ·show(i4 own.length cap σ).length=(own ++ capN).length
  rw[mT,length_append,B.len]
theorem Inv.adopt {D:Addr}{o:HO}(I:Inv X pins σ H s)(hn:H D=none)(h0:X.s₀.heap.objs.size <= D)(hL:D ≠ X.env.locals)(hc:∀ x c,X.env.cells.lookup x=some c->c ≠ D)(hp:∀ p ∈ X.pn ++ pins,p.1 ≠ D)
  (new:zq X.prog X.w (upd H D o) s.heap D o):Inv X pins σ (upd H D o) s:=by
 have ne:∀ b u,H b=some u->b ≠ D:=fun b u e=>ag e hn
 refine⟨I.ok,I.os,I.bare,⟨I.base.keep,I.base.slot,fun b ob e n hx=>?_,I.base.there,fun b xs e=>?_,fun b ob u e=>?_,fun b ps e=>?_⟩,I.loc,I.cell,?_,fun x c e=>?_,fun p CS=>?_,fun b u e=>?_,I.len⟩
 ·rw[ae (ne_of_lt (lt_of_lt_of_le (lt_size e) h0))]
  exact I.base.free b ob e n hx
 ·have q:=I.base.Bm b xs e
  rw[ae (ne b _ q)];exact q
 ·have q:=I.base.AZ b ob u e
  rw[ae (ne b _ q)];exact q
 ·obtain⟨more,q⟩:=I.base.Bn b ps e
  exact⟨more,by rw[ae (ne b _ q)];exact q⟩
 ·rw[ae (Ne.symm hL)];exact I.free
 ·rw[ae (hc x c e)];exact I.zM x c e
 ·obtain⟨e,n,r⟩:=I.pin p CS
  exact⟨e,by rw[ae (hp p CS)];exact n,r⟩
 ·by_cases hb:b=D
  ·subst hb;rw[ac]at e;cases e;exact new
  ·rw[ae hb]at e
   exact(I.ze b u e).AY (fun _ _ _ q=>q) (fun c q=>by rw[ae (ne c _ q)];exact q) fun c xs q=>by rw[ae (ne c _ q)];exact q
end
noncomputable def dF (J:It)(g:TG)(tt:TT)(te:TE)(σ0:St)(Q:VK)(H1:Hp):Prop:=∃ W:Nat->Nat->List V->Hp->Prop,(∃ m,W 0 m [] H1)/\∀ i m acc H,W i m acc H ->
 acc.length < sizeLine/\((J.stop i H/\∀ D,H D=none->Q (.ref D) (upd H D (.lst acc)))∨(J.go i H/\∃ N:List V->Hp->Prop,(∀ zV H',N zV H'->∃ m',m' < m/\W (i + 1) m' zV H') /\
  ∀ x H',J.Er i H x H'->g x σ0 H' fun σ2 H2=>tt σ2 H2 fun b H3=>if b=true then te σ2 H3 fun y H4=>N (acc ++ [y]) H4 else N acc H3))
noncomputable def wr (wi:TI)(g:TG)(tt:TT)(te:TE)(n:Nat)(cap:List Nat):TE:=fun σ H Q=>wi σ H fun J H1=>dF J g tt te (i4 n cap σ) Q H1
section
variable {X:Cx}{tg iter elt:Expr}{ifs:List Expr}{scope:Scope}{pos:Pos}{wi:TI}{g:TG}{tt:TT}{te:TE}{own capN:List Str}{cap:List Nat}
noncomputable abbrev kX (za:List Value)(k:Nat):Obj:={ cls := .type "list",data := .seq za.toArray k }
theorem mK {pins:List (Addr × Obj)}{s:Shared}{σ:St}{H:Hp}{Q:VK}{it:Addr}{fp:List Addr}{tn:Nat->Heap->Prop}{J:It}(B:Ae X.N X.env.scope scope capN cap)(hc:X.calm=true)
  (hb:∀ (C:Addr)(s:Shared)(H:Hp)(fp:List Addr),PG (bT X scope (own ++ capN) C s H fp) tg g/\Ki (bT X scope (own ++ capN) C s H fp) ifs tt/\PE (bT X scope (own ++ capN) C s H fp) elt te)
  (I:Inv X pins σ H s) (T:mX X.prog X.w X.K tg J fp it tn) (st:tn 0 s.heap) (hf:∀ b ∈ fp,fX X pins H b) {W:Nat->Nat->List V->Hp->Prop} {m0:Nat} (w0:W 0 m0 [] H)
  (turn:∀ i m acc H,W i m acc H->acc.length < sizeLine/\((J.stop i H/\∀ D,H D=none->Q (.ref D) (upd H D (.lst acc)))∨(J.go i H/\∃ N:List V->Hp->Prop,(∀ zV H',N zV H'->∃ m',m' < m/\W (i + 1) m' zV H') /\
   ∀ x H',J.Er i H x H'->g x (i4 own.length cap σ) H' fun σ2 H2=>tt σ2 H2 fun b H3=>if b=true then te σ2 H3 fun y H4=>N (acc ++ [y]) H4 else N acc H3)))
  {RR:Value->Addr->Result->Shared->Prop}
  (fin:∀ (D C:Addr)(H':Hp)(s':Shared),Q (.ref D) H'->Inv X pins σ H' s'->(∃ m,s'.heap.Ns C m)->H' C=none->C ≠ X.env.locals->X.s₀.heap.objs.size <= C->(∀ x c,X.env.cells.lookup x=some c->c ≠ C)->(∀ p ∈ X.pn ++ pins,p.1 ≠ C) ->
   RR (.ref D) C (.ok .next) s') :
  wpAny (model X.prog X.w) X.A (newList []) (fun acc s3=>wpAny (model X.prog X.w) X.A (newFunctionEnv scope X.env.globals (bZ X.env.cells scope.names []) [] X.env.qual none .none (some X.env)) (fun Kj s4 =>
   codeAny (model X.prog X.w) X.A (.compStart (.ListComp elt [⟨tg,iter,ifs,0⟩] scope pos) 0 (.ref it) acc { Kj with scope:=relabel scope X.env }) (RR acc Kj.locals) s4) X.xe s3) X.xe s:=by
 refine wpAny_newObj_type (wpAny_newFunctionEnv B.C8 (by intro y hy;simp at hy) (fun h1 GZ F4=>?_) B.kind)
 dsimp only at GZ F4 ⊢
 generalize DS:s.heap.push { cls := .type "list",dict:=none,data := .seq ([]:List Value).toArray } = H2 at GZ F4 ⊢
 have Kk:H2.objs.size=s.heap.objs.size + 1:=by rw[← DS,size_push]
 have C9:s.heap.objs.size <= H2.objs.size:=by omega
 have ED:∀ b ∈ fp,b < s.heap.objs.size:=fun b hb=>by
  obtain⟨o,e,_⟩:=T.obj 0 s.heap st b hb
  exact lt_size e
 have old:∀ b o,s.heap.get? b=some o->h1.get? b=some o:=fun b o e =>
  F4.extBut b o (ne_of_lt (lt_of_lt_of_le (lt_size e) C9)) (Heap.get?_push_of_some _ (DS ▸ Heap.get?_push_of_some _ e))
 have O2:s.heap.objs.size ≠ H2.objs.size:=by omega
 have QL:h1.get? s.heap.objs.size=some (kX [] 0):=F4.extBut _ _ O2 (Heap.get?_push_of_some _ (DS ▸ Heap.get?_push_size _ rfl))
 have I4:Inv (bT X scope (own ++ capN) H2.objs.size s H fp) [] (i4 own.length cap σ) H { s with heap:=h1,toks:=s.toks + ([]:List (Str × Value)).length }:=I.blk (own:=own) B C9 old GZ hf ED
 have QK:∀ b ∈ fp,b ∉ lg X.stack:=fun b hb z=>by
  obtain⟨_,f1,f2,_⟩:=hf b hb
  rcases mem_cons.mp (I.AL b z) with e | e
  ·exact f1 e
  ·exact f2 e
 have EE:∀ b ∈ lg X.stack,b < s.heap.objs.size:=fun b hb=>by
  obtain⟨_,o,ho,_⟩:=I.stack.mem hb
  exact lt_size ho
 have CA:∀ x c,X.env.cells.lookup x=some c->c < s.heap.objs.size:=fun x c e=>by
  obtain⟨v,q⟩:=I.cell x c e
  exact q.lt
 have F5:∀ (H':Hp)(h':Heap)(za:List Value)(k:Nat),H' s.heap.objs.size=none->h'.get? s.heap.objs.size=some (kX za k) ->
   ∀ p ∈ [(s.heap.objs.size,kX za k)],h'.get? p.1=some p.2/\H' p.1=none/\p.1 ≠ (bT X scope (own ++ capN) H2.objs.size s H fp).env.locals/\p.1 ∉ (bT X scope (own ++ capN) H2.objs.size s H fp).fs/\∀ v,p.2.data ≠ .cell v:=fun H' h' za k hn he p hp=>by
  have e:p=(s.heap.objs.size,kX za k):=by simpa using hp
  subst e
  exact⟨he,hn,O2,fun z=>absurd (EE _ z) (lt_irrefl _),fun v z=>by cases z⟩
 have stat:∀ (H':Hp)(za:List Value)(k:Nat),(∀ b ∈ fp,H' b=none)->∀ b ∈ fp,fX (bT X scope (own ++ capN) H2.objs.size s H fp) [(s.heap.objs.size,kX za k)] H' b:=fun H' za k hn b hb =>
  ⟨hn b hb,ne_of_lt (lt_of_lt_of_le (ED b hb) C9),QK b hb, .inl hb,fun x c e=>(hf b hb).2.2.2.2.1 x c (B.cell I.ok e),fun p hp=>by
   have e:p=(s.heap.objs.size,kX za k):=by simpa using hp
   subst e
   exact ne_of_gt (ED b hb)⟩
 have loop:∀ s3:Shared,s3 = { s with heap:=h1,toks:=s.toks + ([]:List (Str × Value)).length } ->
   codeAny (model X.prog X.w) X.A (.compLoop (.ListComp elt [⟨tg,iter,ifs,0⟩] scope pos) 0 (.ref it) (.ref s.heap.objs.size) (compEnvC scope (bZ X.env.cells scope.names []) H2.objs.size X.env))
    (RR (.ref s.heap.objs.size) H2.objs.size) s3:=by
  rintro s3 rfl
  refine mQ (fun n s'=>∃ i acc za k H',Inv (bT X scope (own ++ capN) H2.objs.size s H fp) [(s.heap.objs.size,kX za k)] (i4 own.length cap σ) H' s'/\tn i s'.heap/\(∀ b ∈ fp,H' b=none)/\Vals acc za/\W i n acc H') ?_ m0
   ⟨0,[],[],0,H,I4.Ap (F5 _ _ _ _ (I.ze.fresh (le_refl _)) QL),T.keep 0 s.heap h1 st fun b _ o e=>old b o e,fun b hb=>(hf b hb).1, .nil,w0⟩
  rintro n s5 ⟨i,acc,za,k,H5,I5,IT,Ow,rv,w5⟩
  obtain⟨hsz,Kl⟩:=turn i n acc H5 w5
  obtain⟨hgt,CT,hte⟩:=hb H2.objs.size s H fp
  rcases Kl with ⟨stop,q⟩ | ⟨go,N,hN,step⟩
  ·refine aT (T.done (bT X scope (own ++ capN) H2.objs.size s H fp) rfl rfl rfl hc i _ s5 _ H5 _ I5 (stat H5 za k Ow) IT stop) fun r s6 zo=>?_
   obtain⟨hr,I6⟩:=zo
   subst hr
   obtain⟨hD,CU,_⟩:=I6.pin (s.heap.objs.size,kX za k) (by simp)
   have J1:Inv X pins σ H5 s6:=I.F2 (s':=s6) (ch:=fp) I6.os I6.base I6.ze I6.bare fun b hb=>by
    obtain⟨_,f1,_,f3,f4,f5⟩:=hf b hb
    exact⟨f3,f1,f4,f5⟩
   have J2:Inv X pins σ (upd H5 s.heap.objs.size (.lst acc)) s6:=J1.adopt CU I.sz (ne_of_gt I.lt) (fun x c e=>ne_of_lt (CA x c e)) (fun p hp=>ne_of_lt (lt_size (I.pin p hp).1)) ⟨le_of_lt hsz,za,k,rv,hD⟩
   obtain⟨mC,Km,_⟩:=I6.loc
   refine fin _ _ _ s6 (q _ CU) J2 ⟨mC,Km⟩ (by rw[ae (Ne.symm O2)];exact I6.free) (ne_of_gt (lt_of_lt_of_le I.lt C9)) (le_trans I.sz C9) (fun x c e=>ne_of_lt (lt_of_lt_of_le (CA x c e) C9)) fun p hp =>
    ne_of_lt (lt_of_lt_of_le (lt_size (I.pin p hp).1) C9)
  ·refine aT (T.item (bT X scope (own ++ capN) H2.objs.size s H fp) rfl rfl rfl hc i _ s5 _ H5 _ I5 (stat H5 za k Ow) IT go) fun r s6 zo=>?_
   obtain⟨u,hr,h6⟩:=zo
   subst hr
   refine aT h6 fun _ s7 zo=>?_
   obtain⟨x,H7,I7,r7,y7,QM,fr7⟩:=zo
   have I7':=I7.pinned (stat H7 za k fr7) (T.obj _ _ QM)
   refine aT (hgt _ s7 _ H7 x u _ I7' r7 (step x H7 y7)) fun _ s8 zo=>?_
   obtain⟨σ8,H8,I8,q8⟩:=zo
   refine aT (CT _ s8 σ8 H8 _ I8 q8) fun b s9 zo=>?_
   obtain⟨H9,I9,q9⟩:=zo
   have VR:∀ {H':Hp}{s':Shared}{σ':St},Inv (bT X scope (own ++ capN) H2.objs.size s H fp) (eG fp s7.heap) σ' H' s'->tn (i + 1) s'.heap/\∀ b ∈ fp,H' b=none:=fun {H' s' σ'} K=>by
    refine⟨T.keep _ _ _ QM fun b hb o e=>(K.pin (b,o) (eK hb e)).1,fun b hb=>?_⟩
    obtain⟨o,e,_⟩:=T.obj _ _ QM b hb
    exact(K.pin (b,o) (eK hb e)).2.1
   cases b with
   | false =>
    rw[if_neg Bool.false_ne_true]
    obtain⟨m',hm,w9⟩:=hN acc H9 (by simpa using q9)
    have K9:Inv (bT X scope (own ++ capN) H2.objs.size s H fp) (eG fp s7.heap) σ8 H9 s9:=I9.Ap fun p hp=>I9.pin p (mem_append_right _ (mem_append_right _ hp))
    obtain⟨t9,f9⟩:=VR K9
    exact⟨m',hm,i + 1,acc,za,k,H9,I.reset B hf I9.AA,t9,f9,rv,w9⟩
   | true =>
    rw[if_pos rfl]
    have q9':te σ8 H9 fun y H4=>N (acc ++ [y]) H4:=by simpa using q9
    refine aT (hte _ s9 σ8 H9 _ I9 q9') fun yv QN zo=>?_
    obtain⟨y,Eu,QO,r10,q10⟩:=zo
    obtain⟨hD,CU,_⟩:=QO.pin (s.heap.objs.size,kX za k) (by simp)
    have hlen:=rv.length
    refine wpAny_list_append_plain ⟨k,hD⟩ (fun h' AJ Hl=>?_) (by rw[size_toArray];omega)
    obtain⟨k',hD'⟩:=AJ
    obtain⟨m',hm,w10⟩:=hN (acc ++ [y]) Eu q10
    have K10:Inv (bT X scope (own ++ capN) H2.objs.size s H fp) (eG fp s7.heap) σ8 Eu QN:=QO.Ap fun p hp=>QO.pin p (mem_append_right _ (mem_append_right _ hp))
    have VS:Inv (bT X scope (own ++ capN) H2.objs.size s H fp) (eG fp s7.heap) σ8 Eu { QN with heap:=h' }:=K10.turned (t':=QN.toks) (it:=s.heap.objs.size) (fun b o hb e=>(Hl.2 b hb).trans e) CU O2 (.inr (le_refl _))
     (fun x c e=>ne_of_lt (CA x c (B.cell I.ok e))) fun p hp=>by
      obtain⟨hb,_⟩:=jL (show p ∈ eG fp s7.heap from hp)
      exact ne_of_lt (ED p.1 hb)
    obtain⟨t11,O3⟩:=VR VS
    refine⟨m',hm,i + 1,acc ++ [y],za ++ [yv],k',Eu,?_,t11,O3,rv.append (.cons r10 .nil),w10⟩
    refine I.reset B hf (VS.Ap (F5 _ _ _ _ CU ?_))
    show h'.get? s.heap.objs.size=some { cls := .type "list",data := .seq (za ++ [yv]).toArray k' }
    rw[show(za ++ [yv]).toArray=za.toArray.push yv by simp]
    exact hD'
 exact codeAny_compStart_list (loop _ rfl) (T.self X.A 0 _ _ _ (T.keep 0 s.heap h1 st fun b _ o e=>old b o e) (loop _ rfl))
theorem bz (B:Ae X.N X.env.scope scope capN cap)(hc:X.calm=true)(hi:PI X tg iter wi)
  (hb:∀ (C:Addr)(s:Shared)(H:Hp)(fp:List Addr),PG (bT X scope (own ++ capN) C s H fp) tg g/\Ki (bT X scope (own ++ capN) C s H fp) ifs tt/\PE (bT X scope (own ++ capN) C s H fp) elt te)
  (hs:∀ x,foldedSetIterable iter X.env x=pure x:=by intro _;rfl):PE X (.ListComp elt [⟨tg,iter,ifs,0⟩] scope pos) (wr wi g tt te own.length cap):=by
 intro pins s σ H Q I h
 rw[eval_ListComp]
 refine wpAny_comprehension_free (use:=none) rfl hs (gh (B.Hk I.ok)) B.kind B.loc (aT (hi pins s σ H _ I h) fun v s1 h1=>aT h1 fun Ot s2 h2=>?_)
 obtain⟨it,fp,tn,J,H2,e,I2,T,JN,f2,W,⟨m0,w0⟩,turn⟩:=h2
 subst e
 refine mK (own:=own) B hc hb I2 T JN f2 w0 turn (RR:=fun acc C=>compPost (model X.prog X.w) X.A X.xe none (EP X pins σ Q) acc C) fun D C H' s' q J2 ⟨mC,Km⟩ fC n1 n2 n3 n4=>?_
 refine⟨mC,Km,fun h' F4=>⟨.ref D,H',?_,rfl,q⟩⟩
 exact J2.turned (t':=s'.toks) (it:=C) (fun b o hb e=>(F4.2 b hb).trans e) fC n1 (.inr n2) n3 n4
theorem cv {i:Nat}{x:Str}{px:Pos}{Kn:Pos}(B:Ae X.N X.env.scope scope capN cap)(hc:X.calm=true)(hN:X.N.Nodup)(hx:X.N[i]? = some x)(hl:X.env.scope.names.lookup x=some .local)(hi:PI X tg iter wi)
  (hb:∀ (C:Addr)(s:Shared)(H:Hp)(fp:List Addr),PG (bT X scope (own ++ capN) C s H fp) tg g/\Ki (bT X scope (own ++ capN) C s H fp) ifs tt/\PE (bT X scope (own ++ capN) C s H fp) elt te)
  (hsw:swapsWith (.ListComp elt [⟨tg,iter,ifs,0⟩] scope pos) (some (.Name x px)) Kn.line X.env=pure true:=by rfl)
  (hs:∀ x,foldedSetIterable iter X.env x=pure x:=by intro _;rfl):PS X (.Assign [.Name x px] (.ListComp elt [⟨tg,iter,ifs,0⟩] scope pos) Kn) (xg (wr wi g tt te own.length cap) (c4 i)):=by
 intro pins s σ H D0 I h
 rw[exec_Assign_Name_used _ _ _ _ hsw]
 refine wpAny_bind (wpAny_standAt (wpAny_bind ?_))
 show wpAny _ X.A (do
  let _ ← comprehension (.ListComp elt [⟨tg,iter,ifs,0⟩] scope pos) scope X.env _ (newList []) false (eval iter X.env) (some (assign (.Name x px) X.env))) _ _ s
 refine wpAny_bind (wpAny_mono (wpAny_comprehension_free (use:=some (assign (.Name x px) X.env)) (Q:=fun _ s'=>SP X pins D0 .next s') rfl hs (gh (B.Hk I.ok)) B.kind B.loc
  (aT (hi pins s σ H _ I h) fun v s1 h1=>aT h1 fun Ot s2 h2=>?_)) (fun _ s' hq=>wpAny_pure (wpAny_pure hq)) fun _ _ e=>e)
 obtain⟨it,fp,tn,J,H2,e,I2,T,JN,f2,W,⟨m0,w0⟩,turn⟩:=h2
 subst e
 refine mK (own:=own) (Q:=fun x H1=>c4 i x σ H1 D0.nx) B hc hb I2 T JN f2 w0 turn (RR:=fun acc C=>compPost (model X.prog X.w) X.A X.xe (some (assign (.Name x px) X.env)) (fun _ s'=>SP X pins D0 .next s') acc C) fun D C H' s' q J2 ⟨mC,Km⟩ fC n1 n2 n3 n4=>?_
 show wpAny _ X.A (assign (.Name x px) X.env (.ref D)) _ _ s'
 refine wpAny_assign_Name (jG J2 hN hx (.inl hl) (show RelV (.ref D) (.ref D) from rfl) (fun GQ J3 ⟨a,F4,ha⟩=>?_) (.inr hl))
 have hCa:C ≠ a:=by
  rcases ha with z | z
  ·rw[z];exact n1
  ·exact(n3 x a z).symm
 refine⟨mC,Km.sameBut F4 hCa,fun h' Hl=>⟨_,H',?_,q⟩⟩
 exact J3.turned (t':=GQ.toks) (it:=C) (fun b o hb e=>(Hl.2 b hb).trans e) fC n1 (.inr n2) n3 n4
end
end L2
namespace L2
open PySem PySem.Spec PyProof.Rows
mutual
inductive iQ (K:Frag)(H:Hp):V->PyData->Prop
 | zm:iQ K H .zm .none
 | bl (b:Bool):iQ K H (.bl b) (.bool b)
 | int (i:Int):iQ K H (.int i) (.int i)
 | str (x:Str):iQ K H (.str x) (.str x)
 | lst {a:Addr} {xs:List V} {ds:List PyData}:zb K H a xs->ik K H xs ds->iQ K H (.ref a) (.list ds)
 | tup {a:Addr} {xs:List V} {ds:List PyData}:zc K H a xs->ik K H xs ds->iQ K H (.ref a) (.tuple ds)
inductive ik (K:Frag)(H:Hp):List V->List PyData->Prop
 | nil:ik K H [] []
 | cons {x:V} {d:PyData} {xs:List V} {ds:List PyData}:iQ K H x d->ik K H xs ds->ik K H (x :: xs) (d :: ds)
end
section
variable {X:Cx}{pins:List (Addr × Obj)}{σ:St}{H:Hp}{s:Shared}
mutual
theorem Inv.den (I:Inv X pins σ H s):∀ {x:V}{d:PyData}{u:Value},iQ X.K H x d->RelV x u->∃ as,Reads s.heap u d as
 | _,_,_, .zm,r=>by cases r;exact⟨_, .none⟩
 | _,_,_, .bl b,r=>by cases r;exact⟨_, .bool b⟩
 | _,_,_, .int i,r=>by obtain⟨t,rfl⟩:=r;exact⟨_, .int i t⟩
 | _,_,_, .str x,r=>by obtain⟨t,rfl⟩:=r;exact⟨_, .str x t⟩
 | _,_,_, .lst hq hd,r=>by
  cases r
  obtain⟨za,rv,⟨o,n,e,hc,_,QP⟩,_⟩:=I.list hq
  obtain⟨as,q⟩:=I.Hm hd rv
  exact⟨_, .list e hc QP (by simpa using q)⟩
 | _,_,_, .tup hq hd,r=>by
  cases r
  obtain⟨za,rv,⟨o,e,hc,n,QP⟩,_⟩:=I.tuple hq
  obtain⟨as,q⟩:=I.Hm hd rv
  exact⟨_, .tuple e hc QP (by simpa using q)⟩
theorem Inv.Hm (I:Inv X pins σ H s):∀ {xs:List V}{ds:List PyData}{us:List Value},ik X.K H xs ds->Vals xs us->∃ as,ReadsAll s.heap us ds as
 | _,_,_, .nil, .nil=>⟨_, .nil⟩
 | _,_,_, .cons hd hr, .cons r rr=>by
  obtain⟨as,q⟩:=I.den hd r
  obtain⟨bs,q'⟩:=I.Hm hr rr
  exact⟨_, .cons q q'⟩
end
noncomputable def Ko (K:Frag):R2:=fun x y H Q=>∃ da db,iQ K H x da/\iQ K H y db/\SeqAt.shaped da=true/\SeqAt.shaped db=true/\Q (.bl (PyData.eqv da db)) H
noncomputable def xI (K:Frag):R2:=fun x y H Q=>∃ da db,iQ K H x da/\iQ K H y db/\SeqAt.shaped da=true/\SeqAt.shaped db=true/\Q (.bl (!PyData.eqv da db)) H
end
section
variable {X:Cx}
theorem xV (hu:X.A.units + 64 < cLine):eP X (compareOp .Eq) (Ko X.K):=by
 intro pins s σ H x y v u Q I rx ry h
 obtain⟨da,db,h1,h2,h3,h4,q⟩:=h
 obtain⟨as,r1⟩:=I.den h1 rx
 obtain⟨bs,r2⟩:=I.den h2 ry
 exact SeqAt.compareEq_shaped r1 r2 h3 h4 hu ⟨.bl _,H,I,rfl,q⟩
theorem jk (hu:X.A.units + 64 < cLine):eP X (compareOp .NotEq) (xI X.K):=by
 intro pins s σ H x y v u Q I rx ry h
 obtain⟨da,db,h1,h2,h3,h4,q⟩:=h
 obtain⟨as,r1⟩:=I.den h1 rx
 obtain⟨bs,r2⟩:=I.den h2 ry
 exact SeqAt.compareNe_shaped r1 r2 h3 h4 hu ⟨.bl _,H,I,rfl,q⟩
theorem jZ {K:Frag}{H:Hp}:∀ ns:List Int,ik K H (ns.map V.int) (ns.map PyData.int)
 | [] => .nil
 | n :: r => .cons (.int n) (jZ r)
theorem mH {K:Frag}{H:Hp}{a:Addr}{ns:List Int}(h:zb K H a (ns.map V.int)):iQ K H (.ref a) (.list (ns.map PyData.int)) := .lst h (jZ ns)
noncomputable def QQ (K:Frag):R2:=fun x y H Q=>∃ (p q:Addr)(ns ms:List Int),x = .ref p/\y = .ref q/\zb K H p (ns.map V.int)/\zb K H q (ms.map V.int)/\Q (.bl (!decide (ns=ms))) H
theorem xU (hu:X.A.units + 64 < cLine):eP X (compareOp .NotEq) (QQ X.K):=by
 intro pins s σ H x y v u Q I rx ry h
 obtain⟨p,q,ns,ms,rfl,rfl,h1,h2,q⟩:=h
 refine jk hu pins s σ H _ _ v u Q I rx ry ⟨_,_,mH h1,mH h2,PySem.W.shaped_ints ns,PySem.W.shaped_ints ms,?_⟩
 simp only[PyData.eqv,PySem.W.ked_eqvAll]
 exact q
noncomputable def QR (K:Frag):List V->Hp->VK->Prop:=fun xs H Q =>
 (∃ i,xs=[.int i, .ty "int"]/\Q (.bl true) H)∨(∃ i,xs=[.int i, .ty "bool"]/\Q (.bl false) H)∨(∃ p ys,xs=[.ref p, .ty "list"]/\zb K H p ys/\Q (.bl true) H)∨(∃ p ys,xs=[.ref p, .ty "tuple"]/\zc K H p ys/\Q (.bl true) H)
theorem mS:fP X (.builtin "isinstance") (QR X.K):=by
 intro pins s σ H xs us Q I r h
 rcases h with ⟨i,rfl,q⟩ | ⟨i,rfl,q⟩ | ⟨p,ys,rfl,hq,q⟩ | ⟨p,ys,rfl,hq,q⟩
 ·cases r with
  | cons r1 r2 =>
   cases r2 with
   | cons r2 r3 =>
    cases r3
    obtain⟨t,rfl⟩:=r1
    cases r2
    exact IsiPair.int_int ⟨.bl true,H,I,rfl,q⟩
 ·cases r with
  | cons r1 r2 =>
   cases r2 with
   | cons r2 r3 =>
    cases r3
    obtain⟨t,rfl⟩:=r1
    cases r2
    exact IsiPair.int_bool ⟨.bl false,H,I.tok _,rfl,q⟩
 ·cases r with
  | cons r1 r2 =>
   cases r2 with
   | cons r2 r3 =>
    cases r3
    cases r1
    cases r2
    obtain⟨za,rv,⟨o,n,e,hc,_⟩,_⟩:=I.list hq
    exact IsiPair.list_list e hc ⟨.bl true,H,I,rfl,q⟩
 ·cases r with
  | cons r1 r2 =>
   cases r2 with
   | cons r2 r3 =>
    cases r3
    cases r1
    cases r2
    obtain⟨za,rv,⟨o,e,hc,_⟩,_⟩:=I.tuple hq
    exact IsiPair.tuple_tuple e hc ⟨.bl true,H,I,rfl,q⟩
theorem vH:Oz X "int.bit_length" (fun x xs H Q=>∃ i,x = .int i/\xs=[]/\Q (.int (Builtin.Int.intBits i:Nat)) H):=by
 intro pins s σ H x xs v us Q I rx rv h
 obtain⟨i,rfl,rfl,q⟩:=h
 obtain⟨t,rfl⟩:=rx
 cases rv
 exact call_int_bit_length ⟨.int _,H,I.tok _,⟨_,rfl⟩,q⟩
theorem Inv.same {pins:List (Addr × Obj)}{σ:St}{H:Hp}{s s':Shared}(I:Inv X pins σ H s)(k:∀ b o,s.heap.get? b=some o->s'.heap.get? b=some o)(g:s'.gens=s.gens)(ho:s'.os=s.os):Inv X pins σ H s':=by
 obtain⟨hh,gg,dd,tt,oo⟩:=s'
 simp only at k g ho
 subst g
 subst ho
 have J:Inv X pins σ H { s with heap:=hh,toks:=tt }:=I.kept k
 exact⟨J.ok,J.os,J.bare,J.base,J.loc,J.cell,J.free,J.zM,J.pin,J.ze,J.len⟩
theorem j4 (hc:X.calm=true):fP X (.builtin "all") (fun xs H Q=>∃ (p:Addr)(bs:List Bool),xs=[.ref p]/\zb X.K H p (bs.map V.bl)/\Q (.bl (bs.all id)) H):=by
 intro pins s σ H xs us Q I r h
 obtain⟨p,bs,rfl,hq,q⟩:=h
 obtain⟨u,rfl,rx⟩:=lz r
 cases rx
 obtain⟨za,rv,pl,hz⟩:=I.list hq
 have hlen:=rv.length
 rw[length_map]at hlen
 have zR:p < s.heap.objs.size:=by obtain⟨o,n,e,_⟩:=pl;exact lt_size e
 have VT:∀ (i:Nat)(v:Value),za.toArray[i]? = some v->v=Value.bool (bs.getD i false):=fun i v hv=>by
  have IV:za[i]? = some v:=by simpa using hv
  have hi:i < bs.length:=by rw[hlen];exact(List.getElem?_eq_some_iff.mp IV).1
  obtain⟨u,hu,ru⟩:=rv.get (i:=i) (x := .bl bs[i]) (by simp[hi])
  rw[IV]at hu
  cases hu
  rw[getD_eq_getElem?_getD,List.getElem?_eq_getElem hi]
  exact ru
 have hh1:X.A.in1.handled=none:=I.ok.hd hc
 refine call_all_walkS (wpAny_pyIter_list pl.isList ⟨s.heap.objs.size,[s.heap.objs.size,p],[s.heap.objs.size],fun a b=>b=a,za.toArray.size,fun i v=>za.toArray[i]? = some v,_,fun i=>bs.getD i false,rfl,
  (Walks.list hh1 _ p (ne_of_lt zR) za.toArray).toS,⟨⟨_,Heap.get?_push_size _ rfl,rfl,rfl⟩,pl.isList.push _⟩,fun i v s1 Q1 E1 hv EF=>?_,fun s' hm=>?_⟩)
 ·rw[VT i v hv]
  exact wpAny_truthy_bool EF
 ·have I1:Inv X pins σ H { s with heap:=s.heap.push { cls := .type "list_iterator",data := .fields #[.ref p, .int 0 0] } }:=I.kept (t':=s.toks) fun b o e=>Heap.get?_push_of_some _ e
  refine⟨.bl _,H,I.same (fun b o e=>hm.heap b o (fun hb=>?_) (Heap.get?_push_of_some _ e)) hm.gens hm.os,rfl,?_⟩
  ·have Bb:b=s.heap.objs.size:=by simpa using hb
   exact absurd (lt_size e) (by rw[Bb];exact lt_irrefl _)
  ·have e:((List.range za.toArray.size).all fun i=>bs.getD i false)=bs.all id:=by
    rw[size_toArray,← hlen]
    clear VT hlen hq rv q
    have:(List.range bs.length).map (fun i=>bs.getD i false)=bs:=by
     apply List.ext_getElem
     ·simp
     ·intro i h1 h2
      simp[h2]
    conv=>rhs;rw[← this]
    rw[all_map]
    rfl
   rw[e]
   exact q
end
end L2
namespace L2
open PySem PySem.Spec PyProof.Rows
theorem j2 {o:Obj}{vs:Array Value}(hd:o.data = .fields vs)(f:Array Value->Array Value):(Obj.mapFields f o).dict=o.dict:=by
 obtain⟨c,d,dt,sl⟩:=o
 cases dt<;>rfl
noncomputable def EG (h:Heap)(e:Addr)(cls:Value)(dd:Option Addr)(ch:List Addr):Prop :=
 ∃ oe vs,h.get? e=some oe/\oe.cls=cls/\oe.dict=dd/\oe.data = .fields vs /\
  ((vs[1]? = some .none/\ch=[e])∨∃ T oT ts,vs[1]? = some (.ref T)/\T ≠ e/\h.get? T=some oT/\oT.data = .fields ts/\ts[3]? = some .none/\ch=[e,T])
theorem EG.rec {h:Heap}{e:Addr}{cls:Value}{dd:Option Addr}{ch:List Addr}(x:EG h e cls dd ch):∀ b ∈ ch,∃ o vs,h.get? b=some o/\o.data = .fields vs:=by
 obtain⟨oe,vs,he,_,_,hd,h1 | ⟨T,oT,ts,_,_,hT,IZ,_,rfl⟩⟩:=x
 ·obtain⟨_,rfl⟩:=h1
  intro b hb
  simp only[mem_singleton]at hb
  subst hb
  exact⟨oe,vs,he,hd⟩
 ·intro b hb
  simp only[mem_cons,not_mem_nil,or_false]at hb
  rcases hb with rfl | rfl
  ·exact⟨oe,vs,he,hd⟩
  ·exact⟨oT,ts,hT,IZ⟩
structure pZ (fs ch:List Addr)(h h':Heap):Prop where
 keep:∀ b o,h.get? b=some o->b ∉ ch->b ∉ fs->h'.get? b=some o
 slot:∀ b o,h.get? b=some o->b ∉ ch->∃ sl,h'.get? b=some { o with slots:=sl }
 there:∀ b o,h.get? b=some o->∃ o',h'.get? b=some o'
section
variable {M:Model}{A:Around}{E:Value->Shared->Prop}{s:Shared}
theorem jN {base:Heap}{env:Env}{outer:List Env}{L e:Addr}{oe:Obj}{vs:Array Value}{head:Value}{hadNext:Bool}{Q:Unit->Shared->Prop}
  (CB:A.frames=some (env :: outer)) (hl:s.heap.FunFrames base (env :: outer)) (hf:env.frame=some L)
  (he:s.heap.get? e=some oe) (hd:oe.data = .fields vs) (hsz:1 < vs.size)
  (h:∀ h',EG h' e oe.cls oe.dict [e,s.heap.objs.size]->pZ (lg (env :: outer)) [e] s.heap h'->Q () { s with heap:=h' }) :
  wpAny M A (do let a ← frameOf env;let pl ← entryPlaceOf L hadNext;let b ← EntryCells.newEntry head a .none (rawInt L) .none pl;setField (.ref e) 1 b) (fun _ s'=>wpAny M A (setFlight (.ref e) none) Q E s') E s:=by
 have QS:e ∉ (env :: outer).filterMap (·.frame):=fun hm=>by
  obtain⟨_,o,ho,Kp⟩:=hl.mem hm
  rw[he]at ho;injection ho with ho;subst ho;exact Kp vs hd
 refine wpAny_bind (wpAny_frameOf_fun CB hl hf fun h₁ Ck=>?_)
 refine wpAny_bind (wpAny_entryPlaceOf fun pl AJ=>?_)
 unfold EntryCells.newEntry newFields
 refine wpAny_bind (wpAny_newObj_type ?_ (AJ.sizeOk5 _ _ _ _ _))
 have F6:h₁.get? e=some oe:=(Ck.2.1 e QS).trans he
 have F7:=Heap.get?_push_of_some (h:=h₁) { cls := .type "traceback",dict:=none,data := .fields ([head, .ref L, .none,rawInt L, .none] ++ (if pl.isEmpty then List.replicate 6 Value.none else pl)).toArray } F6
 refine wpAny_setField F7 hd hsz ?_
 have Hn:h₁.objs.size ≠ e:=ne_of_gt (lt_size F6)
 have DT:=Obj.data_mapFields hd (·.setIfInBounds 1 (Value.ref h₁.objs.size))
 have DU:=Heap.get?_update_self (Obj.mapFields (·.setIfInBounds 1 (Value.ref h₁.objs.size))) F7 (Obj.isFreed_of_fields DT)
 have F8:=(Heap.get?_update_other (h₁.push { cls := .type "traceback",dict:=none,data := .fields ([head, .ref L, .none,rawInt L, .none] ++ (if pl.isEmpty then List.replicate 6 Value.none else pl)).toArray })
  (Obj.mapFields (·.setIfInBounds 1 (Value.ref h₁.objs.size))) (Ne.symm Hn)).trans (Heap.get?_push_size h₁ rfl)
 unfold setFlight
 refine wpAny_bind (wpAny_field DU DT (x := .ref h₁.objs.size) (by simp[hsz]) ?_)
 rw[if_pos (show(Value.ref h₁.objs.size != Value.none)=true from by simp)]
 refine wpAny_setField F8 rfl (by simp only[size_toArray,length_append,length_cons,length_nil]<;>omega) (h _ ?_ ?_)
 ·refine⟨_,_,?_,Obj.cls_mapFields _ _,j2 hd _,DT, .inr ⟨h₁.objs.size,_,_,by simp[hsz],Hn,Heap.get?_update_self _ F8 (Obj.isFreed_of_fields (Obj.data_mapFields rfl _)),Obj.data_mapFields rfl _,by first | (simp;done) | (rcases AJ with rfl | ⟨_,_,_,_,_,_,_,rfl⟩<;>simp),by rw[Ck.1]⟩⟩
  rw[Heap.get?_update_other _ _ Hn];exact DU
 ·have keep:∀ b o,b ≠ e->h₁.get? b=some o ->
    (((h₁.push { cls := .type "traceback",dict:=none,data := .fields ([head, .ref L, .none,rawInt L, .none] ++ (if pl.isEmpty then List.replicate 6 Value.none else pl)).toArray }).update e (Obj.mapFields (·.setIfInBounds 1 (Value.ref h₁.objs.size)))).update h₁.objs.size
     (Obj.mapFields (·.setIfInBounds 3 ((none:Option Addr).elim Value.none fun f=>rawInt f)))).get? b=some o:=fun b o BV hb=>by
   have O4:h₁.objs.size ≠ b:=ne_of_gt (lt_size hb)
   rw[Heap.get?_update_other _ _ O4,Heap.get?_update_other _ _ (Ne.symm BV)]
   exact Heap.get?_push_of_some _ hb
  refine⟨fun b o hb hc QT=>keep b o (by simpa using hc) ((Ck.2.1 b QT).trans hb),fun b o hb hc=>?_,fun b o hb=>?_⟩
  ·obtain⟨sl,hs⟩:=Ck.2.2 b o hb
   exact⟨sl,keep b _ (by simpa using hc) hs⟩
  ·by_cases BV:b=e
   ·subst BV
    exact⟨_,by rw[Heap.get?_update_other _ _ Hn];exact DU⟩
   ·obtain⟨sl,hs⟩:=Ck.2.2 b o hb
    exact⟨_,keep b _ BV hs⟩
theorem qF {base:Heap}{env:Env}{outer:List Env}{L e:Addr}{cls:Value}{dd:Option Addr}{ch:List Addr}{Q:Unit->Shared->Prop}
  (CB:A.frames=some (env :: outer)) (hl:s.heap.FunFrames base (env :: outer)) (hf:env.frame=some L) (x:EG s.heap e cls dd ch)
  (h:∀ h' Ho,EG h' e cls dd Ho->pZ (lg (env :: outer)) ch s.heap h'->(∀ b ∈ Ho,b ∈ ch∨s.heap.objs.size <= b)->Q () { s with heap:=h' }) :
  wpAny M A (noteFrame (.ref e) env) (fun _ s'=>wpAny M A (setFlight (.ref e) none) Q E s') E s:=by
 obtain⟨oe,vs,he,rfl,rfl,hd,⟨h1,rfl⟩ | ⟨T,oT,ts,h1,Hn,hT,IZ,h3,rfl⟩⟩:=x
 ·unfold noteFrame
  simp only[hf]
  refine wpAny_bind (wpAny_field he hd h1 ?_)
  rw[if_neg (by decide)]
  refine jN CB hl hf he hd (Array.getElem?_eq_some_iff.mp h1).1 fun h' f m=>h h' _ f m fun b hb=>?_
  simp only[mem_cons,not_mem_nil,or_false]at hb
  rcases hb with rfl | rfl
  ·exact .inl (by simp)
  ·exact .inr (le_refl _)
 ·unfold noteFrame
  simp only[hf]
  refine wpAny_bind (wpAny_field he hd h1 ?_)
  rw[if_pos (show(Value.ref T != Value.none)=true from by simp)]
  refine wpAny_bind (wpAny_field hT IZ h3 ?_)
  rw[if_neg (show ¬ ((Value.none == rawInt L)=true) from by simp[rawInt])]
  refine wpAny_bind (wpAny_setField hT IZ (Array.getElem?_eq_some_iff.mp h3).1 ?_)
  have other:∀ b,b ≠ T->(s.heap.update T (Obj.mapFields (·.setIfInBounds 3 Value.none))).get? b=s.heap.get? b:=fun b hb=>Heap.get?_update_other _ _ (Ne.symm hb)
  have Kq:=Heap.get?_update_self (Obj.mapFields (·.setIfInBounds 3 Value.none)) hT (Obj.isFreed_of_fields (Obj.data_mapFields IZ _))
  have noRecord:∀ b o,s.heap.get? b=some o->(∀ vs,o.data ≠ .fields vs)->b ≠ T:=fun b o hb Kp q=>by
   rw[q,hT]at hb;injection hb with hb;subst hb;exact Kp ts IZ
  have Kr:(s.heap.update T (Obj.mapFields (·.setIfInBounds 3 Value.none))).objs.size=s.heap.objs.size:=Heap.size_after_update _ _ _
  refine jN (s:={ s with heap:=s.heap.update T (Obj.mapFields (·.setIfInBounds 3 Value.none)) }) CB (hl.of_keeps fun b o hb Kp=>⟨o,(other b (noRecord b o hb Kp)).trans hb,rfl⟩) hf ((other e (Ne.symm Hn)).trans he) hd (Array.getElem?_eq_some_iff.mp h1).1
   fun h' f m=>h h' _ f ⟨fun b o hb hc QT=>?_,fun b o hb hc=>?_,fun b o hb=>?_⟩ fun b hb=>?_
  ·simp only[mem_cons,not_mem_nil,or_false,not_or]at hc
   exact m.keep b o ((other b hc.2).trans hb) (by simpa using hc.1) QT
  ·simp only[mem_cons,not_mem_nil,or_false,not_or]at hc
   exact m.slot b o ((other b hc.2).trans hb) (by simpa using hc.1)
  ·by_cases O4:b=T
   ·subst O4
    exact m.there b _ Kq
   ·exact m.there b o ((other b O4).trans hb)
  ·simp only[mem_cons,not_mem_nil,or_false]at hb
   rcases hb with rfl | rfl
   ·exact .inl (by simp)
   ·exact .inr (le_of_eq Kr.symm)
theorem oj {base:Heap}{env:Env}{outer:List Env}{L e:Addr}{cls:Value}{dd:Option Addr}{ch:List Addr}{Q:Unit->Shared->Prop}
  (CB:A.frames=some (env :: outer)) (hl:s.heap.FunFrames base (env :: outer)) (hf:env.frame=some L) (x:EG s.heap e cls dd ch)
  (h:∀ h' Ho,EG h' e cls dd Ho->pZ (lg (env :: outer)) ch s.heap h'->(∀ b ∈ Ho,b ∈ ch∨s.heap.objs.size <= b)->Q () { s with heap:=h' }) :
  wpAny M A (leaving env (.ref e)) Q E s:=by
 unfold leaving
 exact wpAny_bind (qF CB hl hf x h)
end
section
variable {X:Cx}{pins:List (Addr × Obj)}{σ:St}{H:Hp}{s:Shared}
theorem Inv.EH {h':Heap}{ch:List Addr}(I:Inv X pins σ H s)(m:pZ (lg X.stack) ch s.heap h')
  (Bw:∀ b ∈ ch,X.s₀.heap.get? b=none/\H b=none/\(∀ p ∈ X.pn ++ pins,p.1 ≠ b)/\∃ o vs,s.heap.get? b=some o/\o.data = .fields vs) :
  Inv X pins σ H { s with heap:=h' }:=by
 have Ks:∀ b o,s.heap.get? b=some o->(∀ vs,o.data ≠ .fields vs)->b ∉ ch:=fun b o hb hn hc=>by
  obtain⟨_,_,_,o',vs,Bb,hd⟩:=Bw b hc
  rw[hb]at Bb;cases Bb
  exact hn vs hd
 have cellK:∀ c v,s.heap.IsCell c v->h'.IsCell c v:=fun c v ⟨o,ho,hd⟩=>by
  obtain⟨sl,e⟩:=m.slot c o ho (Ks c o ho fun vs q=>by rw[hd]at q;cases q)
  exact⟨_,e,hd⟩
 refine⟨I.ok,I.os,I.bare,⟨fun b o e n hf hx=>?_,fun b o e n hf hx=>?_,I.base.free,fun b o e hx=>?_,I.base.Bm,I.base.AZ,I.base.Bn⟩,?_,fun x c hc=>?_,I.free,I.zM,fun p hp=>?_,fun b u e=>?_,I.len⟩
 ·have e1:=I.base.keep b o e n hf hx
  refine m.keep b o e1 (fun hc=>?_) fun hs=>?_
  ·rw[(Bw b hc).1]at e;cases e
  ·rcases mem_cons.mp (I.AL b hs) with z | z
   ·rw[z]at e
    exact absurd (lt_size e) (Nat.not_lt.mpr I.ok.above)
   ·exact hf z
 ·obtain⟨sl,e1⟩:=I.base.slot b o e n hf hx
  obtain⟨IW,e2⟩:=m.slot b _ e1 fun hc=>by rw[(Bw b hc).1]at e;cases e
  exact⟨IW,e2⟩
 ·obtain⟨o',e1⟩:=I.base.there b o e hx
  exact m.there b o' e1
 ·obtain⟨mm,⟨o,es,ep,ho,hd,r⟩,hl⟩:=I.loc
  obtain⟨sl,e⟩:=m.slot _ o ho (Ks _ o ho fun vs q=>by rw[hd]at q;cases q)
  refine⟨mm,⟨_,es,ep,e,hd,r⟩,fun i x v h1 h2 h3=>?_⟩
  obtain⟨u,ru,lk⟩:=hl i x v h1 h2 h3
  refine⟨u,ru,?_⟩
  rcases lk with ⟨a,b⟩ | ⟨a,c,hc,B9⟩
  ·exact .inl ⟨a,b⟩
  ·exact .inr ⟨a,c,hc,cellK c _ B9⟩
 ·obtain⟨v,hv⟩:=I.cell x c hc
  exact⟨v,cellK c v hv⟩
 ·obtain⟨a,b,c,d,e⟩:=I.pin p hp
  refine⟨m.keep _ _ a (fun hc=>(Bw _ hc).2.2.1 p hp rfl) fun hs=>?_,b,c,d,e⟩
  rcases mem_cons.mp (I.AL _ hs) with z | z
  ·exact c z
  ·exact d z
 ·refine(I.ze b u e).AY (fun c v hc q=>m.keep c v q (fun z=>?_) fun z=>?_) (fun _ q=>q) fun _ _ q=>q
  ·have n:=(Bw c z).2.1
   rcases hc with rfl | hc
   ·rw[e]at n;cases n
   ·rw[hc]at n;cases n
  ·have n:=I.BJ c z
   rcases hc with rfl | hc
   ·rw[e]at n;cases n
   ·rw[hc]at n;cases n
noncomputable def eR (P:Program)(w:World):oH:=fun outer H s E ev s'=>∃ e cls dd ch H',ev = .ref e/\s'.os=s.os/\AllBare s'.gens/\Un (lg outer) [] H H' s.heap s'.heap/\Ad P w H' s'.heap /\
 EG s'.heap e cls dd ch/\(∀ b ∈ ch,s.heap.get? b=none/\H' b=none)/\E cls dd H'
noncomputable def XP (X:Cx)(pins:List (Addr × Obj))(σ:St)(E:XK)(ev:Value)(s':Shared):Prop:=∃ e cls dd ch H',ev = .ref e/\Inv X pins σ H' s'/\EG s'.heap e cls dd ch /\
 (∀ b ∈ ch,X.s₀.heap.get? b=none/\H' b=none/\∀ p ∈ X.pn ++ pins,p.1 ≠ b)/\E cls dd H'
theorem Inv.DV (I:Inv X pins σ H s)(hex:X.ex=[]){b:Addr}(hb:s.heap.get? b=none):X.s₀.heap.get? b=none:=by
 cases q:X.s₀.heap.get? b with
 | none=>rfl
 | some o =>
  obtain⟨o',e⟩:=I.base.there b o q (by rw[hex];simp)
  rw[e]at hb;cases hb
theorem XP.Kt {E:XK}{ev:Value}{s':Shared}(I:Inv X pins σ H s)(hex:X.ex=[])(x:eR X.prog X.w X.stack H s E ev s'):XP X pins σ E ev s':=by
 obtain⟨e,cls,dd,ch,H',rfl,os,bare,un,ze,O5,new,q⟩:=x
 refine⟨e,cls,dd,ch,H',rfl,I.F2 (ch:=[]) os un ze bare (fun b z=>absurd z (by simp)),O5,fun b hb=>⟨I.DV hex (new b hb).1,(new b hb).2,fun p hp z=>?_⟩,q⟩
 have:=(I.pin p hp).1
 rw[z,(new b hb).1]at this
 cases this
noncomputable def AV (X:Cx)(E:XK):Prop:=∀ (pins:List (Addr × Obj))(σ:St)(ev:Value)(s':Shared),XP X pins σ E ev s'->X.xe ev s'
theorem AV.passes {E:XK}(h:AV X E)(hex:X.ex=[]):dP (eR X.prog X.w) X E:=fun pins σ H s ev s' I x=>h pins σ ev s' (XP.Kt I hex x)
theorem aP {P:Program}{w:World}{K:Frag}{mg:Str->Option Value}{base:Heap}{N:List Str}{qual:Str}{scope:Scope}{f:Addr}{cd:Value}{A:Around}{outer:List Env}{s:Shared}{H:Hp}{E:XK} :
  AV (iD (eR P w) P w K mg base N qual scope f cd A outer s H E) E:=by
 intro pins σ ev s' x
 obtain⟨e,cls,dd,ch,H',rfl,I,O5,Bw,q⟩:=x
 refine oj (base:=base) (outer:=outer) I.ok.frames I.stack rfl O5 fun h' Ho QU m new=>?_
 have I':=I.EH m fun b hb=>⟨(Bw b hb).1,(Bw b hb).2.1,(Bw b hb).2.2,O5.rec b hb⟩
 refine⟨e,cls,dd,Ho,H',rfl,I'.os,I'.bare,I'.base,I'.ze,QU,fun b hb=>?_,q⟩
 rcases new b hb with z | z
 ·exact⟨(Bw b z).1,(Bw b z).2.1⟩
 ·exact⟨Heap.get?_none_of_le (le_trans I.sz z),I.ze.fresh z⟩
theorem pz {P:Program}{w:World}{K:Frag}{mg:Str->Option Value}{base:Heap}{N:List Str}{qual:Str}{scope:Scope}{f:Addr}{cd:Value}{A:Around}{outer:List Env}{s:Shared}{H:Hp}{E:XK} :
  PassesOwn (model P w) (iD (eR P w) P w K mg base N qual scope f cd A outer s H E).A (iD (eR P w) P w K mg base N qual scope f cd A outer s H E).env (iD (eR P w) P w K mg base N qual scope f cd A outer s H E).xe :=
 PassesOwn.leaving (Q₁:=fun e GQ=>eR P w outer H s E e GQ)
end
end L2
namespace L2
open PySem PySem.Spec PyProof.Rows
noncomputable def dR:List Value:=[.type "ValueError", .type "Exception", .type "BaseException", .type "object"]
noncomputable def lh:List Value->Bool
 | []=>false
 | .ref _ :: r=>lh r
 | l=>l == dR
theorem jh (self:Value):∀ {l:List Value},lh l=true->refuseLoop self "__setattr__" l=pure ()
 | .ref c :: r,e=>by rw[refuseLoop_ref];exact jh self e
 | .type a :: r,e=>by
  have e':(Value.type a :: r)=dR:=beq_iff_eq.mp e
  rw[e'];exact PySem.F.store_ValueError.passes self
 | .none :: r,e=>by have:=beq_iff_eq.mp (show(_ == dR)=true from e);cases this
 | .bool _ :: r,e=>by have:=beq_iff_eq.mp (show(_ == dR)=true from e);cases this
 | .int _ _ :: r,e=>by have:=beq_iff_eq.mp (show(_ == dR)=true from e);cases this
 | .float _ _ :: r,e=>by have:=beq_iff_eq.mp (show(_ == dR)=true from e);cases this
 | .str _ _ :: r,e=>by have:=beq_iff_eq.mp (show(_ == dR)=true from e);cases this
 | .bytes _ _ :: r,e=>by have:=beq_iff_eq.mp (show(_ == dR)=true from e);cases this
 | .builtin _ :: r,e=>by have:=beq_iff_eq.mp (show(_ == dR)=true from e);cases this
theorem j0:∀ {l:List Value},lh l=true->l.contains (.type "object")=true/\l.contains (.type "BaseException")=true/\l.isEmpty=false
 | .ref c :: r,e=>by
  obtain⟨a,b,_⟩:=j0 (l:=r) e
  exact⟨by rw[contains_cons,a,Bool.or_true],by rw[contains_cons,b,Bool.or_true],rfl⟩
 | .type a :: r,e=>by
  have e':(Value.type a :: r)=dR:=beq_iff_eq.mp e
  rw[e'];exact⟨by decide,by decide,rfl⟩
 | .none :: r,e=>by have:=beq_iff_eq.mp (show(_ == dR)=true from e);cases this
 | .bool _ :: r,e=>by have:=beq_iff_eq.mp (show(_ == dR)=true from e);cases this
 | .int _ _ :: r,e=>by have:=beq_iff_eq.mp (show(_ == dR)=true from e);cases this
 | .float _ _ :: r,e=>by have:=beq_iff_eq.mp (show(_ == dR)=true from e);cases this
 | .str _ _ :: r,e=>by have:=beq_iff_eq.mp (show(_ == dR)=true from e);cases this
 | .bytes _ _ :: r,e=>by have:=beq_iff_eq.mp (show(_ == dR)=true from e);cases this
 | .builtin _ :: r,e=>by have:=beq_iff_eq.mp (show(_ == dR)=true from e);cases this
noncomputable def i3 (K:Frag)(C:Addr):Bool:=(PySem.W.clsIn K C).any fun cd=>lh cd.mro
structure gr (K:Frag)(C:Addr):Prop where
 mro:i3 K C=true
 hd:hasDictIn K C=true
 sa:findIn K (.ref C) "__setattr__" = some (some (.builtin "object.__setattr__"))
 ga:findIn K (.ref C) "__getattribute__" = some (some (.builtin "BaseException.__getattribute__"))
 gn:findIn K (.ref C) "__getattr__" = some none
section
variable {prog:Program}{w:World}{A:Around}{E:Value->Shared->Prop}{s:Shared}{K:Frag}{x C:Addr}{ox:Obj}{name:Str}{v:Value}
open PySem.W in
theorem p0 {R:Result->Shared->Prop}{od:Option Obj}{tk:Tok}(X:K.In s.heap)(I:PySem.W.InstAt s.heap x ox C od)(hp:i3 K C=true)(ht:findIn K (.ref C) name=some none)
  (h:∀ b,wpAny (model prog w) A.in1 (Builtin.ObjectAttr.storeInOwnDict (.ref x) (.ref C) (.str name tk) name v b)
   (fun fin s'=>match fin with | .done f=>R (.ok f) s' | .again c'=>c'.quiet=true/\codeAny (model prog w) A c' R s') (fun e s'=>R (.error e) s') s) :
  codeAny (model prog w) A (.call (.builtin "object.__setattr__") ⟨[.ref x, .str name tk,v],[]⟩) R s:=by
 have SF:=PySem.F.store_object
 obtain⟨cd,hc,ho⟩:=any_some hp
 obtain⟨h1,h2,ne⟩:=j0 ho
 have sub:Looks (model prog w) s.heap (isInstance (.ref x) (.type "object")) true:=I.type.andThen (looks_mroIn X (by unfold mroIn;rw[hc,Option.bind_some,if_neg (by rw[ne];decide),h1]))
 refine codeAny_call_builtin SF.slot.plain SF.entry (@check_slot (model prog w) _ _ s "object.__setattr__" "object" "__setattr__" (.ref x) [.str name tk,v] [] _ SF.kind SF.split sub (SF.args (.ref x) (.str name tk) v) ?_)
 have hm:Looks (model prog w) s.heap (mroOf (.ref C)) cd.mro:=(looks_clsIn X hc).andThen .now
 have L3:Looks (model prog w) s.heap (Builtin.ObjectAttr.storeTaker? none) none := .now
 rw[osa_eq,refuse_eq]
 refine wpAny_bind (wpAny_bind (I.type.here (wpAny_bind (hm.here ?_))))
 rw[jh _ ho]
 refine wpAny_pure (wpAny_bind (I.type.here (wpAny_bind ((looks_findIn X ht).here (wpAny_bind (L3.here ?_))))))
 exact h _
theorem lF {vs:Array Value}{Q:Unit->Shared->Prop}(X:K.In s.heap)(hx:s.heap.get? x=some ⟨.ref C,none, .fields vs,#[]⟩)(c:gr K C)(ht:findIn K (.ref C) name=some none)
  (h:∀ h' t',h'.get? x=some ⟨.ref C,some s.heap.objs.size, .fields vs,#[]⟩->h'.Ns1 s.heap.objs.size (fun y=>if y=name then some v else none) ->
   (∀ b o,b ≠ x->s.heap.get? b=some o->h'.get? b=some o)->Q () { s with heap:=h',toks:=t' }) :
  wpAny (model prog w) A (setAttr (.ref x) name v) Q E s:=by
 have I:PySem.W.InstAt s.heap x ⟨.ref C,none, .fields vs,#[]⟩ C none:=⟨hx,rfl,rfl,True.intro⟩
 refine PySem.W.set_plain X I c.sa (p0 (s:={ s with toks:=s.toks + 1 }) X I c.mro ht fun b=>?_)
 obtain⟨cd,hc,GK⟩:=PySem.W.any_some c.hd
 obtain⟨hp,g,d,t,os⟩:=s
 dsimp only at X hx h I ⊢
 refine wpAny_bind (wpAny_pure (wpAny_bind (wpAny_bind (wpAny_loadPart hx (wpAny_bind (PySem.W.Looks.here (s:=⟨hp,g,d,t + 1,os⟩) (PySem.W.looks_clsIn X hc) ?_))))))
 rw[GK]
 have F9:(hp.push { cls := .type "dict",data := .dict #[] }).get? x=some ⟨.ref C,none, .fields vs,#[]⟩:=Heap.get?_push_of_some _ hx
 have VU:x ≠ hp.objs.size:=ne_of_lt (lt_size hx)
 rw[if_neg (by decide)]
 dsimp only
 rw[if_neg (by simp[typeHasDict])]
 refine wpAny_bind (wpAny_alloc' ?_)
 refine wpAny_bind (wpAny_update' F9 ?_)
 refine wpAny_pure ?_
 have hgd:((hp.push { cls := .type "dict",data := .dict #[] }).update x fun o=>{ cls:=o.cls,dict:=some hp.objs.size,data:=o.data,slots:=o.slots }).get? hp.objs.size
   = some { cls := .type "dict",data := .dict #[] } :=
  (Heap.get?_update_ne _ _ _ _ VU.symm).trans (Heap.get?_push_at rfl rfl)
 have hnd:((hp.push { cls := .type "dict",data := .dict #[] }).update x fun o=>{ cls:=o.cls,dict:=some hp.objs.size,data:=o.data,slots:=o.slots }).Ns hp.objs.size (fun _=>none) :=
  ⟨_,#[],_,hgd,rfl,fun e he=>absurd he (by simp),fun _=>rfl⟩
 show wpAny _ _ (Builtin.ObjectAttr.storeInDict hp.objs.size (.str name t) name v) _ _ _
 unfold Builtin.ObjectAttr.storeInDict Builtin.ObjectAttr.newKeyGuard
 refine wpAny_bind (wpAny_pure (wpAny_bind (wpAny_nsSet1 (Heap.Ns1.of_empty hnd) fun h' BW hs=>?_)))
 obtain⟨oD,VF,VG,JS,JT,JU⟩:=BW.count (Within.cons name v Within.nil)
 refine wpAny_bind (wpAny_lookBehind JS (by rw[JT];exact pastItsLine_dict (le_trans JU (by rw[length_cons,length_nil,sizeLine_eq];omega))) ?_)
 refine wpAny_pure (h h' _ ?_ BW fun b o hbx hb=>?_)
 ·exact(hs.2 x VU).trans (Heap.get?_update_self _ F9 rfl)
 ·exact(hs.2 b (ne_of_lt (lt_size hb))).trans ((Heap.get?_update_ne _ _ _ _ hbx).trans (Heap.get?_push_of_some _ hb))
open PySem.W in
end
end L2
namespace PySem
section
variable {prog:Program}{w:World}{A:Around}{E:Value->Shared->Prop}{h:Heap}{g:Array GenState}{d:Drawn}{t:Nat}{os:OsState}
variable {nm q:Str}{C N:Addr}{bs bm O6:List Value}{AF:Bool}{sn:List Str}{sub:List Value}{ab:Bool}{col:Option Bool}{dd:Option Addr}{k0 k1 k2 k3 k5:Option Value}{B newId DW:String}
theorem gs (F:ExcBaseFacts B newId DW O6)(T:OwnTail h O6 bm){mN:Str->Option Value}{rest:List Value}{fI:Addr}{oI:Obj}{Q:Fin->Shared->Prop}
  (hC:h.get? C=some (excClassObj nm q C N bs bm AF sn sub ab col dd k0 k1 k2 k3 k5 newId)) (hn:h.Ns N mN) (hi:mN "__init__" = some (.ref fI))
  (QV:h.get? fI=some oI) (QW:oI.cls = .type "function")
  (hq:wpAny (model prog w) A (call (.ref fI) (.ref (h.objs.size + 1) :: rest)) (fun r s'=>r = .none/\Q (.done (.ret (.ref (h.objs.size + 1)))) s') E
   ⟨(h.push { cls := .type "tuple",data := .seq rest.toArray }).push { cls := .ref C,data := .fields #[.ref h.objs.size, .none, .none, .none, .bool false, .none] },g,d,t,os⟩) (hrest:rest.length <= sizeLine:=by size_fits) :
  wpAny (model prog w) A (Builtin.«type.__call__» ⟨.ref C :: rest,[]⟩) Q E ⟨h,g,d,t,os⟩:=by
 repeat (first | with_reducible refine wpAny_loadPart_at hC ?_ | with_reducible refine wpAny_madeBy_exc hC ?_ | wp_step)
 refine codeAny_call_builtin_code (Code.quiet_builtin _ F.quiet) (wpAny_check_new_subT F T hC ?_)
 refine codeAny_exc_new_subT F T hC ?_ hrest
 show wpAny _ _ _ _ _ _
 have FA:=Heap.get?_push_of_some { cls := .ref C,data := .fields #[.ref h.objs.size, .none, .none, .none, .bool false, .none] }
  (Heap.get?_push_of_some { cls := .type "tuple",data := .seq rest.toArray } hC)
 have Hq:=Heap.get?_push_of_some { cls := .ref C,data := .fields #[.ref h.objs.size, .none, .none, .none, .bool false, .none] }
  (Heap.get?_push_of_some { cls := .type "tuple",data := .seq rest.toArray } QV)
 have Ku:((h.push { cls := .type "tuple",data := .seq rest.toArray }).push { cls := .ref C,data := .fields #[.ref h.objs.size, .none, .none, .none, .bool false, .none] }).Ns N mN :=
  let ⟨o,es,ep,e,r⟩:=hn; ⟨o,es,ep,Heap.get?_push_of_some _ (Heap.get?_push_of_some _ e),r⟩
 have Hr:((h.push { cls := .type "tuple",data := .seq rest.toArray }).push
   { cls := .ref C,data := .fields #[.ref h.objs.size, .none, .none, .none, .bool false, .none] }).get? (h.objs.size + 1)=some
   { cls := .ref C,data := .fields #[.ref h.objs.size, .none, .none, .none, .bool false, .none] }:=by heap_get
 have hcC:(Value.ref C :: bm).contains (.ref C)=true:=by simp
 have T₁:=T.keeps (h':=(h.push { cls := .type "tuple",data := .seq rest.toArray }).push { cls := .ref C,data := .fields #[.ref h.objs.size, .none, .none, .none, .bool false, .none] })
  fun b o e=>Heap.get?_push_of_some _ (Heap.get?_push_of_some _ e)
 unfold isInstance
 repeat (first | with_reducible refine wpAny_loadPart_at Hr ?_ | (with_reducible refine wpAny_isSubtype_exc FA ?_;rw[hcC]) | wp_step)
 show wpAny _ _ (typeLookup (.ref C) _) _ _ _
 refine wpAny_typeLookup_tail FA Ku T₁ F.mroIs F.init.lookup ?_
 rw[hi]
 refine wpAny_holding (wpAny_bind ?_)
 unfold bindSpecial
 refine wpAny_bind (wpAny_typeOf (T := "function") ⟨_,Hq,QW⟩ ?_)
 rw[if_pos (by decide)]
 refine wpAny_pure (wpAny_bind (wpAny_mono hq (fun r s' hr=>?_) fun _ _ x=>x))
 obtain⟨rfl,hQ⟩:=hr
 wp_walk
 exact hQ
theorem ky (F:ExcBaseFacts B newId DW O6)(T:OwnTail h O6 bm){mN:Str->Option Value}{rest:List Value}{fI:Addr}{oI:Obj}{Q:Value->Shared->Prop}
  (hC:h.get? C=some (excClassObj nm q C N bs bm AF sn sub ab col dd k0 k1 k2 k3 k5 newId)) (hn:h.Ns N mN) (hi:mN "__init__" = some (.ref fI))
  (QV:h.get? fI=some oI) (QW:oI.cls = .type "function")
  (hq:wpAny (model prog w) (A.under (.builtin "type.__call__" ⟨.ref C :: rest,[]⟩)) (call (.ref fI) (.ref (h.objs.size + 1) :: rest)) (fun r s'=>r = .none/\Q (.ref (h.objs.size + 1)) s') E
   ⟨(h.push { cls := .type "tuple",data := .seq rest.toArray }).push { cls := .ref C,data := .fields #[.ref h.objs.size, .none, .none, .none, .bool false, .none] },g,d,t,os⟩) (hrest:rest.length <= sizeLine:=by size_fits) :
  wpAny (model prog w) A (call (.ref C) rest) Q E ⟨h,g,d,t,os⟩:=by
 have f1:=tc_lookup
 have f2:=tc_bind (.ref C)
 have hT:(⟨h,g,d,t,os⟩:Shared).TypeIs (.ref C) "type":=⟨_,hC,rfl⟩
 refine wpAny_call (codeAny_of_tree ?_)
 show wpAny _ _ (callAny (.ref C) _) _ _ _
 repeat (any_goals (first | assumption | with_reducible refine wpAny_loadPart_at hC ?_ | wp_step))
 refine⟨rfl,?_⟩
 refine codeAny_call_builtin_at (Code.quiet_builtin _ (by decide +kernel)) entry_typeCall (wpAny_check_type_call_sub hC (gs (hrest:=hrest) F T hC hn hi QV QW ?_))
 exact hq
end
section
variable {M:Model}{A:Around}{E:Value->Shared->Prop}{env:Env}
variable {nm q:Str}{C N:Addr}{bs bm:List Value}{AF:Bool}{sn:List Str}{sub:List Value}{ab:Bool}{col:Option Bool}{dd:Option Addr}{k0 k1 k2 k3 k5:Option Value}{newId:String}
theorem gy {s:Shared}{x:Sem Value}{Q:Flow->Shared->Prop}(hh:A.handled=none)
  (h:wpAny M A x (fun v s₁=>∃ e t de nm q N bs bm AF sn sub ab col dd k0 k1 k2 k3 k5 newId,v = .ref e/\bm.contains (.type "BaseException")=true/\s₁.heap.get? C=some (excClassObj nm q C N bs bm AF sn sub ab col dd k0 k1 k2 k3 k5 newId) /\
   s₁.heap.get? e=some { cls := .ref C,dict:=de,data := .fields #[.ref t, .none, .none, .none, .bool false, .none] }/\E (.ref e) s₁) E s) :
  wpAny M A (raiseStmt env (some x) none) Q E s:=by
 unfold raiseStmt
 refine wpAny_bind (wpAny_mono h (fun v s₁ h₁=>?_) fun _ _ x=>x)
 obtain⟨e,t,de,nm,q,N,bs,bm,AF,sn,sub,ab,col,dd,k0,k1,k2,k3,k5,newId,rfl,Cf,hC,he,hE⟩:=h₁
 have hcB:(Value.ref C :: bm).contains (.type "BaseException")=true:=by rw[contains_cons,Cf,Bool.or_true]
 obtain⟨hp,g,d,tk,os⟩:=s₁
 repeat (first | with_reducible refine wpAny_loadPart_at he ?_ | with_reducible refine wpAny_loadPart_at hC ?_ | (with_reducible refine wpAny_isSubtype_exc hC ?_;rw[hcB]) | wp_step)
 exact wpAny_raiseNew_none hh hE
end
end PySem
namespace L2
open PySem PySem.Spec PyProof.Rows
noncomputable def b5 (K:Frag)(C:Addr)(init:Option Value):Bool:=match K.lookup C with
 | some ⟨.type "type",_, .cls cd,sl⟩=>(match cd.mro,sl.toList with
  | .ref C' :: bm,[_,_,_,_,some (.builtin n),_]=>C' == C && n == "ValueError.__new__" && !cd.hasDel && PySem.W.tailIn K dR bm && PySem.W.nsOkIn K cd.ns && nsIn K cd.ns "__init__" == some init
  | _,_=>false)
 | _=>false
theorem iq {K:Frag}{h:Heap}{N:Addr}{x:Str}{v:Value}(X:K.In h)(e:PySem.W.nsOkIn K N=true)(q:nsIn K N x=some (some v)):h.nsMap N x=some v:=by
 have G:h.Ns N (h.nsMap N) := .of_isNs (PySem.W.isNs_of_in X e)
 generalize h.nsMap N=m at G ⊢
 obtain⟨o,es,ep,ho,hd,_,hf⟩:=G
 unfold nsIn at q
 split at q
 ·rename_i c d Oi n' sl z
  have:=X _ _ z
  rw[ho]at this
  cases this
  cases hd
  split at q
  ·rename_i en he
   cases q
   rw[← hf]
   unfold nsFind findBy
   rw[← Array.find?_toList,he]
   rfl
  ·split at q<;>cases q
 ·cases q
theorem lj {K:Frag}{h:Heap}{C:Addr}{init:Option Value}(X:K.In h)(q:b5 K C init=true):∃ bm N nm qn bs AF sn sub ab col dd k0 k1 k2 k3 k5 mN,
  h.get? C=some (excClassObj nm qn C N bs bm AF sn sub ab col dd k0 k1 k2 k3 k5 "ValueError.__new__")/\h.Ns N mN/\mN "__init__" = init/\OwnTail h dR bm:=by
 unfold b5 at q
 split at q
 ·rename_i dd cd sl ho
  split at q
  ·rename_i C' bm k0 k1 k2 k3 n k5 hm hs
   simp only[Bool.and_eq_true,beq_iff_eq,Bool.not_eq_true']at q
   obtain⟨⟨⟨⟨⟨rfl,rfl⟩,Kv⟩,ht⟩,ze⟩,FC⟩:=q
   obtain⟨nm,bs,mro,ns,qn,hd,sn,sub,ab,col,ur⟩:=cd
   dsimp only at hm Kv ze FC
   subst hm Kv
   have O7:sl = #[k0,k1,k2,k3,some (.builtin "ValueError.__new__"),k5]:=by
    obtain⟨l⟩:=sl
    simp only at hs
    rw[hs]
   subst O7
   refine⟨bm,ns,nm,qn,bs,hd,sn,sub,ab,col,dd,k0,k1,k2,k3,k5,_,X _ _ ho, .of_isNs (PySem.W.isNs_of_in X ze),?_,PySem.W.tail_of_in X ht⟩
   cases init with
   | none=>exact PySem.W.nsMap_none_of_in X ze FC
   | some v=>exact iq X ze FC
  ·cases q
 ·cases q
theorem qa {h:Heap}{bm:List Value}(T:OwnTail h dR bm):bm.contains (.type "BaseException")=true:=T.hasType (by decide)
noncomputable def dv (C t:Addr)(dd:Option Addr):Obj:={ cls := .ref C,dict:=dd,data := .fields #[.ref t, .none, .none, .none, .bool false, .none] }
noncomputable abbrev TX:=St->Hp->(Option Addr->Hp->Prop)->Prop
noncomputable def PX (X:Cx)(e:Expr)(C:Addr)(t:TX):Prop :=
 ∀ (pins:List (Addr × Obj))(s:Shared)(σ:St)(H:Hp)(R:Option Addr->Hp->Prop),Inv X pins σ H s->t σ H R->wpAny (model X.prog X.w) X.A (eval e X.env)
  (fun u s'=>∃ ea dd tt H',u = .ref ea/\Inv X pins σ H' s'/\s'.heap.get? ea=some (dv C tt dd)/\X.s₀.heap.get? ea=none/\H' ea=none/\(∀ p ∈ X.pn ++ pins,p.1 ≠ ea)/\R dd H') X.xe s
theorem Ad.at {P:Program}{w:World}{H:Hp}{h:Heap}{a:Addr}{o:HO}(x:Ad P w H h)(e:H a=some o):∃ ob,h.get? a=some ob:=by
 have q:=x a o e
 have all:∀ o,zq P w H h a o->∃ ob,h.get? a=some ob:=by
  intro o
  induction o with
  | lst xs=>intro ⟨_,za,n,_,e⟩;exact⟨_,e⟩
  | tup xs=>intro ⟨_,za,_,ob,e,_⟩;exact⟨_,e⟩
  | dK kvs=>intro ⟨_,_,vs,_,q⟩;obtain⟨o,es,ep,e,_⟩:=q;exact⟨_,e⟩
  | dT kvs=>intro ⟨_,_,xs,_,o,es,ep,e,_⟩;exact⟨_,e⟩
  | set S n=>intro q;obtain⟨o,_,_,_,e,_⟩:=q;exact⟨_,e⟩
  | ins C dx fs=>intro ⟨_,_,_,e,_⟩;exact⟨_,e⟩
  | own x=>intro ⟨o,e⟩;exact⟨_,e⟩
  | xd fs=>intro ⟨mA,⟨o,es,ep,e,_⟩,_⟩;exact⟨_,e⟩
  | Oc lo hi=>intro ⟨_,_,_,e⟩;exact⟨_,e⟩
  | AU o u ih=>intro ⟨e,_⟩;exact⟨_,e⟩
  | F0 ps=>intro e;exact⟨_,e⟩
  | met f x=>intro e;exact⟨_,e⟩
  | ext φ=>intro ⟨_,e,_⟩;exact e
 exact all o q
theorem Ad.none_of {P:Program}{w:World}{H:Hp}{h:Heap}{a:Addr}(x:Ad P w H h)(e:h.get? a=none):H a=none:=by
 cases q:H a with
 | none=>rfl
 | some o =>
  obtain⟨ob,z⟩:=x.at q
  rw[e]at z;cases z
noncomputable def ur (H:Hp)(a:Addr):Hp:=fun b=>if b=a then none else H b
theorem mI {H:Hp}{a:Addr}:ur H a a=none:=if_pos rfl
theorem dM {H:Hp}{a b:Addr}(h:b ≠ a):ur H a b=H b:=if_neg h
theorem Inv.drop {X:Cx}{pins:List (Addr × Obj)}{σ:St}{H:Hp}{s:Shared}{a:Addr} {φ:Heap->Prop} (I:Inv X pins σ H s) (e:H a=some (.ext φ)):Inv X pins σ (ur H a) s:=by
 have nx:∀ b u,H b=some u->(∀ φ,u ≠ .ext φ)->b ≠ a:=fun b u q n z=>by rw[z,e]at q;cases q;exact n φ rfl
 have nn:∀ b,H b=none->ur H a b=none:=fun b q=>by unfold ur;split<;>first | rfl | exact q
 refine⟨I.ok,I.os,I.bare,⟨I.base.keep,I.base.slot,fun b o h1 h2 h3=>nn b (I.base.free b o h1 h2 h3),I.base.there,fun b xs q=>?_,fun b o u q=>?_,fun b ps q=>?_⟩,I.loc,I.cell,nn _ I.free,fun x c h=>nn _ (I.zM x c h),fun p hp=>?_,fun b u q=>?_,I.len⟩
 ·have z:=I.base.Bm b xs q
  rw[dM (nx b _ z fun φ h=>by cases h)];exact z
 ·have z:=I.base.AZ b o u q
  rw[dM (nx b _ z fun φ h=>by cases h)];exact z
 ·obtain⟨more,z⟩:=I.base.Bn b ps q
  exact⟨more,by rw[dM (nx b _ z fun φ h=>by cases h)];exact z⟩
 ·obtain⟨h1,h2,h3⟩:=I.pin p hp
  exact⟨h1,nn _ h2,h3⟩
 ·have hb:b ≠ a:=fun z=>by rw[z,mI]at q;cases q
  rw[dM hb]at q
  refine(I.ze b u q).AY (fun c v _ z=>z) (fun c z=>?_) fun c xs z=>?_
  ·rw[dM (nx c _ z fun φ h=>by cases h)];exact z
  ·rw[dM (nx c _ z fun φ h=>by cases h)];exact z
section
variable {X:Cx}{C f:Addr}{x:Str}{p pos apos:Pos}{e:Expr}{es:List Expr}{t:TA}
noncomputable def wT (t:TA):TX:=fun σ H R=>t σ H fun vs H1=>vs.length <= sizeLine/\R none H1
theorem ce (hq:b5 X.K C none=true)(kp:keepIn X.K (.ref C)=true)(hex:X.ex=[])(hg:Gl X x)(hm:X.mg x=some (.ref C))(ha:PA X (e :: es) t)
  (DO:(x == ("__debug__":Str))=false:=by decide) (he:starEach (e :: es) X.env=(false,eval e X.env) :: starEach es X.env:=by rfl) (AJ:(backTo pos (starEach es X.env)).any (·.1)=false:=by rfl) :
  PX X (.Call (.Name x p) (e :: es) [] pos) C (wT t):=by
 intro pins s σ H R I h
 refine wpAny_Call_Name_kw (gY I hg hm ?_ DO)
 refine PySem.W.callWith_K (h₀:=X.base) I.ok.mod.D9 kp (aT (ha pos pins s σ H _ I h) fun us s1 ⟨vs,H1,I1,r,hl,q⟩=>⟨I1.Ac,?_⟩) he AJ
 obtain⟨bm,N,nm,qn,bs,AF,sn,sub,ab,col,dd,k0,k1,k2,k3,k5,mN,hC,hn,FC,T⟩:=lj I1.Ac hq
 obtain⟨hp,g,d,tk,os⟩:=s1
 refine wpAny_call_exc_subT (hrest:=by show us.length <= _;rw[← r.length];exact hl) PySem.F.excBase_ValueError T hC hn FC fun h' ea Cm=>?_
 obtain⟨tt,ht,_,_⟩:=Cm.there
 refine⟨ea,none,tt,H1,rfl,I1.kept (t':=tk) Cm.keeps,ht,I1.DV hex Cm.new,I1.ze.none_of Cm.new,fun p hp z=>?_,q⟩
 have:=(I1.pin p hp).1
 rw[z]at this
 have h2:=Cm.new
 rw[this]at h2
 cases h2
noncomputable def bM (e C t:Addr)(dd:Option Addr):HO := .ext fun h=>h.get? e=some (dv C t dd)
theorem j1 {P:Program}{w:World}{H:Hp}{h:Heap}{e C t:Addr}{dd:Option Addr}(q:h.get? e=some (dv C t dd)):zq P w H h e (bM e C t dd) :=
 ⟨q,⟨_,q⟩,fun h1 h2 a b=>b _ a⟩
noncomputable def wU (C:Addr)(sp:Sp)(t:TA):TX:=fun σ H R=>t σ H fun vs H1=>vs.length <= sizeLine/\∀ e tt,H1 e=none->sp (.ref e :: vs) (upd H1 e (bM e C tt none)) (fun v H2=>v = .zm/\∃ dd,H2 e=some (bM e C tt dd)/\R dd (ur H2 e)) E0
theorem iH {k:Nat}{fd:FuncData}{ps:List Str}{sp:Sp}(hq:b5 X.K C (some (.ref f))=true)(hf:isFn X.K (.ref f)=true)(kp:keepIn X.K (.ref C)=true)(F:yX X.prog X.w X.K X.mg X.base aD k f fd ps sp)(hr:zi (k + 1) X.A)(hb:Binds X.K fd ps [])
  (hg:Gl X x) (hm:X.mg x=some (.ref C)) (ha:PA X (e :: es) t)
  (DO:(x == ("__debug__":Str))=false:=by decide) (he:starEach (e :: es) X.env=(false,eval e X.env) :: starEach es X.env:=by rfl) (AJ:(backTo pos (starEach es X.env)).any (·.1)=false:=by rfl) :
  PX X (.Call (.Name x p) (e :: es) [] pos) C (wU C sp t):=by
 intro pins s σ H R I h
 refine wpAny_Call_Name_kw (gY I hg hm ?_ DO)
 refine PySem.W.callWith_K (h₀:=X.base) I.ok.mod.D9 kp (aT (ha pos pins s σ H _ I h) fun us s1 ⟨vs,H1,I1,r,hl,q⟩=>⟨I1.Ac,?_⟩) he AJ
 obtain⟨bm,N,nm,qn,bs,AF,sn,sub,ab,col,dd,k0,k1,k2,k3,k5,mN,hC,hn,FC,T⟩:=lj I1.Ac hq
 obtain⟨oI,VW,hcI⟩:∃ oI,s1.heap.get? f=some oI/\oI.cls = .type "function":=by
  have z:=beq_iff_eq.mp hf
  obtain⟨o,ho,z⟩:=Option.map_eq_some_iff.mp (show(X.K.lookup f).map (·.cls)=some (.type "function") from z)
  exact⟨o,I1.Ac _ _ ho,z⟩
 obtain⟨hp,g,d,tk,os⟩:=s1
 dsimp only at hC hn T VW
 refine ky (hrest:=by show us.length <= _;rw[← r.length];exact hl) PySem.F.excBase_ValueError T hC hn FC VW hcI ?_
 have nE:hp.objs.size <= hp.objs.size + 1:=le_succ _
 have VX:=q (hp.objs.size + 1) hp.objs.size (I1.ze.fresh nE)
 have Hr:((hp.push { cls := .type "tuple",data := .seq us.toArray }).push (dv C hp.objs.size none)).get? (hp.objs.size + 1)=some (dv C hp.objs.size none):=by
  have:=Heap.get?_push_size (hp.push { cls := .type "tuple",data := .seq us.toArray }) (o:=dv C hp.objs.size none) rfl
  rwa [size_push]at this
 have I2:Inv X pins σ (upd H1 (hp.objs.size + 1) (bM (hp.objs.size + 1) C hp.objs.size none)) ⟨(hp.push { cls := .type "tuple",data := .seq us.toArray }).push (dv C hp.objs.size none),g,d,tk,os⟩ :=
  I1.laid (t':=tk) (fun b u z=>Heap.get?_push_of_some _ (Heap.get?_push_of_some _ z)) nE (j1 Hr)
 have r2:Vals (V.ref (hp.objs.size + 1) :: vs) (Value.ref (hp.objs.size + 1) :: us) := .cons rfl r
 have Et:(Value.ref (hp.objs.size + 1) :: us ++ []).length=ps.length:=by
  have e:=r2.length
  rw[F.len _ _ _ _ VX]at e
  rw[append_nil];exact e.symm
 have Kw:=hb ⟨(hp.push { cls := .type "tuple",data := .seq us.toArray }).push (dv C hp.objs.size none),g,d,tk,os⟩ (Value.ref (hp.objs.size + 1) :: us) I2.Ac Et
 rw[append_nil]at Kw
 refine wpAny_call (codeAny_mono (F.run _ X.stack _ _ ⟨Value.ref (hp.objs.size + 1) :: us,[]⟩ (Value.ref (hp.objs.size + 1) :: us) _ _ E0 (hr.make C us []) (I2.GN.make C us []) Kw r2 VX) fun rr s' AB=>?_)
 cases rr with
 | error e=>exact AB.elim
 | ok fl =>
  cases fl with
  | ret u =>
   obtain⟨v,H',I3,rv,ev,de,C0,q3⟩:=I2.after AB
   subst ev
   refine⟨rv,hp.objs.size + 1,de,hp.objs.size,ur H' (hp.objs.size + 1),rfl,I3.drop C0,(I3.ze _ _ C0).1,Heap.get?_none_of_le (le_trans I1.sz nE),mI,fun p CS z=>?_,q3⟩
   have:=lt_size (I1.pin p CS).1
   rw[z]at this
   exact absurd this (Nat.not_lt.mpr nE)
  | next=>exact False.elim AB
  | brk=>exact False.elim AB
  | cont=>exact False.elim AB
noncomputable def wX (C:Addr)(E:XK)(t:TX):TS:=fun _ σ H=>t σ H fun dd H1=>E (.ref C) dd H1
theorem b8 {E:XK}{tx:TX}{init:Option Value}(hc:X.calm=true)(hq:b5 X.K C init=true)(hx:AV X E)(h:PX X e C tx):PS X (.Raise (some e) none pos) (wX C E tx):=by
 intro pins s σ H D I hw
 rw[arm_exec_Raise]
 have key:wpAny (model X.prog X.w) X.A (eval e X.env) (fun v s₁=>∃ ea t de nm q N bs bm AF sn sub ab col dd k0 k1 k2 k3 k5 newId,v = .ref ea/\bm.contains (.type "BaseException")=true/\s₁.heap.get? C=some (excClassObj nm q C N bs bm AF sn sub ab col dd k0 k1 k2 k3 k5 newId) /\
   s₁.heap.get? ea=some { cls := .ref C,dict:=de,data := .fields #[.ref t, .none, .none, .none, .bool false, .none] }/\X.xe (.ref ea) s₁) X.xe s:=by
  refine aT (h pins s σ H _ I hw) fun u s1 zo=>?_
  obtain⟨ea,dd,tt,H',eu,I1,ho,hn,hh,hp,q⟩:=zo
  obtain⟨bm,N,nm,qn,bs,AF,sn,sub,ab,col,ddc,k0,k1,k2,k3,k5,mN,hC,GZ,FC,T⟩:=lj I1.Ac hq
  refine⟨ea,tt,dd,nm,qn,N,bs,bm,AF,sn,sub,ab,col,ddc,k0,k1,k2,k3,k5,_,eu,qa T,hC,ho,hx pins σ _ _ ⟨ea, .ref C,dd,[ea],H',rfl,I1,⟨_,_,ho,rfl,rfl,rfl, .inl ⟨rfl,rfl⟩⟩,fun b hb=>?_,q⟩⟩
  simp only[mem_singleton]at hb
  subst hb
  exact⟨hn,hh,hp⟩
 first
  | refine wpAny_bind (wpAny_standAt (gy (C:=C) (I.ok.hd hc) (wpAny_bind (wpAny_mono key (fun v s₃ h₃=>wpAny_bind (wpAny_standAt (wpAny_pure h₃))) fun _ _ x=>x))))
  | (simp only[evalOpt,Option.map];refine wpAny_bind (wpAny_standAt (gy (C:=C) (I.ok.hd hc) (wpAny_bind (wpAny_mono key (fun v s₃ h₃=>wpAny_bind (wpAny_standAt (wpAny_pure h₃))) fun _ _ x=>x)))))
end
end L2
namespace L2
open PySem PySem.Spec PyProof.Rows
section
variable {prog:Program}{w:World}{A:Around}{E:Value->Shared->Prop}{s:Shared}{K:Frag}{x C:Addr}{ox:Obj}{od:Option Obj}{name:Str}{v:Value}
open PySem.W in
open PySem.W in
end
section
variable {X:Cx}{pins:List (Addr × Obj)}{σ:St}{H:Hp}{s:Shared}{ea:Addr}{oe:Obj}
end
end L2
namespace L2
open PySem PySem.Spec PyProof.Rows
noncomputable def Kx (K:Frag)(ta tv:TE)(f:Str):TS:=fun D σ H=>tv σ H fun y H1=>ta σ H1 fun x H2=>∃ a C tt,x = .ref a/\H2 a=some (bM a C tt none)/\gr K C/\findIn K (.ref C) f=some none /\
 ∀ d,H2 d=none->D.nx σ (upd (upd H2 d (.xd [(f,y)])) a (bM a C tt (some d)))
section
variable {X:Cx}{o e value:Expr}{f:Str}{pos pos':Pos}{ta tv:TE}
theorem kN (ha:PE X o ta)(hv:PE X value tv)(hs:swapsWith value (some (.Attribute o f pos')) pos.line X.env=pure false):PS X (.Assign [.Attribute o f pos'] value pos) (Kx X.K ta tv f):=by
 intro pins s σ H D I h
 refine plainObj_wpAny_Assign_Attribute (aT (hv pins s σ H _ I h) fun u s1 ⟨y,H1,I1,ry,q⟩=>aT (ha pins s1 σ H1 _ I1 q) fun ov s2 ⟨x,H2,I2,rx,a,C,tt,ex,ea,c,n,q2⟩=>?_) hs
 subst ex
 obtain rfl:ov=Value.ref a:=rx
 have ho:s2.heap.get? a=some (dv C tt none):=(I2.ze a _ ea).1
 have zR:a < s2.heap.objs.size:=lt_size ho
 refine lF I2.Ac ho c n fun h' t' BX BW hk=>⟨σ,_,?_,q2 s2.heap.objs.size (I2.ze.fresh (le_refl _))⟩
 obtain⟨od,es,ep,DE,r⟩:=id BW
 have CB:od.isFreed=false:=(Heap.get?_some_iff.mp DE).2
 have Cn:(s2.heap.push od).get? s2.heap.objs.size=some od:=Heap.get?_push_size s2.heap CB
 have I3:=I2.laid (a:=s2.heap.objs.size) (o := .xd [(f,y)]) (h':=s2.heap.push od) (t':=s2.toks) (fun b u z=>Heap.get?_push_of_some _ z) (le_refl _)
  ⟨_,BW.at (fun o z=>by rw[DE]at z;cases z;exact Cn),fun g=>by
   by_cases hg:g=f
   ·have hb:(g == f)=true:=beq_iff_eq.mpr hg
    simp only[List.lookup,hb,if_pos hg]
    exact ry
   ·have hb:(g == f)=false:=beq_eq_false_iff_ne.mpr hg
    simp only[List.lookup,hb,if_neg hg]
    trivial⟩
 have Bx:a ≠ s2.heap.objs.size:=ne_of_lt zR
 refine I3.write (x:=a) (e:=a) (h':=h') (t':=t') (by rw[ae Bx,ea];exact True.intro) (.inl rfl) (fun b u hb z=>?_) ⟨_,BX⟩ (j1 BX)
 by_cases Ky:b=s2.heap.objs.size
 ·subst Ky
  have z':(s2.heap.push od).get? s2.heap.objs.size=some u:=z
  rw[Cn]at z'
  cases z'
  exact DE
 ·have z':s2.heap.get? b=some u:=by
   have z0:(s2.heap.push od).get? b=some u:=z
   exact(Heap.get?_push_cases z0).elim (fun w=>absurd w.1 Ky) fun w=>w
  exact hk b u hb z'
end
section
variable {P:Program}{w:World}{K:Frag}{mg:Str->Option Value}{base:Heap}
theorem zt.Ew {x qual:Str}{st:Stmt}{f:Addr}{fd:FuncData}{N ps:List Str}{k:Nat}{sp:Sp}(F:zt K x qual st f fd)(S:ao N ps (aj st))(len:∀ vs H Q E,sp vs H Q E->vs.length=ps.length)
  (Bo:∀ (cdv:Value)(A:Around)(outer:List Env)(s:Shared)(H:Hp)(vs:List V)(Q:VK)(E:XK),zi k (A.deeper (envOfC qual (aj st) s.heap.objs.size f cdv))->sp vs H Q E ->
   ∃ t,Bz (iD (eR P w) P w K mg base N qual (aj st) f cdv A outer s H E) (aH st) t/\t { nx:=fun _ H'=>Q .zm H',rt:=Q } (start N vs) H):yX P w K mg base (eR P w) (k + 1) f fd ps sp:=by
 obtain⟨oc,od,kV,doc,pm,an,cdv,ct,C5,rfl,lk,C2⟩:=F.ex
 exact ue lk C2 S len fun A outer s H vs Q E hr DC=>Bo cdv A outer s H vs Q E hr DC
end
theorem io {P:Program}{w:World}{X:Cx}:dP (eR P w) X E0:=fun _ _ _ _ _ _ _ ⟨_,_,_,_,_,_,_,_,_,_,_,_,h⟩=>h.elim
section
variable {X:Cx}{k:Nat}{f C:Addr}{fd:FuncData}{ps:List Str}{sp:Sp}{zJ:List V}{ds:List Value}{x m:Str}{p pos apos:Pos}{e o:Expr}{es:List Expr}{ta:TE}{t:TA}
end
section
variable {X:Cx}{e:Expr}{t:St->Hp->VK->XK->Prop}{pos Dt:Pos}{n:Str}{i:Nat}
end
section
variable {M:Model}{A:Around}{E:Value->Shared->Prop}{s:Shared}
end
end L2
namespace PySem
open Sem (wp)
open AutoSeq1 (wpAny_loadPart')
theorem eA (l:Addr)(items:Array Value)(n:Nat)(QX:Option Addr)(sl:Array (Option Value)) :
  Meets (Builtin.«enumerate.__new__» ⟨[.type "enumerate", .ref l],[]⟩) (fun _ R s=>s.heap.get? l=some { cls := .type "tuple",dict:=QX,data := .seq items n,slots:=sl } /\
   R (.ok (.ret (.ref (s.heap.push { cls := .type "tuple_iterator",data := .fields #[.ref l, .int 0 0] }).objs.size)))
    { s with heap:=(s.heap.push { cls := .type "tuple_iterator",data := .fields #[.ref l, .int 0 0] }).push { cls := .type "enumerate",data := .fields #[.none, .bool false, .ref s.heap.objs.size,rawInt 0, .none, .none] } }) :=
 .of_wp fun prog w A R s h=>by
  obtain⟨hp,g,d,tk,os⟩:=s;obtain⟨hl,h⟩:=h
  have Kz:=sub_enumerate
  have hL:Heap.IsTuple (Shared.heap ⟨hp,g,d,tk,os⟩) l items:=⟨_,hl,rfl,n,rfl⟩
  wp_walk using wpAny_loadPart' hl
  refine wpAny_stack_any fun st=>wpAny_pure ?_
  split
  ·rename_i c _ _ _ _ _
   cases (c == Value.type "enumerate")
   ·wp_walk using wpAny_loadPart' hl,wpAny_pyIter_tuple hL
    exact⟨_,rfl,h⟩
   ·wp_walk using wpAny_loadPart' hl,wpAny_pyIter_tuple hL
    exact⟨_,rfl,h⟩
  ·wp_walk using wpAny_loadPart' hl,wpAny_pyIter_tuple hL
   exact⟨_,rfl,h⟩
section
variable {prog:Program}{w:World}{A:Around}{E:Value->Shared->Prop}{s:Shared}
theorem eB {l:Addr}{items:Array Value}{Q:Value->Shared->Prop}(hL:s.heap.IsTuple l items)
  (h:∀ h',IsEnum h' (s.heap.objs.size + 1) s.heap.objs.size 0 .none->h'.IsTupleIter s.heap.objs.size l 0->h'.objs.size=s.heap.objs.size + 2 ->
   (∀ b o,s.heap.get? b=some o->h'.get? b=some o)->Q (.ref (s.heap.objs.size + 1)) { s with heap:=h' }) :
  wpAny (model prog w) A (call (.type "enumerate") [.ref l]) Q E s:=by
 obtain⟨⟨c,QX,dt,sl⟩,hl,hc,n,hd⟩:=hL
 replace hc:c = .type "tuple":=hc
 replace hd:dt = .seq items n:=hd
 subst hc hd
 refine callType_new F.called_enumerate (by decide) (F.typeCall_enumerate_1 _) (F.newCall_enumerate_1 _) (fun obj=>F.args_object_init_2 obj _) F.entry_enumerate_new
  (eA l items n QX sl) ⟨hl,?_⟩
 have hz:(s.heap.push { cls := .type "tuple_iterator",data := .fields #[.ref l, .int 0 0] }).objs.size=s.heap.objs.size + 1:=size_push ..
 show _/\_
 rw[hz]
 have he:IsEnum ((s.heap.push { cls := .type "tuple_iterator",data := .fields #[.ref l, .int 0 0] }).push
   { cls := .type "enumerate",data := .fields #[.none, .bool false, .ref s.heap.objs.size,rawInt 0, .none, .none] }) (s.heap.objs.size + 1) s.heap.objs.size 0 .none:=by
  have:=Heap.get?_push_size (s.heap.push { cls := .type "tuple_iterator",data := .fields #[.ref l, .int 0 0] })
   (o:={ cls := .type "enumerate",data := .fields #[.none, .bool false, .ref s.heap.objs.size,rawInt 0, .none, .none] }) rfl
  rw[hz]at this;exact this
 refine⟨⟨_,he,rfl⟩,h _ he ⟨_,Heap.get?_push_of_some _ (Heap.get?_push_size _ rfl),rfl,rfl⟩ (by rw[size_push,hz]) fun b o x=>Heap.get?_push_of_some _ (Heap.get?_push_of_some _ x)⟩
theorem fW {it l:Addr}{i:Nat} {items} {x:Value} {Q:Value->Shared->Prop} (hit:s.heap.IsTupleIter it l i)
  (hl:s.heap.IsTuple l items) (hx:items[i]? = some x)
  (hQ:∀ h',h'.IsTupleIter it l (i + 1)->Heap.SameBut it s.heap h'->Q x { s with heap:=h' }) :
  wpAny (model prog w) A (Builtin.SmallTypes.nextOf (.ref it)) Q E s:=by
 obtain⟨o,ho,hc,hd⟩:=id hit
 obtain⟨ol,Hs,_,nl,Ht⟩:=hl
 unfold Builtin.SmallTypes.nextOf
 refine wpAny_bind (wpAny_callSpecial?_slot (name:=Str.ofString "__next__") hit.typeIs F.slot_tuple_iterator_next
  (wpAny_call_entry F.slot_tuple_iterator_next hit.typeIs F.entry_tuple_iterator_next ?_ (F.args_tuple_iterator_next_1 _)))
 show wpAny _ _ (field (.ref it) 0 >>= _) _ _ s
 refine wpAny_bind (wpAny_field ho hd (x := .ref l) rfl ?_)
 show wpAny _ _ (if (Value.ref l == Value.none)=true then _ else _) _ _ s
 rw[if_neg (show ¬ ((Value.ref l == Value.none)=true) from Bool.false_ne_true)]
 show wpAny _ _ (field (.ref it) 1 >>= _) _ _ s
 refine wpAny_bind (wpAny_field ho hd (x := .int i 0) rfl ?_)
 show wpAny _ _ (seqItems? (.ref l) >>= _) _ _ s
 refine wpAny_bind (wpAny_seqItems Hs Ht ?_)
 simp only[toNat_natCast,hx]
 refine wpAny_bind (wpAny_setField ho hd (by simp) (wpAny_pure ⟨x,rfl,wpAny_pure (hQ _ ?_ (Heap.SameBut.update ..))⟩))
 exact⟨_,Heap.get?_update_self _ ho (Obj.isFreed_of_fields (Obj.data_mapFields hd _)),(Obj.cls_mapFields ..).trans hc,by
  rw[Obj.data_mapFields hd];simp[rawInt]⟩
theorem gj {it l:Addr}{i:Nat} {items} {Q:Value->Shared->Prop} (hh:A.handled=none)
  (hit:s.heap.IsTupleIter it l i) (hl:s.heap.IsTuple l items) (hx:items[i]? = none)
  (hE:∀ h' e,Heap.ExtBut it s.heap h'->(∃ o,h'.get? e=some o/\o.cls = .type "StopIteration")->E (.ref e) { s with heap:=h' }) :
  wpAny (model prog w) A (Builtin.SmallTypes.nextOf (.ref it)) Q E s:=by
 obtain⟨o,ho,hc,hd⟩:=id hit
 obtain⟨ol,Hs,_,nl,Ht⟩:=hl
 unfold Builtin.SmallTypes.nextOf
 refine wpAny_bind (wpAny_callSpecial?_slot (name:=Str.ofString "__next__") hit.typeIs F.slot_tuple_iterator_next
  (wpAny_call_entry F.slot_tuple_iterator_next hit.typeIs F.entry_tuple_iterator_next ?_ (F.args_tuple_iterator_next_1 _)))
 show wpAny _ _ (field (.ref it) 0 >>= _) _ _ s
 refine wpAny_bind (wpAny_field ho hd (x := .ref l) rfl ?_)
 show wpAny _ _ (if (Value.ref l == Value.none)=true then _ else _) _ _ s
 rw[if_neg (show ¬ ((Value.ref l == Value.none)=true) from Bool.false_ne_true)]
 show wpAny _ _ (field (.ref it) 1 >>= _) _ _ s
 refine wpAny_bind (wpAny_field ho hd (x := .int i 0) rfl ?_)
 show wpAny _ _ (seqItems? (.ref l) >>= _) _ _ s
 refine wpAny_bind (wpAny_seqItems Hs Ht ?_)
 simp only[toNat_natCast,hx]
 refine wpAny_bind (wpAny_rule (wpAny_bind (wpAny_setField ho hd (by simp) ?_)))
 show wpAny _ _ (newExc (.type "StopIteration") [] >>= _) _ _ _
 refine wpAny_bind ?_
 simp only[newExc,newTuple]
 refine wpAny_bind (wpAny_newObj_type ?_ (by size_fits))
 refine wpAny_bind (m:=firstArgMember _ _) (wpAny_of_eq (a:=Value.none) (by first | rfl | (simp only[firstArgMember];rfl)) ?_)
 refine wpAny_newObj_type ?_ (by size_fits)
 simp only[raiseNew]
 refine wpAny_bind (wpAny_handled ?_)
 first | rw[show A.in1.handled=none from hh] | rw[hh]
 refine wpAny_bind (wpAny_pure (wpAny_throw ?_))
 exact hE _ _ (((Heap.SameBut.update ..).extBut.push _).push _) ⟨_,Heap.get?_push_size _ rfl,rfl⟩
end
theorem fY {prog:Program}{w:World}{A:Around}(hh:A.handled=none)(it l:Addr)(Bx:l ≠ it)(items:Array Value) :
  Draws prog w A it [it,l] items.size (fun i v=>items[i]? = some v) (fun i h=>h.IsTupleIter it l i/\h.IsTuple l items) where
 live:=fun _ _ st=>let ⟨o,ho,_⟩:=st.1; ⟨o,ho⟩
 frame:=fun _ _ _ st hk=>⟨st.1.at fun o e=>hk it (by simp) o e,let ⟨o,ho,r⟩:=st.2; ⟨o,hk l (by simp) o ho,r⟩⟩
 item:=fun i s Q E hi st hQ=>by
  refine fW st.1 st.2 (x:=items[i]) (by simp[hi]) fun h' QY Ja=>?_
  exact hQ _ h' s.toks (by simp[hi]) ⟨QY,let ⟨o,ho,r⟩:=st.2; ⟨o,Ja.extBut l o Bx ho,r⟩⟩ Ja
 done:=fun s Q E st hE=>gj hh st.1 st.2 (by simp) hE
end PySem
namespace L2
open PySem PySem.Spec PyProof.Rows
section
variable {X:Cx}{pins:List (Addr × Obj)}{σ:St}{H:Hp}{s:Shared}
theorem Inv.Hu {h':Heap}{t':Nat}{a b p:Addr}{xs:List V}{us:List Value}(I:Inv X pins σ H s)(fa:fX X pins H a)(fb:fX X pins H b)(hp:s.heap.objs.size <= p)
  (k:∀ c o,c ≠ a->c ≠ b->s.heap.get? c=some o->h'.get? c=some o) (ka:∃ o,h'.get? a=some o) (kb:∃ o,h'.get? b=some o) (hl:xs.length <= sizeLine) (r:Vals xs us) (ht:Ai h' p us.toArray) :
  Inv X pins σ (upd H p (.tup xs)) { s with heap:=h',toks:=t' }:=by
 have hf:H p=none:=I.ze.fresh hp
 have nt:∀ c u,H c=some u->c ≠ p:=fun c u q z=>by rw[z,hf]at q;cases q
 have lt:∀ c o,s.heap.get? c=some o->c ≠ p:=fun c o q=>ne_of_lt (lt_of_lt_of_le (lt_size q) hp)
 have ne:∀ c,c ∉ [a,b]->c ≠ a/\c ≠ b:=fun c hc=>by simpa using hc
 refine I.call (g':=s.gens) (d':=s.drawn) (ch:=[a,b]) ⟨fun c o e n h1 h2=>k c o (ne c h2).1 (ne c h2).2 e,fun c o e n h1 h2=>⟨o.slots,k c o (ne c h2).1 (ne c h2).2 e⟩,fun c o e n h2=>by rw[ae (lt c o e)];exact n,
  fun c o e h2=>⟨o,k c o (ne c h2).1 (ne c h2).2 e⟩,fun c ys q=>by rw[ae (nt c _ q)];exact q,fun c o u q=>by rw[ae (nt c _ q)];exact q,fun c ps q=>⟨#[],by rw[ae (nt c _ q),q];simp⟩⟩ (fun c u q=>?_) I.bare fun c hc=>?_
 ·by_cases hc:c=p
  ·subst hc
   rw[ac]at q
   cases q
   exact⟨hl,us,r,ht⟩
  ·rw[ae hc]at q
   refine(I.ze c u q).AY (fun d v hd z=>?_) (fun d z=>by rw[ae (nt d _ z)];exact z) fun d ys z=>by rw[ae (nt d _ z)];exact z
   have nd:∀ e,H e=none->d ≠ e:=fun e he w=>by
    rcases hd with rfl | hd
    ·rw[w,he]at q;cases q
    ·rw[w,he]at hd;cases hd
   exact k d v (nd a fa.1) (nd b fb.1) z
 ·have IS:c=a∨c=b:=by simpa using hc
  rcases IS with rfl | rfl
  ·obtain⟨_,f1,_,f3,f4,f5⟩:=fa;exact⟨f3,f1,f4,f5⟩
  ·obtain⟨_,f1,_,f3,f4,f5⟩:=fb;exact⟨f3,f1,f4,f5⟩
theorem Inv.CV {h':Heap}{t':Nat}{a b:Addr}(I:Inv X pins σ H s)(fa:fX X pins H a)(fb:fX X pins H b)
  (k:∀ c o,c ≠ a->c ≠ b->s.heap.get? c=some o->h'.get? c=some o):Inv X pins σ H { s with heap:=h',toks:=t' }:=by
 have ne:∀ c,c ∉ [a,b]->c ≠ a/\c ≠ b:=fun c hc=>by simpa using hc
 refine I.call (g':=s.gens) (d':=s.drawn) (ch:=[a,b]) ⟨fun c o e n h1 h2=>k c o (ne c h2).1 (ne c h2).2 e,fun c o e n h1 h2=>⟨o.slots,k c o (ne c h2).1 (ne c h2).2 e⟩,fun c o e n h2=>n,
  fun c o e h2=>⟨o,k c o (ne c h2).1 (ne c h2).2 e⟩,fun c ys q=>q,fun c o u q=>q,fun c ps q=>⟨#[],by rw[q];simp⟩⟩ (fun c u q=>?_) I.bare fun c hc=>?_
 ·refine(I.ze c u q).AY (fun d v hd z=>?_) (fun d z=>z) fun d ys z=>z
  have nd:∀ e,H e=none->d ≠ e:=fun e he w=>by
   rcases hd with rfl | hd
   ·rw[w,he]at q;cases q
   ·rw[w,he]at hd;cases hd
  exact k d v (nd a fa.1) (nd b fb.1) z
 ·have IS:c=a∨c=b:=by simpa using hc
  rcases IS with rfl | rfl
  ·obtain⟨_,f1,_,f3,f4,f5⟩:=fa;exact⟨f3,f1,f4,f5⟩
  ·obtain⟨_,f1,_,f3,f4,f5⟩:=fb;exact⟨f3,f1,f4,f5⟩
theorem jV {e it:Addr}{fp:List Addr}{n i:Nat}{P:Nat->Value->Prop}{Sx:Nat->Heap->Prop}{old:Value}{xs:List V}{E:Value->Shared->Prop}{elts:List Expr}{kk:Nat}{pos:Pos}
  (D:Draws X.prog X.w X.A.in1 it fp n P Sx) (I:Inv X pins σ H s) (he:IsEnum s.heap e it i old) (B1:Sx i s.heap) (zR:i < n) (Bx:e ≠ it) (VY:e ∉ fp) (fe:fX X pins H e) (fi:fX X pins H it)
  (hP:∀ v,P i v->∃ x,xs[i]? = some x/\RelV x v) :
  wpAny (model X.prog X.w) X.A (pyNext (.ref e)) (fun r s1=>∃ u,r=some u/\wpAny (model X.prog X.w) X.A (letOwnedTupleGo (.Tuple elts kk pos) (.ref e) u) (fun _ s2=>∃ p x,xs[i]? = some x/\H p=none/\u = .ref p /\
   Inv X pins σ (upd H p (.tup [.int i,x])) s2/\(∃ old,IsEnum s2.heap e it ((i + 1:Nat):Int) old)/\Sx (i + 1) s2.heap/\p ≠ e/\p ≠ it) E s1) E s:=by
 refine wpAny_pyNext_enum_itemD D he B1 zR Bx VY fun x h' tk hx ho Ja hT hsz hk=>⟨_,rfl,?_⟩
 refine wpAny_letOwnedTupleGo_enum ho fun h2 Ey Dr=>?_
 obtain⟨y,hy,ry⟩:=hP x hx
 have VZ:e < s.heap.objs.size:=lt_size he
 have hie:it < s.heap.objs.size:=by obtain⟨_,z⟩:=D.live _ _ B1;exact lt_size z
 have K0:Sx (i + 1) h2:=D.frame _ _ _ Ja fun b hb o z=>(Dr.2 b fun q=>VY (q ▸ hb)).trans z
 refine⟨s.heap.objs.size,y,hy,I.ze.fresh (le_refl _),rfl,?_,⟨x,by simpa using Ey⟩,K0,ne_of_gt VZ,ne_of_gt hie⟩
 refine Inv.Hu (s:=s) (h':=h2) (t':=tk + 1) I fe fi (le_refl _) (fun c o h1 h2' z=>(Dr.2 c h1).trans (hk c o h1 h2' z)) ⟨_,Ey⟩ (let ⟨o,z⟩:=D.live _ _ K0; ⟨o,z⟩) (by show 2 <= sizeLine;decide) (us:=[.int i tk,x]) (.cons ⟨tk,rfl⟩ (.cons ry .nil)) ?_
 exact⟨_,(Dr.2 _ (ne_of_gt VZ)).trans hT,⟨rfl,_,rfl⟩,rfl⟩
end
noncomputable def yT (sq:Hp->List V->Prop):It :=
 ⟨fun i H=>∃ xs x,sq H xs/\xs[i]? = some x,fun i H v H'=>∃ p,H p=none/\v = .ref p/\∀ xs,sq H xs->∃ x,xs[i]? = some x/\H' = upd H p (.tup [.int i,x]),fun i H=>∃ xs,sq H xs/\xs.length=i⟩
theorem nj {P:Program}{w:World}{K:Frag}{elts:List Expr}{kk:Nat}{pos:Pos}(a e it:Addr)(Bx:e ≠ it):mX P w K (.Tuple elts kk pos) (yT fun H=>zb K H a) [e,it] e (fun i h=>(∃ old,IsEnum h e it (i:Int) old)/\h.IsListIter it a i) where
 mem:=by simp
 obj:=fun i h st b hb=>by
  obtain⟨⟨old,he⟩,o,ho,c,d⟩:=st
  have Bb:b=e∨b=it:=by simpa using hb
  rcases Bb with rfl | rfl
  ·exact⟨_,he,fun v z=>by have z':Data.fields _=Data.cell v:=z;cases z'⟩
  ·exact⟨o,ho,fun v z=>by rw[d]at z;cases z⟩
 keep:=fun i h h' st k=>by
  obtain⟨⟨old,he⟩,hi⟩:=st
  exact⟨⟨old,k e (by simp) _ he⟩,hi.at fun o z=>k it (by simp) o z⟩
 item:=by
  intro X hP hw hK hc i pins s σ H E I hf st hg
  subst hP hw hK
  obtain⟨xs,x,hq,hx⟩:=hg
  obtain⟨za,rv,p,hz⟩:=I.list hq
  obtain⟨⟨old,he⟩,hi⟩:=st
  have hl:i < za.toArray.size:=by
   have:=(List.getElem?_eq_some_iff.mp hx).1
   have l2:=rv.length
   simp;omega
  have QZ:e ≠ a:=by
   rintro rfl
   obtain⟨o,ho,Dx,_⟩:=p.isList
   rw[he]at ho;cases ho
   injection Dx with z;exact absurd z (by decide)
  have Hv:a ≠ it:=by
   rintro rfl
   obtain⟨o,ho,Dx,_⟩:=p.isList
   obtain⟨o2,zS,Cd,_⟩:=hi
   rw[ho]at zS;cases zS;rw[Dx]at Cd
   injection Cd with z;exact absurd z (by decide)
  refine aT (jV (xs:=xs) (Draws.list (A:=X.A.in1) (I.ok.hd hc) it a Hv za.toArray) I he ⟨hi,p.isList⟩ hl Bx (by simp only[mem_cons,not_mem_nil,or_false,not_or];exact⟨Bx,QZ⟩) (hf e (by simp)) (hf it (by simp)) fun v hv=>?_) fun r s1 ⟨u,hr,h1⟩=>⟨u,hr,aT h1 fun _ s2 ⟨q,y,hy,Ra,hu,I2,Ey,Dr,n1,n2⟩=>?_⟩
  ·obtain⟨u,hu,ru⟩:=rv.get hx
   have e1:za[i]? = some v:=by simpa using hv
   rw[hu]at e1;cases e1
   exact⟨x,hx,ru⟩
  ·refine⟨.ref q,_,I2,hu,⟨q,Ra,rfl,fun zs Rb=>⟨y,by rw[I.Cc Rb hq];exact hy,rfl⟩⟩,⟨Ey,Dr.1⟩,fun b hb=>?_⟩
   have Bb:b=e∨b=it:=by simpa using hb
   rcases Bb with rfl | rfl
   ·rw[ae (Ne.symm n1)];exact(hf b (by simp)).1
   ·rw[ae (Ne.symm n2)];exact(hf b (by simp)).1
 done:=by
  intro X hP hw hK hc i pins s σ H E I hf st hg
  subst hP hw hK
  obtain⟨xs,hq,hx⟩:=hg
  obtain⟨za,rv,p,hz⟩:=I.list hq
  obtain⟨⟨old,he⟩,hi⟩:=st
  have hl:i=za.toArray.size:=by have l2:=rv.length;simp;omega
  have Hv:a ≠ it:=by
   rintro rfl
   obtain⟨o,ho,Dx,_⟩:=p.isList
   obtain⟨o2,zS,Cd,_⟩:=hi
   rw[ho]at zS;cases zS;rw[Dx]at Cd
   injection Cd with z;exact absurd z (by decide)
  refine wpAny_pyNext_enum_endD (Draws.list (A:=X.A.in1) (I.ok.hd hc) it a Hv za.toArray) he (by rw[← hl];exact⟨hi,p.isList⟩) fun h' BX=>⟨rfl,?_⟩
  exact I.CV (t':=s.toks) (hf e (by simp)) (hf it (by simp)) fun c o h1 h2 z=>BX c o h2 z
 self:=fun _ _ _ _ _ st h=>by
  obtain⟨⟨old,he⟩,_⟩:=st
  exact wpAny_pyIter_enum he h
theorem nh {P:Program}{w:World}{K:Frag}{elts:List Expr}{kk:Nat}{pos:Pos}(a e it:Addr)(Bx:e ≠ it):mX P w K (.Tuple elts kk pos) (yT fun H=>zc K H a) [e,it] e (fun i h=>(∃ old,IsEnum h e it (i:Int) old)/\h.IsTupleIter it a i) where
 mem:=by simp
 obj:=fun i h st b hb=>by
  obtain⟨⟨old,he⟩,o,ho,c,d⟩:=st
  have Bb:b=e∨b=it:=by simpa using hb
  rcases Bb with rfl | rfl
  ·exact⟨_,he,fun v z=>by have z':Data.fields _=Data.cell v:=z;cases z'⟩
  ·exact⟨o,ho,fun v z=>by rw[d]at z;cases z⟩
 keep:=fun i h h' st k=>by
  obtain⟨⟨old,he⟩,hi⟩:=st
  exact⟨⟨old,k e (by simp) _ he⟩,hi.at fun o z=>k it (by simp) o z⟩
 item:=by
  intro X hP hw hK hc i pins s σ H E I hf st hg
  subst hP hw hK
  obtain⟨xs,x,hq,hx⟩:=hg
  obtain⟨za,rv,p,hz⟩:=I.tuple hq
  have pt:s.heap.IsTuple a za.toArray:=p
  obtain⟨⟨old,he⟩,hi⟩:=st
  have hl:i < za.toArray.size:=by
   have:=(List.getElem?_eq_some_iff.mp hx).1
   have l2:=rv.length
   simp;omega
  have QZ:e ≠ a:=by
   rintro rfl
   obtain⟨o,ho,Dx,_⟩:=pt
   rw[he]at ho;cases ho
   injection Dx with z;exact absurd z (by decide)
  have Hv:a ≠ it:=by
   rintro rfl
   obtain⟨o,ho,Dx,_⟩:=pt
   obtain⟨o2,zS,Cd,_⟩:=hi
   rw[ho]at zS;cases zS;rw[Dx]at Cd
   injection Cd with z;exact absurd z (by decide)
  refine aT (jV (xs:=xs) (fY (A:=X.A.in1) (I.ok.hd hc) it a Hv za.toArray) I he ⟨hi,pt⟩ hl Bx (by simp only[mem_cons,not_mem_nil,or_false,not_or];exact⟨Bx,QZ⟩) (hf e (by simp)) (hf it (by simp)) fun v hv=>?_) fun r s1 ⟨u,hr,h1⟩=>⟨u,hr,aT h1 fun _ s2 ⟨q,y,hy,Ra,hu,I2,Ey,Dr,n1,n2⟩=>?_⟩
  ·obtain⟨u,hu,ru⟩:=rv.get hx
   have e1:za[i]? = some v:=by simpa using hv
   rw[hu]at e1;cases e1
   exact⟨x,hx,ru⟩
  ·refine⟨.ref q,_,I2,hu,⟨q,Ra,rfl,fun zs Rb=>⟨y,by rw[I.BA Rb hq];exact hy,rfl⟩⟩,⟨Ey,Dr.1⟩,fun b hb=>?_⟩
   have Bb:b=e∨b=it:=by simpa using hb
   rcases Bb with rfl | rfl
   ·rw[ae (Ne.symm n1)];exact(hf b (by simp)).1
   ·rw[ae (Ne.symm n2)];exact(hf b (by simp)).1
 done:=by
  intro X hP hw hK hc i pins s σ H E I hf st hg
  subst hP hw hK
  obtain⟨xs,hq,hx⟩:=hg
  obtain⟨za,rv,p,hz⟩:=I.tuple hq
  have pt:s.heap.IsTuple a za.toArray:=p
  obtain⟨⟨old,he⟩,hi⟩:=st
  have hl:i=za.toArray.size:=by have l2:=rv.length;simp;omega
  have Hv:a ≠ it:=by
   rintro rfl
   obtain⟨o,ho,Dx,_⟩:=pt
   obtain⟨o2,zS,Cd,_⟩:=hi
   rw[ho]at zS;cases zS;rw[Dx]at Cd
   injection Cd with z;exact absurd z (by decide)
  refine wpAny_pyNext_enum_endD (fY (A:=X.A.in1) (I.ok.hd hc) it a Hv za.toArray) he (by rw[← hl];exact⟨hi,pt⟩) fun h' BX=>⟨rfl,?_⟩
  exact I.CV (t':=s.toks) (hf e (by simp)) (hf it (by simp)) fun c o h1 h2 z=>BX c o h2 z
 self:=fun _ _ _ _ _ st h=>by
  obtain⟨⟨old,he⟩,_⟩:=st
  exact wpAny_pyIter_enum he h
section
variable {X:Cx}{elts:List Expr}{kk:Nat}{Dt p pos:Pos}{a:Expr}{ta:TE}
noncomputable def Rc (K:Frag)(t:TA):TI:=fun σ H R=>t σ H fun vs H1=>∃ a,vs=[.ref a]/\(∃ xs,zb K H1 a xs)/\R (yT fun H=>zb K H a) H1
noncomputable def Rf (K:Frag)(t:TA):TI:=fun σ H R=>t σ H fun vs H1=>∃ a,vs=[.ref a]/\(∃ xs,zc K H1 a xs)/\R (yT fun H=>zc K H a) H1
theorem lQ {t:TA}(hg:Gl X "enumerate")(hm:X.mg "enumerate" = none)(ha:PA X [a] t)(hs:starEach [a] X.env=[(false,eval a X.env)]:=by rfl):PI X (.Tuple elts kk Dt) (.Call (.Name "enumerate" p) [a] [] pos) (Rc X.K t):=by
 intro pins s σ H R I h
 refine Call_ (gp I hg hm boot_enumerate (PyProof.Rows.callWith_type1 (aT (ha pos pins s σ H _ I h) fun us s1 ⟨vs,H1,I1,r1,q1⟩=>?_) hs rfl))
 obtain⟨l,e,⟨xs,hq⟩,q⟩:=q1
 subst e
 cases r1 with
 | cons r rr =>
  cases rr
  cases r
  obtain⟨za,rv,pp,hz⟩:=I1.list hq
  refine call_enumerate_list pp.isList fun h' he hit hsz hk=>?_
  have I2:Inv X pins σ H1 { s1 with heap:=h' }:=I1.kept (t':=s1.toks) hk
  refine wpAny_pyIter_enum (s:={ s1 with heap:=h' }) he ?_
  refine⟨_,_,_,_,H1,rfl,I2,nj l _ s1.heap.objs.size (Nat.succ_ne_self _),⟨⟨_,he⟩,hit⟩,fun b hb=>?_,q⟩
  have Bb:b=s1.heap.objs.size + 1∨b=s1.heap.objs.size:=by simpa using hb
  have hle:s1.heap.objs.size <= b:=by
   rcases Bb with e | e
   ·rw[e];exact le_succ _
   ·rw[e];exact le_refl _
  exact I1.Dq hle (I1.ze.fresh hle)
theorem lP {t:TA}(hg:Gl X "enumerate")(hm:X.mg "enumerate" = none)(ha:PA X [a] t)(hs:starEach [a] X.env=[(false,eval a X.env)]:=by rfl):PI X (.Tuple elts kk Dt) (.Call (.Name "enumerate" p) [a] [] pos) (Rf X.K t):=by
 intro pins s σ H R I h
 refine Call_ (gp I hg hm boot_enumerate (PyProof.Rows.callWith_type1 (aT (ha pos pins s σ H _ I h) fun us s1 ⟨vs,H1,I1,r1,q1⟩=>?_) hs rfl))
 obtain⟨l,e,⟨xs,hq⟩,q⟩:=q1
 subst e
 cases r1 with
 | cons r rr =>
  cases rr
  cases r
  obtain⟨za,rv,pp,hz⟩:=I1.tuple hq
  refine eB (show s1.heap.IsTuple l za.toArray from pp) fun h' he hit hsz hk=>?_
  have I2:Inv X pins σ H1 { s1 with heap:=h' }:=I1.kept (t':=s1.toks) hk
  refine wpAny_pyIter_enum (s:={ s1 with heap:=h' }) he ?_
  refine⟨_,_,_,_,H1,rfl,I2,nh l _ s1.heap.objs.size (Nat.succ_ne_self _),⟨⟨_,he⟩,hit⟩,fun b hb=>?_,q⟩
  have Bb:b=s1.heap.objs.size + 1∨b=s1.heap.objs.size:=by simpa using hb
  have hle:s1.heap.objs.size <= b:=by
   rcases Bb with e | e
   ·rw[e];exact le_succ _
   ·rw[e];exact le_refl _
  exact I1.Dq hle (I1.ze.fresh hle)
end
theorem mD {sq:Hp->List V->Prop}{xs:List V}{g:TG}{tb:TS}{D:ls}{σ:St}{H:Hp}(Pv:Nat->St->Hp->Prop)(h0:Pv 0 σ H)(hl:∀ i σ H,i <= xs.length->Pv i σ H->sq H xs)
  (hs:∀ i x p σ H,xs[i]? = some x->Pv i σ H->H p=none->g (.ref p) σ (upd H p (.tup [.int i,x])) fun σ2 H2=>tb { D with nx:=Pv (i + 1),ct:=Pv (i + 1),bk:=D.nx } σ2 H2) (hd:∀ σ H,Pv xs.length σ H->D.nx σ H) :
  ∃ W:Nat->Nat->St->Hp->Prop,(∃ m,W 0 m σ H)/\∀ i m σ H,W i m σ H ->
   ((yT sq).stop i H/\D.nx σ H)∨((yT sq).go i H/\∃ N:St->Hp->Prop,(∀ σ' H',N σ' H'->∃ m',m' < m/\W (i + 1) m' σ' H')/\∀ x H',(yT sq).Er i H x H'->g x σ H' fun σ2 H2=>tb { D with nx:=N,ct:=N,bk:=D.nx } σ2 H2):=by
 refine⟨fun i m σ H=>m=xs.length - i/\i <= xs.length/\Pv i σ H,⟨xs.length,by simp,zero_le _,h0⟩,?_⟩
 rintro i m σ H ⟨rfl,hi,p⟩
 have q:=hl i σ H hi p
 by_cases zR:i < xs.length
 ·refine .inr ⟨⟨xs,xs[i],q,by simp[zR]⟩,Pv (i + 1),fun σ' H' p'=>⟨xs.length - (i + 1),by omega,rfl,zR,p'⟩,fun x H' y=>?_⟩
  obtain⟨pp,hn,rfl,hx⟩:=y
  obtain⟨x',BX,e⟩:=hx xs q
  subst e
  exact hs i x' pp σ H BX p hn
 ·have e:i=xs.length:=by omega
  subst e
  exact .inl ⟨⟨xs,q,rfl⟩,hd σ H p⟩
end L2
namespace L2
open PySem PySem.Spec PyProof.Rows
noncomputable def Bc (d:PyData)(m:Nat):Prop:=d.canLay0=true/\d.depth <= m
theorem Bc.shaped {d:PyData}{m:Nat}(h:Bc d m)(hm:m <= 64):SeqAt.shaped d=true:=by
 unfold SeqAt.shaped
 rw[h.1,decide_eq_true (le_trans h.2 hm)];rfl
theorem bU (i:Int):Bc (.int i) 0:=⟨by simp[PyData.canLay0],by simp[PyData.depth]⟩
theorem DX:Bc .none 0:=⟨by simp[PyData.canLay0],by simp[PyData.depth]⟩
theorem kD {m:Nat}:∀ {ds:List PyData},(∀ d ∈ ds,Bc d m)->PyData.canLayAll0 ds=true/\PyData.depthAll ds <= m
 | [],_=>⟨by simp[PyData.canLayAll0],by simp[PyData.depthAll]⟩
 | d :: r,h=>by
  obtain⟨a,b⟩:=kD (ds:=r) fun z hz=>h z (mem_cons_of_mem _ hz)
  obtain⟨c,e⟩:=h d mem_cons_self
  exact⟨by simp[PyData.canLayAll0,c,a],by simp only[PyData.depthAll];omega⟩
theorem ck {m:Nat}{ds:List PyData}(h:∀ d ∈ ds,Bc d m):Bc (.list ds) (m + 1):=by
 obtain⟨a,b⟩:=kD h
 exact⟨by simp[PyData.canLay0,a],by simp only[PyData.depth];omega⟩
theorem c9 {m:Nat}{ds:List PyData}(h:∀ d ∈ ds,Bc d m):Bc (.tuple ds) (m + 1):=by
 obtain⟨a,b⟩:=kD h
 exact⟨by simp[PyData.canLay0,a],by simp only[PyData.depth];omega⟩
theorem Wc {K:Frag}{x y:V}{H:Hp}{Q:VK}{d:PyData}(h1:iQ K H x d)(h2:iQ K H y d)(s:Bc d 64)(q:Q (.bl false) H):xI K x y H Q :=
 ⟨d,d,h1,h2,s.shaped (le_refl _),s.shaped (le_refl _),by rw[SeqAt.eqv_refl d s.1];exact q⟩
theorem eqS {K:Frag}{x y:V}{H:Hp}{Q:VK}{d:PyData}(h1:iQ K H x d)(h2:iQ K H y d)(s:Bc d 64)(q:Q (.bl true) H):Ko K x y H Q :=
 ⟨d,d,h1,h2,s.shaped (le_refl _),s.shaped (le_refl _),by rw[SeqAt.eqv_refl d s.1];exact q⟩
theorem Bc.le {d:PyData}{m n:Nat}(h:Bc d m)(l:m <= n):Bc d n:=⟨h.1,le_trans h.2 l⟩
end L2
namespace L2
open PySem
theorem mO {n:Nat}{lo:Int}{g:TG}{tt:TT}{te:TE}{σ0:St}{H:Hp}{Q:VK}(p:Nat->Bool)(f:Nat->V)(hn:n < sizeLine)
  (hs:∀ (i:Nat)(acc:List V)(N:List V->Hp->Prop),i < n->N (if p i then acc ++ [f i] else acc) H->g (.int (lo + i)) σ0 H fun σ2 H2=>tt σ2 H2 fun b H3=>if b=true then te σ2 H3 fun y H4=>N (acc ++ [y]) H4 else N acc H3)
  (hq:∀ D,H D=none->Q (.ref D) (upd H D (.lst (((List.range n).filter p).map f)))) :
  dF (u0 lo n) g tt te σ0 Q H:=by
 refine⟨fun i m acc H'=>m=n - i/\i <= n/\H' = H/\acc=((List.range i).filter p).map f,⟨n,by simp,zero_le _,rfl,rfl⟩,?_⟩
 rintro i m acc H' ⟨rfl,hi,rfl,rfl⟩
 have hl:(((List.range i).filter p).map f).length < sizeLine:=by
  rw[length_map]
  have:=length_filter_le p (List.range i)
  rw[length_range]at this
  omega
 refine⟨hl,?_⟩
 by_cases zR:i < n
 ·refine .inr ⟨zR,fun zV H2=>H2=H'/\zV = ((List.range (i + 1)).filter p).map f,fun zV H2 ⟨h1,h2⟩=>⟨n - (i + 1),by omega,rfl,zR,h1,h2⟩,fun x H2 y=>?_⟩
  obtain⟨e,y⟩:=y
  subst e y
  refine hs i _ (fun zV H3=>H3=H2/\zV = ((List.range (i + 1)).filter p).map f) zR ⟨rfl,?_⟩
  rw[range_succ,filter_append]
  cases hp:p i with
  | true=>simp[hp]
  | false=>simp[hp]
 ·have e:i=n:=by omega
  subst e
  exact .inl ⟨le_refl _,hq⟩
theorem fN {K:Frag}{a:Addr}{xs:List V}{g:TG}{tt:TT}{te:TE}{σ0:St}{H:Hp}{Q:VK}(p:V->Bool)(f:V->V)(hn:xs.length < sizeLine)(ha:zb K H a xs)
  (hs:∀ (x:V)(acc:List V)(N:List V->Hp->Prop),x ∈ xs->N (if p x then acc ++ [f x] else acc) H->g x σ0 H fun σ2 H2=>tt σ2 H2 fun b H3=>if b=true then te σ2 H3 fun y H4=>N (acc ++ [y]) H4 else N acc H3)
  (hq:∀ D,H D=none->Q (.ref D) (upd H D (.lst ((xs.filter p).map f)))) :
  dF (uC K a) g tt te σ0 Q H:=by
 refine⟨fun i m acc H'=>m=xs.length - i/\i <= xs.length/\H' = H/\acc=((xs.take i).filter p).map f,⟨xs.length,by simp,zero_le _,rfl,rfl⟩,?_⟩
 rintro i m acc H' ⟨rfl,hi,rfl,rfl⟩
 have hl:(((xs.take i).filter p).map f).length < sizeLine:=by
  rw[length_map]
  have h1:=length_filter_le p (xs.take i)
  have h2:=length_take_le i xs
  omega
 refine⟨hl,?_⟩
 by_cases zR:i < xs.length
 ·refine .inr ⟨⟨xs,xs[i],ha,by simp[zR]⟩,fun zV H2=>H2=H'/\zV = ((xs.take (i + 1)).filter p).map f,fun zV H2 ⟨h1,h2⟩=>⟨xs.length - (i + 1),by omega,rfl,zR,h1,h2⟩,fun x H2 y=>?_⟩
  obtain⟨e,y⟩:=y
  subst e
  have hx:=y xs ha
  refine hs x _ (fun zV H3=>H3=H2/\zV = ((xs.take (i + 1)).filter p).map f) (mem_of_getElem? hx) ⟨rfl,?_⟩
  rw[take_succ,hx,filter_append]
  cases hp:p x with
  | true=>simp[hp]
  | false=>simp[hp]
 ·have e:i=xs.length:=by omega
  subst e
  rw[take_length]
  exact .inl ⟨⟨xs,ha,le_refl _⟩,hq⟩
theorem lb (k:Int):∀ ns:List Int,IY (.int k) (ns.map V.int)=decide (k ∈ ns)
 | []=>by simp[IY]
 | n :: r=>by
  have ih:=lb k r
  unfold IY at ih ⊢
  rw[map_cons,any_cons,ih]
  show((n == k) || decide (k ∈ r))=decide (k ∈ n :: r)
  by_cases h:k=n
  ·subst h;simp
  ·have h':¬ n=k:=fun z=>h z.symm
   simp[h,h']
theorem i0:∀ ns:List Int,(ns.map V.int).all hZ=true
 | []=>rfl
 | n :: r=>by rw[map_cons,all_cons,i0 r];rfl
end L2
namespace L2
open PySem PySem.Spec PyProof.Rows
section
open PySem.W
variable {prog:Program}{w:World}{A:Around}{E:Value->Shared->Prop}{s:Shared}{K:Frag}{x C:Addr}{name:Str}{v:Value}
theorem sf {d:Addr}{vs:Array Value}{mA:Str->Option Value}{ns:List Str}{Q:Unit->Shared->Prop}(X:K.In s.heap)(hx:s.heap.get? x=some ⟨.ref C,some d, .fields vs,#[]⟩)(hn:s.heap.Ns1 d mA)(hw:PySem.Within mA ns)(hl:ns.length < sizeLine)(c:gr K C)(ht:findIn K (.ref C) name=some none)
  (h:∀ h' t',h'.Ns1 d (fun y=>if y=name then some v else mA y)->(∀ b,b ≠ d->h'.get? b=s.heap.get? b)->Q () { s with heap:=h',toks:=t' }) :
  wpAny (model prog w) A (setAttr (.ref x) name v) Q E s:=by
 obtain⟨od,es,ep,DE,hr⟩:=id hn
 have I:PySem.W.InstAt s.heap x ⟨.ref C,some d, .fields vs,#[]⟩ C (some od):=⟨hx,rfl,rfl,DE⟩
 refine PySem.W.set_plain X I c.sa (p0 (s:={ s with toks:=s.toks + 1 }) X I c.mro ht fun b=>?_)
 obtain⟨cd,hc,GK⟩:=PySem.W.any_some c.hd
 obtain⟨hp,g,dr,t,os⟩:=s
 dsimp only at X hx h I hn DE ⊢
 refine wpAny_bind (wpAny_pure (wpAny_bind (wpAny_bind (wpAny_loadPart hx (wpAny_bind (PySem.W.Looks.here (s:=⟨hp,g,dr,t + 1,os⟩) (PySem.W.looks_clsIn X hc) ?_))))))
 rw[GK]
 rw[if_neg (by decide)]
 dsimp only
 refine wpAny_pure ?_
 show wpAny _ _ (Builtin.ObjectAttr.storeInDict d (.str name t) name v) _ _ _
 unfold Builtin.ObjectAttr.storeInDict Builtin.ObjectAttr.newKeyGuard
 refine wpAny_bind (wpAny_pure (wpAny_bind (wpAny_nsSet1 hn fun h' BW hs=>?_)))
 obtain⟨oD,VF,VG,JS,JT,JU⟩:=BW.count (Within.cons name v hw)
 refine wpAny_bind (wpAny_lookBehind JS (by rw[JT];exact pastItsLine_dict (le_trans JU (by rw[length_cons];omega))) ?_)
 exact wpAny_pure (h h' _ BW fun b hb=>hs.2 b hb)
end
noncomputable def K1 (d:Addr)(fs:List (Str × V)):Heap->Prop:=fun h=>∃ mA,h.Ns1 d mA/\∀ f,zQ (fs.lookup f) (mA f)
theorem wP {P:Program}{w:World}{H:Hp}{h:Heap}{d:Addr}{fs:List (Str × V)}(x:K1 d fs h):zq P w H h d (.ext (K1 d fs)):=by
 refine⟨x,?_,fun h1 h2 ⟨mA,⟨od,es,ep,e,c⟩,r⟩ k=>⟨mA,⟨od,es,ep,k _ e,c⟩,r⟩⟩
 obtain⟨mA,⟨od,es,ep,e,c⟩,r⟩:=x
 exact⟨od,e⟩
noncomputable def xF (K:Frag)(ta tv:TE)(f:Str):TS:=fun D σ H=>tv σ H fun y H1=>ta σ H1 fun x H2=>∃ a C tt,x = .ref a/\H2 a=some (bM a C tt none)/\gr K C/\findIn K (.ref C) f=some none /\
 ∀ d,H2 d=none->D.nx σ (upd (upd H2 d (.ext (K1 d [(f,y)]))) a (bM a C tt (some d)))
noncomputable def xD (K:Frag)(ta tv:TE)(f:Str):TS:=fun D σ H=>tv σ H fun y H1=>ta σ H1 fun x H2=>∃ a C tt d fs,x = .ref a/\H2 a=some (bM a C tt (some d))/\H2 d=some (.ext (K1 d fs))/\fs.length < 1000/\gr K C/\findIn K (.ref C) f=some none /\
 D.nx σ (upd H2 d (.xd (aL f y fs)))
section
variable {X:Cx}{o e value:Expr}{f:Str}{pos pos':Pos}{ta tv:TE}
theorem sW (ha:PE X o ta)(hv:PE X value tv)(hs:swapsWith value (some (.Attribute o f pos')) pos.line X.env=pure false):PS X (.Assign [.Attribute o f pos'] value pos) (xF X.K ta tv f):=by
 intro pins s σ H D I h
 refine plainObj_wpAny_Assign_Attribute (aT (hv pins s σ H _ I h) fun u s1 ⟨y,H1,I1,ry,q⟩=>aT (ha pins s1 σ H1 _ I1 q) fun ov s2 ⟨x,H2,I2,rx,a,C,tt,ex,ea,c,n,q2⟩=>?_) hs
 subst ex
 obtain rfl:ov=Value.ref a:=rx
 have ho:s2.heap.get? a=some (dv C tt none):=(I2.ze a _ ea).1
 have zR:a < s2.heap.objs.size:=lt_size ho
 refine lF I2.Ac ho c n fun h' t' BX BW hk=>⟨σ,_,?_,q2 s2.heap.objs.size (I2.ze.fresh (le_refl _))⟩
 obtain⟨od,es,ep,DE,r⟩:=id BW
 have CB:od.isFreed=false:=(Heap.get?_some_iff.mp DE).2
 have Cn:(s2.heap.push od).get? s2.heap.objs.size=some od:=Heap.get?_push_size s2.heap CB
 have I3:=I2.laid (a:=s2.heap.objs.size) (o := .ext (K1 s2.heap.objs.size [(f,y)])) (h':=s2.heap.push od) (t':=s2.toks) (fun b u z=>Heap.get?_push_of_some _ z) (le_refl _)
  (wP ⟨_,BW.at (fun o z=>by rw[DE]at z;cases z;exact Cn),fun g=>by
   by_cases hg:g=f
   ·have hb:(g == f)=true:=beq_iff_eq.mpr hg
    simp only[List.lookup,hb,if_pos hg]
    exact ry
   ·have hb:(g == f)=false:=beq_eq_false_iff_ne.mpr hg
    simp only[List.lookup,hb,if_neg hg]
    trivial⟩)
 have Bx:a ≠ s2.heap.objs.size:=ne_of_lt zR
 refine I3.write (x:=a) (e:=a) (h':=h') (t':=t') (by rw[ae Bx,ea];exact True.intro) (.inl rfl) (fun b u hb z=>?_) ⟨_,BX⟩ (j1 BX)
 by_cases Ky:b=s2.heap.objs.size
 ·subst Ky
  have z':(s2.heap.push od).get? s2.heap.objs.size=some u:=z
  rw[Cn]at z'
  cases z'
  exact DE
 ·have z':s2.heap.get? b=some u:=by
   have z0:(s2.heap.push od).get? b=some u:=z
   exact(Heap.get?_push_cases z0).elim (fun w=>absurd w.1 Ky) fun w=>w
  exact hk b u hb z'
theorem sV (ha:PE X o ta)(hv:PE X value tv)(hs:swapsWith value (some (.Attribute o f pos')) pos.line X.env=pure false):PS X (.Assign [.Attribute o f pos'] value pos) (xD X.K ta tv f):=by
 intro pins s σ H D I h
 refine plainObj_wpAny_Assign_Attribute (aT (hv pins s σ H _ I h) fun u s1 ⟨y,H1,I1,ry,q⟩=>aT (ha pins s1 σ H1 _ I1 q) fun ov s2 ⟨x,H2,I2,rx,a,C,tt,d,fs,ex,ea,ed,hfl,c,n,q2⟩=>?_) hs
 subst ex
 obtain rfl:ov=Value.ref a:=rx
 have ho:s2.heap.get? a=some (dv C tt (some d)):=(I2.ze a _ ea).1
 obtain⟨⟨mA,hn,hr⟩,_⟩:=I2.ze d _ ed
 have hw:PySem.Within mA (fs.map (·.1)):=fun g hg=>by
  have r:=hr g
  cases hl:fs.lookup g with
  | none=>rw[hl]at r;cases hm:mA g with
   | none=>exact absurd hm hg
   | some z=>rw[hm]at r;exact r.elim
  | some z =>
   have:∀ {l:List (Str × V)},l.lookup g=some z->g ∈ l.map (·.1):=by
    intro l
    induction l with
    | nil=>intro h;cases h
    | cons p l ih =>
     intro h
     rw[map_cons,mem_cons]
     by_cases e:g=p.1
     ·exact .inl e
     ·have hb:(g == p.1)=false:=beq_eq_false_iff_ne.mpr e
      obtain⟨p1,p2⟩:=p
      simp only[List.lookup,hb]at h
      exact .inr (ih h)
   exact this hl
 refine sf I2.Ac ho hn hw (by rw[length_map,sizeLine_eq];omega) c n fun h' t' BW hk=>⟨σ,_,?_,q2⟩
 refine I2.write (x:=d) (e:=d) (h':=h') (t':=t') (by rw[ed];exact True.intro) (.inl rfl) (fun b u hb z=>?_) ?_ ⟨_,BW,fun g=>?_⟩
 ·exact(hk b hb).trans z
 ·obtain⟨od,_,_,DE,_⟩:=BW
  exact⟨od,DE⟩
 ·rw[fH]
  by_cases e:g=f
  ·rw[if_pos e];simp only[if_pos e];exact ry
  ·rw[if_neg e];simp only[if_neg e];exact hr g
end
end L2
namespace L2
open PySem
noncomputable def pM:Option Int->Value->Bool
 | none,v=>v == .none
 | some k,v=>Value.isInt k v
noncomputable def vd:Option Int->Int
 | none=>4238894112
 | some k=>hashInt k
theorem bS {k:Option Int}{v:Value}(h:pM k v=true):(k=none/\v = .none)∨∃ i t,k=some i/\v = .int i t:=by
 cases k with
 | none=>exact .inl ⟨rfl,eq_of_beq h⟩
 | some i=>obtain⟨t,e⟩:=Value.isInt_shape h;exact .inr ⟨i,t,rfl,e⟩
section
variable {prog:Program}{w:World}{A:Around}{E:Value->Shared->Prop}{s:Shared}
theorem qQ {Q:Int->Shared->Prop}(h:Q 4238894112 { s with toks:=s.toks + 1 }):wpAny (model prog w) A (pyHash .none) Q E s:=by
 have hT:s.TypeIs .none "NoneType":=rfl
 unfold pyHash
 have hv:[Value.none].any Value.onHeap=false:=rfl
 refine wpAny_bind ?_
 rw[cRoomFor,if_neg (by rw[hv];exact Bool.false_ne_true)];refine wpAny_pure ?_
 refine wpAny_bind (wpAny_specialOf hT F.slot_NoneType_hash.lookup ?_)
 show wpAny _ _ (if (some (Value.builtin "NoneType.__hash__") == some Value.none)=true then _ else _) Q E s
 rw[if_neg (by rw[beq_builtin_none];exact Bool.false_ne_true)]
 refine wpAny_bind (wpAny_specialOf hT F.slot_NoneType_hash.lookup ?_)
 show wpAny _ _ (callSpecialIfBoundUnlessNone? .none "__hash__" _ >>= _) Q E s
 refine wpAny_bind (wpAny_callSpecialIfBoundUnlessNone?_slot hT F.slot_NoneType_hash (wpAny_call_entry F.slot_NoneType_hash hT F.entry_NoneType_hash
  (show wpAny _ _ (do ret (← mkInt 4238894112)) _ _ s from wpAny_ret_mkInt ?_) (F.args_NoneType_hash_1 _)))
 exact wpAny_pure h
theorem yD {a b:Option Int}{u v:Value}{Q:Bool->Shared->Prop}(hu:pM a u=true)(hv:pM b v=true)(h:Q (decide (a=b)) s):wpAny (model prog w) A (PySem.eqBool u v) Q E s:=by
 rcases bS hu with ⟨rfl,rfl⟩ | ⟨i,t,rfl,rfl⟩<;>rcases bS hv with ⟨rfl,rfl⟩ | ⟨j,t',rfl,rfl⟩
 ·unfold eqBool
  refine wpAny_holding ?_
  refine wpAny_ite_split (fun _=>wpAny_bind (wpAny_rule (wpAny_pure (by simpa using h)))) (fun n=>absurd rfl n)
 ·exact PySem.SeqAt.EqAt.none_int j t' prog w E Q (by simpa using h)
 ·exact PySem.SeqAt.EqAt.int_none i t prog w E Q (by simpa using h)
 ·refine wpAny_eqBool_int ?_
  have e:(i == j)=decide (some i=some j):=by
   by_cases q:i=j
   ·simp[q]
   ·simp[q]
  rw[e];exact h
end
noncomputable def fS (prog:Program)(w:World):KeyKind prog w (Option Int) where
 is:=pM
 hash:=vd
 inj:=fun v a b ha hb=>by
  rcases bS ha with ⟨rfl,rfl⟩ | ⟨i,t,rfl,rfl⟩<;>rcases bS hb with ⟨rfl,e⟩ | ⟨j,t',rfl,e⟩
  ·rfl
  ·cases e
  ·cases e
  ·cases e;rfl
 byValue:=fun k v h=>by
  rcases bS h with ⟨_,rfl⟩ | ⟨i,t,_,rfl⟩<;>rfl
 pyHash:=fun {A E s k v Q} hv h=>by
  rcases bS hv with ⟨rfl,rfl⟩ | ⟨i,t,rfl,rfl⟩
  ·exact qQ h
  ·exact wpAny_pyHash_int h
 eqBool:=fun hu hv h=>yD hu hv h
 «strs»:=fun k x t v h=>by
  rcases bS h with ⟨_,e⟩ | ⟨i,t,_,e⟩<;>cases e
end L2
namespace L2
open PySem PySem.Spec PyProof.Rows
noncomputable abbrev gi:=List (Option Int)
noncomputable def rj:Option Int->V
 | none => .zm
 | some i => .int i
noncomputable abbrev dQ:=gi × Addr × V
noncomputable abbrev j6 (p:dQ)(q:gi × Addr × Value):Prop:=p.1=q.1/\p.2.1=q.2.1/\RelV p.2.2 q.2.2
noncomputable def yV (P:Program)(w:World)(a:Addr)(kvs:List dQ):Heap->Prop:=fun h=>kvs.length <= sizeLine/\(a == sysModules)=false/\∃ xs,Paired j6 kvs xs /\
 ∃ o es ep,h.get? a=some o/\o.ExactDict/\o.data = .dict es ep/\es.toList=xs.map (entryOfKey (tupleKind (fS P w)))/\(xs.map (·.1)).Nodup
noncomputable def j7 (P:Program)(w:World)(a:Addr)(kvs:List dQ):HO := .ext (yV P w a kvs)
noncomputable def zN (P:Program)(w:World)(H:Hp)(a:Addr)(kvs:List dQ):Prop:=H a=some (j7 P w a kvs)/\∀ x ∈ kvs,H x.2.1=some (.tup (x.1.map rj))
theorem zN.same {P:Program}{w:World}{H H':Hp}{a:Addr}{kvs:List dQ}(h:zN P w H a kvs)(s:yW H H'):zN P w H' a kvs:=⟨s _ _ h.1,fun x hx=>s _ _ (h.2 x hx)⟩
noncomputable def cb (kvs:List dQ)(k:gi):Option V:=(kvs.find? fun x=>decide (x.1=k)).map (·.2.2)
noncomputable def qk (k:gi)(v:V)(x:dQ):dQ:=if x.1=k then (x.1,x.2.1,v) else x
noncomputable def fA (kvs:List dQ)(k:gi)(b:Addr)(v:V):List dQ:=if (cb kvs k).isSome then kvs.map (qk k v) else kvs ++ [(k,b,v)]
theorem iW {k:gi}:cb [] k=none:=rfl
theorem cf {x:dQ}{kvs:List dQ}{k:gi}:cb (x :: kvs) k=if x.1=k then some x.2.2 else cb kvs k:=by
 unfold cb
 rw[List.find?_cons]
 by_cases h:x.1=k
 ·rw[decide_eq_true h,if_pos h];rfl
 ·rw[decide_eq_false h,if_neg h]
theorem rp {kvs:List dQ}{k k':gi}{v:V}:cb (kvs.map (qk k v)) k' = if k' = k then (cb kvs k).map (fun _=>v) else cb kvs k':=by
 induction kvs with
 | nil=>rw[map_nil,iW,iW];split<;>rfl
 | cons x kvs ih =>
  rw[map_cons,cf,ih,cf,cf]
  unfold qk
  by_cases h:x.1=k<;>by_cases h':k' = k
  ·have:x.1=k':=h.trans h'.symm
   simp[h,h']
  ·have:¬ x.1=k':=fun z=>h' (z.symm.trans h)
   rw[if_pos h,if_neg h',if_neg this,if_neg this,if_neg h']
  ·subst h'
   simp[h]
  ·simp[h,h']
theorem l4 {kvs:List dQ}{k k':gi}{b:Addr}{v:V}(h:cb kvs k=none):cb (kvs ++ [(k,b,v)]) k' = if k' = k then some v else cb kvs k':=by
 induction kvs with
 | nil =>
  rw[List.nil_append,cf,iW]
  by_cases e:k' = k
  ·rw[if_pos e,if_pos e.symm]
  ·rw[if_neg e,if_neg (Ne.symm e)]
 | cons x kvs ih =>
  rw[cf]at h
  by_cases hx:x.1=k
  ·rw[if_pos hx]at h;cases h
  ·rw[if_neg hx]at h
   rw[List.cons_append,cf,ih h,cf]
   by_cases e:k' = k
   ·subst e;rw[if_neg hx,if_pos rfl,if_pos rfl]
   ·rw[if_neg e,if_neg e]
theorem gF {kvs:List dQ}{k k':gi}{b:Addr}{v:V}:cb (fA kvs k b v) k' = if k' = k then some v else cb kvs k':=by
 unfold fA
 cases h:cb kvs k with
 | none=>rw[if_neg (by simp)];exact l4 h
 | some u =>
  rw[if_pos (by simp),rp,h];rfl
theorem fz {kvs:List dQ}{k:gi}{b:Addr}{v:V}:(fA kvs k b v).length <= kvs.length + 1:=by
 unfold fA
 split
 ·rw[length_map];omega
 ·rw[length_append];exact le_refl _
theorem jH {kvs:List dQ}{k:gi}{b:Addr}{v:V}{F:gi->Addr->Prop}(h:∀ x ∈ kvs,F x.1 x.2.1)(hk:F k b):∀ x ∈ fA kvs k b v,F x.1 x.2.1:=by
 intro x hx
 unfold fA at hx
 split at hx
 ·obtain⟨y,hy,rfl⟩:=mem_map.mp hx
  unfold qk
  split
  ·exact h y hy
  ·exact h y hy
 ·rcases mem_append.mp hx with q | q
  ·exact h x q
  ·rw[mem_singleton.mp q];exact hk
theorem ll {kvs:List dQ}{xs:List (gi × Addr × Value)}(r:Paired j6 kvs xs)(k:gi):zQ (cb kvs k) ((atKey xs k).map (·.2)):=by
 induction r with
 | nil=>exact True.intro
 | @cons p q _ _ h1 _ ih =>
  rw[cf]
  unfold atKey at ih ⊢
  rw[List.find?_cons]
  by_cases e:p.1=k
  ·rw[if_pos e,decide_eq_true (h1.1.symm.trans e)];exact h1.2.2
  ·rw[if_neg e,decide_eq_false (fun z=>e (h1.1.trans z))];exact ih
theorem i7 {o:Option V}{u:Option Value}(r:zQ o u):o.isSome=u.isSome:=by
 cases o<;>cases u<;>first | rfl | exact r.elim
theorem qj {o:Option V}{u:Option Value}{d:V}{r:Value}(h:zQ o u)(hd:RelV d r):RelV (o.getD d) (u.getD r):=by
 cases o<;>cases u<;>first | exact hd | exact h | exact h.elim
theorem vY {kvs:List dQ}{xs:List (gi × Addr × Value)}{k:gi}{v:V}{u:Value}(r:Paired j6 kvs xs)(hv:RelV v u):Paired j6 (kvs.map (qk k v)) (xs.map (putAt k u)):=by
 induction r with
 | nil=>exact .nil
 | @cons p q _ _ h1 _ ih =>
  refine .cons ?_ ih
  unfold qk putAt
  by_cases e:p.1=k
  ·rw[if_pos e,if_pos (h1.1.symm.trans e)];exact⟨h1.1,h1.2.1,hv⟩
  ·rw[if_neg e,if_neg (fun z=>e (h1.1.trans z))];exact h1
theorem uh {kvs:List dQ}{xs:List (gi × Addr × Value)}{p:dQ}{q:gi × Addr × Value}(r:Paired j6 kvs xs)(h:j6 p q):Paired j6 (kvs ++ [p]) (xs ++ [q]):=by
 induction r with
 | nil=>exact .cons h .nil
 | cons h1 _ ih=>exact .cons h1 ih
theorem vX {kvs:List dQ}{xs:List (gi × Addr × Value)}{k:gi}{b:Addr}{v:V}{u:Value}(r:Paired j6 kvs xs)(hv:RelV v u):Paired j6 (fA kvs k b v) (storedH xs k b u):=by
 have h:=i7 (ll r k)
 rw[Option.isSome_map]at h
 unfold fA storedH
 rw[h]
 split
 ·exact vY r hv
 ·exact uh r ⟨rfl,rfl,hv⟩
section
variable {P:Program}{w:World}{H:Hp}{h:Heap}{a b:Addr}{kvs:List dQ}{k:gi}
theorem ip:∀ {k:gi}{us:List Value},Vals (k.map rj) us->ItemsAre (fS P w) k us
 | [],_, .nil => .nil
 | none :: _,_, .cons r t => .cons (by have e:_=Value.none:=r;subst e;rfl) (ip t)
 | some i :: _,_, .cons r t => .cons (by obtain⟨tk,e⟩:=(show ∃ t,_=Value.int i t from r);subst e;exact beq_self_eq_true i) (ip t)
theorem iK (ok:Ad P w H h)(e:H b=some (.tup (k.map rj))):(tupleKind (fS P w)).is h k b:=by
 obtain⟨_,za,r,o,ho,⟨hc,n,hd⟩,_⟩:=ok _ _ e
 exact⟨o,za.toArray,n,ho,hc,hd,ip r⟩
theorem iO (ok:Ad P w H h)(e:zN P w H a kvs):kvs.length <= sizeLine/\(a == sysModules)=false/\∃ xs,Paired j6 kvs xs/\h.DictOfH (tupleKind (fS P w)) a xs:=by
 obtain⟨e,ek⟩:=e
 obtain⟨⟨z,hs,xs,r,o,es,ep,h1,h2,h3,h4,h5⟩,_⟩:=ok _ _ e
 refine⟨z,hs,xs,r,o,es,ep,h1,h2,h3,h4,?_,h5⟩
 have all:∀ {kvs:List dQ}{xs:List (gi × Addr × Value)},Paired j6 kvs xs->(∀ x ∈ kvs,H x.2.1=some (.tup (x.1.map rj)))->∀ x ∈ xs,(tupleKind (fS P w)).is h x.1 x.2.1:=by
  intro kvs xs r
  induction r with
  | nil=>intro _ x hx;cases hx
  | @cons p q _ _ h1 _ ih =>
   intro hk x hx
   rcases mem_cons.mp hx with rfl | hx
   ·have:=hk p mem_cons_self
    rw[h1.1,h1.2.1]at this
    exact iK ok this
   ·exact ih (fun y hy=>hk y (mem_cons_of_mem _ hy)) x hx
 exact all r ek
theorem jY (h1 h2:Heap)(p:yV P w a kvs h1)(st:∀ o,h1.get? a=some o->h2.get? a=some o):yV P w a kvs h2:=by
 obtain⟨z,hs,xs,r,o,es,ep,q,c⟩:=p
 exact⟨z,hs,xs,r,o,es,ep,st _ q,c⟩
theorem um (hb:sysModules < h.objs.size):zq P w H (h.push { cls := .type "dict",data := .dict #[] }) h.objs.size (j7 P w h.objs.size []) :=
 ⟨⟨zero_le _,beq_eq_false_iff_ne.mpr (Ne.symm (ne_of_lt hb)),[], .nil,_,#[],0,Heap.get?_push_size _ rfl,⟨rfl,rfl,rfl⟩,rfl,rfl,nodup_nil⟩,⟨_,Heap.get?_push_size _ rfl⟩,fun _ _=>jY _ _⟩
end
noncomputable def wl (P:Program)(w:World)(H:Hp)(a:Addr)(y:V)(r:Option V):Prop:=∃ kvs k b,zN P w H a kvs/\y = .ref b/\H b=some (.tup (k.map rj))/\r=cb kvs k
section
variable {X:Cx}{pins:List (Addr × Obj)}{σ:St}{H:Hp}{s:Shared}{a b:Addr}{y v d:V}{u r:Value}{o:Option V}{A:Around}{E:Value->Shared->Prop}
theorem yM (I:Inv X pins σ H s):sysModules < s.heap.objs.size :=
 lt_trans (by decide) (show mainGlobals < s.heap.objs.size from (I.mod.glob.keeps I.bk).lt)
theorem Rg {Q:Value->Shared->Prop}(hu:A.units + 1 < cLine)(I:Inv X pins σ H s)(g:wl X.prog X.w H a y o)(ry:RelV y u)(h:∀ s',Inv X pins σ H s'->Q (.bool o.isSome) s') :
  wpAny (model X.prog X.w) A (compareOp .In u (.ref a)) Q E s:=by
 obtain⟨kvs,k,b,e,rfl,eb,rfl⟩:=g
 cases (show u=Value.ref b from ry)
 obtain⟨_,hd,xs,rel,dd⟩:=iO I.ze e
 refine wpAny_in_heap (tupleKind_room_in1 hu) (iK I.ze eb) hd dd ?_
 have q:=i7 (ll rel k)
 rw[Option.isSome_map]at q
 rw[← q]
 exact h _ (I.tok _)
theorem yq {Q:Value->Shared->Prop}(hu:A.units + 1 < cLine)(I:Inv X pins σ H s)(g:wl X.prog X.w H a y o)(ry:RelV y u)(rd:RelV d r)(h:∀ w' s',Inv X pins σ H s'->RelV (o.getD d) w'->Q w' s') :
  wpAny (model X.prog X.w) A (call (.builtin "dict.get") [.ref a,u,r]) Q E s:=by
 obtain⟨kvs,k,b,e,rfl,eb,rfl⟩:=g
 cases (show u=Value.ref b from ry)
 obtain⟨_,hd,xs,rel,dd⟩:=iO I.ze e
 exact call_meetsIn slot_dict_get dd.typeIs entry_dict_get (PySem.F.args_dict_get_3 _ _ _) (meetsH_dict_get_default (tupleKind (fS X.prog X.w)) a b hd r)
  ⟨tupleKind_room_in1 hu,k,xs,iK I.ze eb,dd,h _ _ (I.tok _) (qj (ll rel k) rd)⟩
theorem K2 {kvs:List dQ}{k:gi}{Q:Unit->Shared->Prop}(hu:A.units + 1 < cLine)(I:Inv X pins σ H s)(e:zN X.prog X.w H a kvs)(eb:H b=some (.tup (k.map rj)))(hl:kvs.length < sizeLine)(rv:RelV v r)
  (h:∀ s',Inv X pins σ (upd H a (j7 X.prog X.w a (fA kvs k b v))) s'->Q () s'):wpAny (model X.prog X.w) A (setItem (.ref a) (.ref b) r) Q E s:=by
 obtain⟨z,hd,xs,rel,dd⟩:=iO I.ze e
 have hz:xs.length <= sizeLine:=by rw[← Paired.length rel];exact z
 have DD:(fA kvs k b v).length <= sizeLine:=le_trans fz hl
 refine wpAny_setItem_heap (hsz:=hz) (tupleKind_room_in1 hu) (iK I.ze eb) dd fun h' EI hs=>h _ ?_
 obtain⟨q,es,ep,hq,h2,h3,h4,_,h5⟩:=EI
 exact I.write (x:=a) (e:=a) (by rw[e.1];exact True.intro) (.inl rfl) (fun c q hc z=>(hs.2 c hc).trans z) ⟨q,hq⟩
  ⟨⟨DD,hd,_,vX rel rv,q,es,ep,hq,h2,h3,h4,h5⟩,⟨q,hq⟩,fun _ _=>jY _ _⟩
theorem qU {kvs:List dQ}(I:Inv X pins σ H s)(e:zN X.prog X.w H a kvs):s.TypeIs (.ref a) "dict"/\∀ b,Value.ref a = .ref b->∃ ob,s.heap.get? b=some ob/\ob.dict=none:=by
 obtain⟨_,_,xs,_,dd⟩:=iO I.ze e
 refine⟨dd.typeIs,fun b q=>?_⟩
 cases q
 obtain⟨ob,_,_,h1,h2,_⟩:=dd
 exact⟨ob,h1,h2.2.1⟩
end
noncomputable def r9 (P:Program)(w:World):TE:=fun _ H Q=>∀ p,H p=none->Q (.ref p) (upd H p (j7 P w p []))
noncomputable def Rh (P:Program)(w:World)(ty td:TE):TE:=fun σ H Q=>ty σ H fun y H1=>td σ H1 fun x H2=>∃ a o,x = .ref a/\wl P w H2 a y o/\Q (.bl o.isSome) H2
noncomputable def K3 (P:Program)(w:World)(td ty tv:TE):TS:=fun D σ H=>tv σ H fun v H1=>td σ H1 fun x H2=>ty σ H2 fun y H3=>∃ a kvs k b,x = .ref a/\zN P w H3 a kvs/\y = .ref b/\H3 b=some (.tup (k.map rj))/\kvs.length < sizeLine/\D.nx σ (upd H3 a (j7 P w a (fA kvs k b v)))
noncomputable def xa (P:Program)(w:World)(td:TE)(t:TA):TE:=fun σ H Q=>td σ H fun x H1=>∃ a kvs,x = .ref a/\zN P w H1 a kvs/\t σ H1 fun xs H2=>∃ y z o,xs=[y,z]/\wl P w H2 a y o/\Q (o.getD z) H2
section
variable {X:Cx}{o i e f value:Expr}{pos pos' apos zK:Pos}{td ty tv tx:TE}
theorem pk:PE X (.Dict [] [] pos) (r9 X.prog X.w):=fun pins s σ H Q I h =>
 wpAny_Dict_empty ⟨.ref s.heap.objs.size,_,I.laid (a:=s.heap.objs.size) (o:=j7 X.prog X.w s.heap.objs.size []) (t':=s.toks) (fun _ _ q=>Heap.get?_push_of_some _ q) (le_refl _) (um (yM I)),rfl,h _ (I.ze.fresh (le_refl _))⟩
theorem xN (hu:X.A.units + 1 < cLine)(hi:PE X i ty)(ho:PE X o td):PC X .In i o (Rh X.prog X.w ty td):=by
 intro pins s σ H Q I h
 refine aT (hi pins s σ H _ I h) fun iv s1 ⟨y,H1,I1,ry,q1⟩=>aT (ho pins s1 σ H1 _ I1 q1) fun u s2 zo=>?_
 obtain⟨x,H2,I2,rx,a,ov,ex,g,q2⟩:=zo
 subst ex
 obtain rfl:u=Value.ref a:=rx
 exact Rg hu I2 g ry fun s3 I3=>⟨.bl ov.isSome,H2,I3,rfl,q2⟩
theorem ph (hu:X.A.units + 1 < cLine)(ho:PE X o td)(hi:PE X i ty)(hv:PE X value tv)(hs:swapsWith value (some (.Subscript o i pos')) pos.line X.env=pure false) :
  PS X (.Assign [.Subscript o i pos'] value pos) (K3 X.prog X.w td ty tv):=by
 intro pins s σ H D I h
 refine wpAny_Assign_Subscript (aT (hv pins s σ H _ I h) fun r s1 ⟨v,H1,I1,rv,q1⟩=>aT (ho pins s1 σ H1 _ I1 q1) fun u s2 ⟨x,H2,I2,rx,q2⟩=>aT (hi pins s2 σ H2 _ I2 q2) fun iv s3 ⟨y,H3,I3,ry,a,kvs,k,b,ex,e,ey,eb,hl,q3⟩=>?_) hs
 subst ex ey
 obtain rfl:u=Value.ref a:=rx
 obtain rfl:iv=Value.ref b:=ry
 exact K2 hu I3 e eb hl rv fun s4 I4=>⟨σ,_,I4,q3⟩
theorem lR {es:List Expr}{t:TA}(hu:X.A.units + 1 < cLine)(ho:PE X o td)(ha:PA X (e :: es) t)
  (h1:attributeBase o "get" X.env (eval o X.env)=eval o X.env:=by rfl)
  (h2:((backTo zK (starEach (e :: es) X.env)).all (fun x=>!x.1) && (backToKw zK (keywordEach [] X.env)).all (fun x=>x.1.isSome) && decide ((e :: es).length + ([]:List Keyword).length + (if ([]:List Keyword).isEmpty then 0 else 1) < 30))=true:=by rfl)
  (h3:(apos.endLine == zK.line)=true:=by rfl) (h4:starEach (e :: es) X.env=(false,eval e X.env) :: starEach es X.env:=by rfl) (h5:(backTo zK (starEach es X.env)).any (·.1)=false:=by rfl) :
  PE X (.Call (.Attribute o "get" apos) (e :: es) [] zK) (xa X.prog X.w td t):=by
 intro pins s σ H Q I h
 refine wpAny_Call_method_late h1 h2 h3 rfl (aT (ho pins s σ H _ I h) fun v s1 zo=>?_)
 obtain⟨x,H1,I1,r1,a,kvs,ex,e1,q1⟩:=zo
 subst ex
 obtain rfl:v=Value.ref a:=r1
 obtain⟨t1,t2⟩:=qU I1 e1
 refine⟨"dict", "dict.get",PySem.F.plainAttrs_dict,slot_dict_get,PySem.F.type_dict_get,t1,t2,?_⟩
 have hA:=ha zK pins s1 σ H1 _ I1 q1
 rw[h4]at hA ⊢
 refine Calls.callWith_builtin (by show(false || (backTo zK (starEach es X.env)).any (·.1))=false;rw[h5]<;>rfl) (Calls.evalArgs_plain ?_)
 refine aT hA fun us s2 zo=>?_
 obtain⟨vs,H2,I2,r2,y,z,ov,evs,g,q2⟩:=zo
 subst evs
 cases r2 with
 | cons ry r2=>cases r2 with
  | cons rz r2=>cases r2 with
   | nil=>exact yq hu I2 g ry rz fun w' s4 I4 Ce=>⟨_,H2,I4,Ce,q2⟩
end
end L2
namespace L2
open PySem PySem.Spec PyProof.Rows
structure u9 (K:Frag)(C:Addr)(m:Str)(f:Addr):Prop where
 reads:PySem.W.readsIn K C (.type "type")=true
 found:PySem.W.findCls K (.ref C) (.type "type") m=some (.val (.ref f))
 spec:PySem.W.specialIn K (.ref C) "__getattribute__" = some (some (.builtin "type.__getattribute__"))
 kp:keepIn K (.ref f)=true
noncomputable def xf (C:Addr)(sp:Sp)(zJ:List V)(E:XK)(ta:TE)(t:TA):TE:=fun σ H Q=>ta σ H fun x H1=>x = .ref C/\t σ H1 fun vs H2=>sp (vs ++ zJ) H2 Q E
section
variable {X:Cx}{CX:oH}{k:Nat}{f C:Addr}{fd:FuncData}{ps:List Str}{sp:Sp}{zJ:List V}{ds:List Value}{E:XK}{x m:Str}{p pos apos:Pos}{e o:Expr}{es:List Expr}{ta:TE}{t:TA}
theorem lS {pl:Sem Bool}(he:PE X o ta)(hm:u9 X.K C m f)(F:yX X.prog X.w X.K X.mg X.base CX k f fd ps sp)(hr:zi k X.A)(hb:Binds X.K fd ps ds)(hd:Vals zJ ds)(hx:dP CX X E)(ha:PA X (e :: es) t)
  (h1:starEach (e :: es) X.env=(false,eval e X.env) :: starEach es X.env:=by rfl) (h2:(backTo pos (starEach es X.env)).any (·.1)=false:=by rfl)
  (ht:eval (.Call (.Attribute o m apos) (e :: es) [] pos) X.env=(do
   let ov ← eval o X.env
   standAt apos.atName
   let (f,first) ← holding [ov] (getMethod ov m pl)
   callWith pos f first (backTo pos (starEach (e :: es) X.env)) (backToKw pos (keywordEach [] X.env))):=by rfl) :
  PE X (.Call (.Attribute o m apos) (e :: es) [] pos) (xf C sp zJ E ta t):=by
 intro pins s σ H Q I h
 refine PySem.W.methodCall_KW (pl:=pl) (aT (he pins s σ H _ I h) fun u s1 zo=>?_) ht
 obtain⟨x,H1,I1,rx,ex,q⟩:=zo
 subst ex
 obtain rfl:u=Value.ref C:=rx
 refine PySem.W.method_cls I1.Ac hm.spec (PySem.W.cls_value I1.Ac hm.reads hm.found rfl ?_)
 refine PySem.W.callWith_K (first:=[]) (h₀:=X.base) I.ok.mod.D9 hm.kp (aT (ha pos pins _ σ H1 _ (I1.tok _) q) fun us s2 ⟨vs,H2,I2,r,q2⟩=>⟨I2.Ac,?_⟩) h1 h2
 exact kK F hr hb hd hx I2 r q2
end
section
variable {X:Cx}
end
end L2
namespace L2
open PySem PySem.Spec PyProof.Rows
section
variable {X:Cx}{tg:Expr}
noncomputable def Ri:V->List V->Hp->VK->Prop:=fun x vs H Q=>∃ (l:Addr)(ns:List Int)(k:Int),x = .ref l/\vs=[.int k]/\H l=some (.lst (ns.map V.int))/\k ∈ ns/\ns.length <= 100000/\Q (.int (ns.idxOf k:Nat)) H
theorem qH:Oz X "list.index" Ri:=by
 intro pins s σ H x vs v us Q I rx rv h
 obtain⟨l,ns,k,rfl,rfl,hH,hk,hlen,q⟩:=h
 cases rx
 obtain⟨u,rfl,ru⟩:=rv.one
 obtain⟨t,rfl⟩:=ru
 obtain⟨z,za,n,r,hl,e⟩:=I.C6 hH
 have hi:IntsAre za.toArray.toList ns:=ow r
 have Co:za.length=ns.length:=by rw[← r.length,length_map]
 have hj:ns.idxOf k < ns.length:=List.idxOf_lt_length_of_mem hk
 have at_:∀ m (hm:m < za.toArray.size),∃ t,za.toArray[m]=Value.int (ns[m]'(by simpa [Co] using hm)) t:=fun m hm=>by
  have Ez:m < za.length:=by simpa using hm
  have hv:(ns.map V.int)[m]? = some (V.int (ns[m]'(by omega))):=by simp[show m < ns.length by omega]
  obtain⟨w',hw,Ce⟩:=r.get hv
  obtain⟨t',rfl⟩:=Ce
  refine⟨t',?_⟩
  have:za[m]? = some za[m]:=List.getElem?_eq_getElem Ez
  rw[this]at hw
  simpa using Option.some.inj hw
 let e':Value->Bool:=fun y=>Value.isInt k y
 refine call_meets PySem.F.slot_list_index ⟨_,e,rfl⟩ PySem.F.entry_list_index (PySem.F.args_list_index_2 _ _)
  (SeqAt.list_indexAt l za.toArray n none #[] (.int k t) e' (ns.idxOf k) (by simpa [Co] using hj) (by omega) ?_ ?_) ⟨e,fun y hy=>?_,?_⟩
 ·obtain⟨t',et⟩:=at_ (ns.idxOf k) (by simpa [Co] using hj)
  show Value.isInt k (za.toArray[ns.idxOf k]'(by simpa [Co] using hj))=true
  rw[et,List.getElem_idxOf]
  simp[Value.isInt]
 ·intro m hm hmj
  obtain⟨t',et⟩:=at_ m hm
  show Value.isInt k za.toArray[m]=false
  rw[et]
  have Bx:ns[m]'(by simpa [Co] using hm) ≠ k:=fun z=>by
   have:=List.not_of_lt_findIdx (p:=fun x=>x == k) (xs:=ns) (i:=m) hmj
   rw[z]at this
   simp at this
  simp only[Value.isInt,beq_eq_false_iff_ne,ne_eq]
  first | exact Bx | exact fun z=>Bx z.symm
 ·have hm:y ∈ za:=by simpa using hy
  obtain⟨m,Ez,em⟩:=List.getElem_of_mem hm
  obtain⟨t',et⟩:=at_ m (by simpa using Ez)
  have ey:y=Value.int (ns[m]'(by omega)) t':=by rw[← em];simpa using et
  subst ey
  intro prog w E Q' hQ'
  refine wpAny_eqBool_int ?_
  have:(ns[m]'(by omega) == k)=Value.isInt k (Value.int (ns[m]'(by omega)) t'):=by simp[Value.isInt,Bool.beq_comm]
  rw[this]
  exact hQ'
 ·exact⟨.int (ns.idxOf k:Nat),H,I.tok _,⟨_,rfl⟩,q⟩
noncomputable def K4 (K:Frag):List V->Hp->VK->Prop:=fun xs H Q=>∃ (v:V)(t:Value)(c:String)(b:Bool),xs=[v, .ty c]/\i6 K H v t/\kitOne K t (.type c)=some b/\Q (.bl b) H
theorem fO:fP X (.builtin "isinstance") (K4 X.K):=by
 intro pins s σ H xs us Q I r h
 obtain⟨v,t,c,b,rfl,ty,hk,q⟩:=h
 cases r with
 | cons r1 r2=>cases r2 with
  | cons r2 r3 =>
   cases r3
   cases r2
   exact qN I r1 ty hk fun tk=>⟨.bl b,H,I.tok _,rfl,q⟩
end
end L2
namespace L2
open PySem PySem.Spec PyProof.Rows
section
variable {κ:Type} [DecidableEq κ]
noncomputable def gE (kvs:List (κ × V))(k:κ):Option V:=(kvs.find? fun kv=>decide (kv.1=k)).map (·.2)
noncomputable def c7 (kvs:List (κ × V))(k:κ)(v:V):List (κ × V) :=
 if (kvs.any fun kv=>decide (kv.1=k))=true then kvs.map (fun kv=>if kv.1=k then (kv.1,v) else kv) else kvs ++ [(k,v)]
theorem iT {p:κ × V}{r:List (κ × V)}{k:κ}(e:p.1=k):gE (p :: r) k=some p.2:=by simp[gE,List.find?_cons,e]
theorem iU {p:κ × V}{r:List (κ × V)}{k:κ}(e:¬ p.1=k):gE (p :: r) k=gE r k:=by simp[gE,List.find?_cons,e]
theorem iV (k:κ):∀ kvs:List (κ × V),(kvs.any fun kv=>decide (kv.1=k))=(gE kvs k).isSome
 | []=>rfl
 | p :: r=>by
  rw[any_cons]
  by_cases e:p.1=k
  ·simp only[iT e,decide_eq_true e,Bool.true_or,Option.isSome_some]
  ·rw[iU e,decide_eq_false e,Bool.false_or];exact iV k r
theorem fJ (kvs:List (κ × V))(k:κ)(v:V):(c7 kvs k v).length <= kvs.length + 1:=by
 unfold c7
 split
 ·rw[length_map];omega
 ·rw[length_append,length_cons,length_nil];omega
theorem sR {kvs:List (κ × V)}{k:κ}(v:V)(h:gE kvs k=none):c7 kvs k v=kvs ++ [(k,v)]:=by
 unfold c7
 rw[iV,h]
 exact if_neg (by decide)
theorem zQ.AN {o:Option V}{u:Option Value}(r:zQ o u):o.isSome=u.isSome:=by
 cases o with
 | none=>cases u with
  | none=>rfl
  | some _=>exact(show False from r).elim
 | some _=>cases u with
  | none=>exact(show False from r).elim
  | some _=>rfl
theorem zQ.getD {o:Option V}{u:Option Value}{d:V}{d':Value}(r:zQ o u)(rd:RelV d d'):RelV (o.getD d) (u.getD d'):=by
 cases o with
 | none=>cases u with
  | none=>exact rd
  | some _=>exact(show False from r).elim
 | some _=>cases u with
  | none=>exact(show False from r).elim
  | some _=>exact r
theorem KV.val {kvs:List (κ × V)}{vs:List (κ × Value)}(r:KV kvs vs)(k:κ):zQ (gE kvs k) (valueAt vs k):=by
 unfold KV at r
 induction r with
 | nil=>exact True.intro
 | @cons p q ps qs h t ih =>
  obtain⟨h1,h2⟩:=h
  by_cases e:p.1=k
  ·have e':q.1=k:=h1.symm.trans e
   have b:valueAt (q :: qs) k=some q.2:=by simp[valueAt,List.find?_cons,e']
   rw[iT e,b];exact h2
  ·have e':¬ q.1=k:=fun z=>e (h1.trans z)
   have b:valueAt (q :: qs) k=valueAt qs k:=by simp[valueAt,List.find?_cons,e']
   rw[iU e,b];exact ih
theorem KV.any {kvs:List (κ × V)}{vs:List (κ × Value)}(r:KV kvs vs)(k:κ):(kvs.any fun kv=>decide (kv.1=k))=vs.any fun kv=>decide (kv.1=k):=by
 unfold KV at r
 induction r with
 | nil=>rfl
 | cons h t ih=>rw[any_cons,any_cons,ih,h.1]
theorem KV.Hw {kvs:List (κ × V)}{vs:List (κ × Value)}(r:KV kvs vs)(k:κ){y:V}{u:Value}(ry:RelV y u) :
  KV (kvs.map fun kv=>if kv.1=k then (kv.1,y) else kv) (vs.map fun kv=>if kv.1=k then (kv.1,u) else kv):=by
 unfold KV at r ⊢
 induction r with
 | nil=>exact .nil
 | @cons p q ps qs h t ih =>
  rw[map_cons,map_cons]
  refine .cons ?_ ih
  obtain⟨h1,h2⟩:=h
  by_cases e:p.1=k
  ·rw[if_pos e,if_pos (h1.symm.trans e)];exact⟨h1,ry⟩
  ·rw[if_neg e,if_neg (fun z=>e (h1.trans z))];exact⟨h1,h2⟩
theorem KV.put {kvs:List (κ × V)}{vs:List (κ × Value)}(r:KV kvs vs)(k:κ){y:V}{u:Value}(ry:RelV y u):KV (c7 kvs k y) (stored vs k u):=by
 unfold c7 stored
 rw[r.any k]
 by_cases e:(vs.any fun kv=>decide (kv.1=k))=true
 ·rw[if_pos e,if_pos e];exact r.Hw k ry
 ·rw[if_neg e,if_neg e];exact Paired.snoc r ⟨rfl,ry⟩
theorem KV.keys {kvs:List (κ × V)}{vs:List (κ × Value)}(r:KV kvs vs):kvs.map (·.1)=vs.map (·.1):=by
 unfold KV at r
 induction r with
 | nil=>rfl
 | cons h t ih=>rw[map_cons,map_cons,ih,h.1]
theorem KV.length {kvs:List (κ × V)}{vs:List (κ × Value)}(r:KV kvs vs):kvs.length=vs.length:=Paired.length r
end
theorem jR {P:Program}{w:World}{k:ca}{u:Value}(r:RelV (kV k) u):(aU P w).is k u=true:=by
 cases k with
 | inl i=>obtain⟨t,e⟩:=(show ∃ t,u=Value.int i t from r);subst e;exact mz P w i t
 | inr x=>obtain⟨t,e⟩:=(show ∃ t,u=Value.str x t from r);subst e;exact mj P w x t
theorem jS {P:Program}{w:World}:∀ {ks:List ca}{us:List Value},Vals (ks.map kV) us->ItemsAre (aU P w) ks us
 | [],_,r=>by rw[map_nil]at r;cases r;exact .nil
 | k :: ks,_,r=>by
  rw[map_cons]at r
  cases r with
  | cons h t=>exact .cons (jR h) (jS t)
noncomputable abbrev KT (H:Hp):List (List ca × V)->List (List ca × Addr × Value)->Prop:=Paired fun p q=>p.1=q.1/\H q.2.1=some (.tup (p.1.map kV))/\RelV p.2 q.2.2
theorem KT.val {H:Hp}{kvs:List (List ca × V)}{xs:List (List ca × Addr × Value)}(r:KT H kvs xs)(k:List ca):zQ (gE kvs k) ((atKey xs k).map (·.2)):=by
 induction r with
 | nil=>exact True.intro
 | @cons p q ps qs h t ih =>
  obtain⟨h1,_,h2⟩:=h
  by_cases e:p.1=k
  ·have e':q.1=k:=h1.symm.trans e
   have b:atKey (q :: qs) k=some q.2:=by simp[atKey,List.find?_cons,e']
   rw[iT e,b];exact h2
  ·have e':¬ q.1=k:=fun z=>e (h1.trans z)
   have b:atKey (q :: qs) k=atKey qs k:=by simp[atKey,List.find?_cons,e']
   rw[iU e,b];exact ih
theorem KT.Hw {H:Hp}{kvs:List (List ca × V)}{xs:List (List ca × Addr × Value)}(r:KT H kvs xs)(k:List ca){y:V}{u:Value}(ry:RelV y u) :
  KT H (kvs.map fun kv=>if kv.1=k then (kv.1,y) else kv) (xs.map (putAt k u)):=by
 induction r with
 | nil=>exact .nil
 | @cons p q ps qs h t ih =>
  rw[map_cons,map_cons]
  refine .cons ?_ ih
  obtain⟨h1,h2,h3⟩:=h
  unfold putAt
  by_cases e:p.1=k
  ·rw[if_pos e,if_pos (h1.symm.trans e)];exact⟨h1,h2,ry⟩
  ·rw[if_neg e,if_neg (fun z=>e (h1.trans z))];exact⟨h1,h2,h3⟩
theorem KT.put {H:Hp}{kvs:List (List ca × V)}{xs:List (List ca × Addr × Value)}(r:KT H kvs xs)(k:List ca){b:Addr}{y:V}{u:Value}(hb:H b=some (.tup (k.map kV)))(ry:RelV y u) :
  KT H (c7 kvs k y) (storedH xs k b u):=by
 have e:(kvs.any fun kv=>decide (kv.1=k))=(atKey xs k).isSome:=by
  rw[iV,(r.val k).AN,Option.isSome_map]
 unfold c7 storedH
 rw[e]
 by_cases q:(atKey xs k).isSome=true
 ·rw[if_pos q,if_pos q];exact r.Hw k ry
 ·rw[if_neg q,if_neg q];exact Paired.snoc r ⟨rfl,hb,ry⟩
theorem KT.keeps {H H':Hp}{kvs:List (List ca × V)}{xs:List (List ca × Addr × Value)}(r:KT H kvs xs)(ht:∀ b ys,H b=some (.tup ys)->H' b=some (.tup ys)):KT H' kvs xs :=
 Paired.GH r fun _ _ z=>⟨z.1,ht _ _ z.2.1,z.2.2⟩
section
variable {P:Program}{w:World}{H:Hp}{h:Heap}{a:Addr}
theorem wF {u:HO}(ok:Ad P w H h)(e:Rd H a u):zq P w H h a u:=e.ok ok
theorem jX {kvs:List (ca × V)}(ok:Ad P w H h)(e:Rd H a (.dK kvs)):kvs.length <= sizeLine/\(a == sysModules)=false/\∃ vs,KV kvs vs/\h.DictOf (aU P w) a vs :=
 show zq P w H h a (.dK kvs) from wF ok e
theorem uj {kvs:List (ca × V)}(ok:Ad P w H h)(e:H a=some (.dK kvs)):kvs.length <= sizeLine/\(a == sysModules)=false/\∃ vs,KV kvs vs/\h.DictOf (aU P w) a vs:=jX ok (.inl e)
theorem jr {ks:List ca}(ok:Ad P w H h)(e:H a=some (.tup (ks.map kV))):(tupleKind (aU P w)).is h ks a:=by
 obtain⟨_,za,r,o,h1,⟨h2,n,h3⟩,_⟩:=(show zq P w H h a (.tup (ks.map kV)) from ok a _ e)
 exact⟨o,za.toArray,n,h1,h2,h3,by simpa using jS r⟩
theorem jW {kvs:List (List ca × V)}(ok:Ad P w H h)(e:Rd H a (.dT kvs)):kvs.length <= sizeLine/\(a == sysModules)=false /\
  ∃ xs,KT H kvs xs/\h.DictOfH (tupleKind (aU P w)) a xs:=by
 obtain⟨z,y,xs,r,o,es,ep,h1,h2,h3,h4,h5⟩:=(show zq P w H h a (.dT kvs) from wF ok e)
 refine⟨z,y,xs,r,o,es,ep,h1,h2,h3,h4,fun x hx=>?_,h5⟩
 have all:∀ {l:List (List ca × V)}{m:List (List ca × Addr × Value)},KT H l m->∀ x ∈ m,(tupleKind (aU P w)).is h x.1 x.2.1:=by
  intro l m q
  induction q with
  | nil=>intro x hx;exact nomatch hx
  | @cons p q ps qs hq t ih =>
   intro x hx
   rcases mem_cons.mp hx with e | hx
   ·subst e
    exact jr ok (by rw[← hq.1];exact hq.2.1)
   ·exact ih x hx
 exact all r x hx
theorem K5 {kvs:List (List ca × V)}(ok:Ad P w H h)(e:H a=some (.dT kvs)):kvs.length <= sizeLine/\(a == sysModules)=false /\
  ∃ xs,KT H kvs xs/\h.DictOfH (tupleKind (aU P w)) a xs:=jW ok (.inl e)
end
noncomputable def Bd (H:Hp)(a:Addr)(y:V)(r:Option V):Prop :=
 (∃ kvs k,Rd H a (.dK kvs)/\y=kV k/\r=gE kvs k)∨∃ kvs k b,Rd H a (.dT kvs)/\y = .ref b/\H b=some (.tup (k.map kV))/\r=gE kvs k
noncomputable def DY (H:Hp)(a:Addr)(y v:V)(H':Hp):Prop :=
 (∃ kvs k,H a=some (.dK kvs)/\y=kV k/\kvs.length < sizeLine/\H' = upd H a (.dK (c7 kvs k v))) ∨
 ∃ kvs k b,H a=some (.dT kvs)/\y = .ref b/\H b=some (.tup (k.map kV))/\kvs.length < sizeLine/\H' = upd H a (.dT (c7 kvs k v))
theorem Bd.k {H:Hp}{a:Addr}{kvs:List (ca × V)}{k:ca}(e:H a=some (.dK kvs)):Bd H a (kV k) (gE kvs k) := .inl ⟨kvs,k, .inl e,rfl,rfl⟩
theorem DY.k {H:Hp}{a:Addr}{kvs:List (ca × V)}{k:ca}{v:V}(e:H a=some (.dK kvs))(hl:kvs.length < sizeLine):DY H a (kV k) v (upd H a (.dK (c7 kvs k v))) := .inl ⟨kvs,k,e,rfl,hl,rfl⟩
section
variable {X:Cx}{pins:List (Addr × Obj)}{σ:St}{H:Hp}{s:Shared}{a:Addr}{y v:V}{u r:Value}{o:Option V}{A:Around}{E:Value->Shared->Prop}
theorem Inv.big (I:Inv X pins σ H s):sysModules < s.heap.objs.size:=by
 have h:mainGlobals < s.heap.objs.size:=(I.mod.glob.keeps I.bk).lt
 exact lt_trans (by decide) h
theorem qW {Q:Value->Shared->Prop}(hu:A.units + 1 < cLine)(I:Inv X pins σ H s)(g:Bd H a y (some v))(ry:RelV y u)(h:∀ w' s',Inv X pins σ H s'->RelV v w'->Q w' s') :
  wpAny (model X.prog X.w) A (getItem (.ref a) u) Q E s:=by
 rcases g with ⟨kvs,k,e,ey,l⟩ | ⟨kvs,k,b,e,ey,eb,l⟩
 ·subst ey
  obtain⟨z,hd,vs,rel,dd⟩:=jX I.ze e
  obtain⟨w',hw,Ce⟩:=zQ.some_of (v:=v) (o:=valueAt vs k) (by rw[l];exact rel.val k)
  exact wpAny_getItem_of (jR ry) dd.mapOf hw (h w' _ (I.tok _) Ce)
 ·subst ey
  cases (show u=Value.ref b from ry)
  obtain⟨z,hd,xs,rel,dd⟩:=jW I.ze e
  obtain⟨w',hw,Ce⟩:=zQ.some_of (v:=v) (o:=(atKey xs k).map (·.2)) (by rw[l];exact rel.val k)
  obtain⟨p,hp,K6⟩:=Option.map_eq_some_iff.mp hw
  refine wpAny_getItem_heap (tupleKind_room_in1 hu) (jr I.ze eb) dd hp ?_
  rw[K6]
  exact h w' _ (I.tok _) Ce
theorem wb {Q:Value->Shared->Prop}(hu:A.units + 1 < cLine)(I:Inv X pins σ H s)(g:Bd H a y o)(ry:RelV y u)(h:∀ s',Inv X pins σ H s'->Q (.bool (!o.isSome)) s') :
  wpAny (model X.prog X.w) A (compareOp .NotIn u (.ref a)) Q E s:=by
 rcases g with ⟨kvs,k,e,ey,l⟩ | ⟨kvs,k,b,e,ey,eb,l⟩
 ·subst ey
  obtain⟨z,hd,vs,rel,dd⟩:=jX I.ze e
  refine wpAny_notIn_of (jR ry) hd dd.mapOf ?_
  rw[← (rel.val k).AN,← l]
  exact h _ (I.tok _)
 ·subst ey
  cases (show u=Value.ref b from ry)
  obtain⟨z,hd,xs,rel,dd⟩:=jW I.ze e
  refine wpAny_notIn_heap (tupleKind_room_in1 hu) (jr I.ze eb) hd dd ?_
  have q:=(rel.val k).AN
  rw[Option.isSome_map]at q
  rw[← q,← l]
  exact h _ (I.tok _)
theorem lp {h':Heap}{t':Nat}{ob:HO}(I:Inv X pins σ H s)(mu:J6 (H a))(hs:Heap.SameBut a s.heap h')(he:∃ q,h'.get? a=some q)(new:zq X.prog X.w (upd H a ob) h' a ob) :
  Inv X pins σ (upd H a ob) { s with heap:=h',toks:=t' } :=
 I.write (x:=a) (e:=a) mu (.inl rfl) (fun b q hb z=>(hs.2 b hb).trans z) he new
theorem uk {P:Program}{w:World}{H':Hp}{h':Heap}{kvs:List (ca × V)}{vs:List (ca × Value)}(z:kvs.length <= sizeLine)(hd:(a == sysModules)=false)(rel:KV kvs vs)(dd:h'.DictOf (aU P w) a vs) :
  zq P w H' h' a (.dK kvs):=⟨z,hd,vs,rel,dd⟩
theorem qV {H':Hp}{Q:Unit->Shared->Prop}(hu:A.units + 1 < cLine)(I:Inv X pins σ H s)(g:DY H a y v H')(ry:RelV y u)(rv:RelV v r)(h:∀ s',Inv X pins σ H' s'->Q () s') :
  wpAny (model X.prog X.w) A (setItem (.ref a) u r) Q E s:=by
 rcases g with ⟨kvs,k,e,ey,l,eH⟩ | ⟨kvs,k,b,e,ey,eb,l,eH⟩
 ·subst ey eH
  obtain⟨z,hd,vs,rel,dd⟩:=uj I.ze e
  have hz:vs.length <= sizeLine:=by rw[← rel.length];exact z
  have hl:(c7 kvs k v).length <= sizeLine:=by have:=fJ kvs k v;omega
  refine wpAny_setItem_pairs (hsz:=hz) (jR ry) dd fun h' EI hs=>h _ ?_
  have he:∃ q,h'.get? a=some q:=let ⟨q,_,_,hq,_⟩:=EI; ⟨q,hq⟩
  exact lp I (by rw[e];exact True.intro) hs he (uk hl hd (rel.put k rv) EI)
 ·subst ey eH
  cases (show u=Value.ref b from ry)
  obtain⟨z,hd,xs,rel,dd⟩:=K5 I.ze e
  have hz:xs.length <= sizeLine:=by rw[← Paired.length rel];exact z
  have hl:(c7 kvs k v).length <= sizeLine:=by have:=fJ kvs k v;omega
  refine wpAny_setItem_heap (hsz:=hz) (tupleKind_room_in1 hu) (jr I.ze eb) dd fun h' EI hs=>h _ ?_
  obtain⟨q,es,ep,hq,h2,h3,h4,_,h5⟩:=EI
  refine lp I (by rw[e];exact True.intro) hs ⟨q,hq⟩ ⟨hl,hd,_,(rel.put k eb rv).keeps fun c ys ec=>?_,q,es,ep,hq,h2,h3,h4,h5⟩
  rw[ae (aZ ec e (fun z=>nomatch z))]
  exact ec
end
section
variable {X:Cx}{pins:List (Addr × Obj)}{σ:St}{H:Hp}{s:Shared}{a:Addr}{kvs:List (ca × V)}{k:ca}{u:Value}{A:Around}{E:Value->Shared->Prop}
end
noncomputable def K7 (i:Expr):Prop:=∀ ov iv,subscripted i false ov iv=operate [ov,iv] (getItem ov iv)
theorem uG {prog:Program}{w:World}{A:Around}{E:Value->Shared->Prop}{s:Shared}{env:Env}{value slice:Expr}{pos:Pos}{T id:String}{Q:Value->Shared->Prop}
  (hl:typeLookup (.type T) "__getitem__" = pure (some (.builtin id))) (hs:K7 slice)
  (h:wpAny (model prog w) A (eval value env) (fun o s₁=>wpAny (model prog w) A (eval slice env) (fun i s₂=>s₂.TypeIs o T/\wpAny (model prog w) A (getItem o i) Q E s₂) E s₁) E s) :
  wpAny (model prog w) A (eval (.Subscript value slice pos) env) Q E s:=by
 refine Subscript_ (wpAny_mono h (fun o s₁ h₁=>wpAny_mono h₁ (fun i s₂ h₂=>?_) fun _ _ x=>x) fun _ _ x=>x)
 obtain⟨hT,h₂⟩:=h₂
 unfold subscriptTail
 refine wpAny_bind ?_
 rw[getitemInPython_of_ne hT.not_modules]
 refine wpAny_bind (wpAny_specialOf hT hl ?_)
 have fin:wpAny (model prog w) A (subscripted slice false o i) (fun r s₃=>wpAny (model prog w) A (letTemporaryGo value o r >>= fun _=>pure r) Q E s₃) E s₂:=by
  rw[hs o i]
  exact wpAny_operating (wpAny_mono h₂ (fun r s₃ h₃=>wpAny_bind (wpAny_letTemporaryGo (wpAny_pure h₃))) fun _ _ x=>x)
 first
  | exact wpAny_pure (wpAny_bind fin)
  | exact wpAny_bind (wpAny_pure (wpAny_bind fin))
  | exact wpAny_bind fin
theorem mG {X:Cx}{pins:List (Addr × Obj)}{σ:St}{H:Hp}{s:Shared}{a:Addr}{y:V}{o:Option V}(I:Inv X pins σ H s)(g:Bd H a y o):s.TypeIs (.ref a) "dict":=by
 rcases g with ⟨kvs,k,e,_,_⟩ | ⟨kvs,k,b,e,_,_,_⟩
 ·obtain⟨_,_,vs,_,dd⟩:=jX I.ze e
  exact dd.typeIs
 ·obtain⟨_,_,xs,_,dd⟩:=jW I.ze e
  exact dd.typeIs
noncomputable def K8 (td ty:TE):TE:=fun σ H Q=>td σ H fun x H1=>ty σ H1 fun y H2=>∃ a v,x = .ref a/\Bd H2 a y (some v)/\Q v H2
noncomputable def uF (ty td:TE):TE:=fun σ H Q=>ty σ H fun y H1=>td σ H1 fun x H2=>∃ a o,x = .ref a/\Bd H2 a y o/\Q (.bl (!o.isSome)) H2
noncomputable def KA (td ty tv:TE):TS:=fun D σ H=>tv σ H fun v H1=>td σ H1 fun x H2=>ty σ H2 fun y H3=>∃ a H4,x = .ref a/\DY H3 a y v H4/\D.nx σ H4
section
variable {X:Cx}{o i e value:Expr}{pos pos' Dt:Pos}{td ty tv:TE}
theorem py (hu:X.A.units + 1 < cLine)(ho:PE X o td)(hi:PE X i ty)(hs:K7 i):PE X (.Subscript o i pos) (K8 td ty):=by
 intro pins s σ H Q I h
 refine uG PySem.F.slot_dict_getitem.lookup hs (aT (ho pins s σ H _ I h) fun u s1 ⟨x,H1,I1,rx,q1⟩=>aT (hi pins s1 σ H1 _ I1 q1) fun iv s2 zo=>?_)
 obtain⟨y,H2,I2,ry,a,v,ex,g,q2⟩:=zo
 subst ex
 obtain rfl:u=Value.ref a:=rx
 exact⟨mG I2 g,qW hu I2 g ry fun w' s3 I3 Ce=>⟨v,H2,I3,Ce,q2⟩⟩
theorem qr (hu:X.A.units + 1 < cLine)(hi:PE X i ty)(ho:PE X o td):PC X .NotIn i o (uF ty td):=by
 intro pins s σ H Q I h
 refine aT (hi pins s σ H _ I h) fun iv s1 ⟨y,H1,I1,ry,q1⟩=>aT (ho pins s1 σ H1 _ I1 q1) fun u s2 zo=>?_
 obtain⟨x,H2,I2,rx,a,ov,ex,g,q2⟩:=zo
 subst ex
 obtain rfl:u=Value.ref a:=rx
 exact wb hu I2 g ry fun s3 I3=>⟨.bl (!ov.isSome),H2,I3,rfl,q2⟩
theorem uX (hu:X.A.units + 1 < cLine)(ho:PE X o td)(hi:PE X i ty)(hv:PE X value tv)(hs:swapsWith value (some (.Subscript o i pos')) pos.line X.env=pure false) :
  PS X (.Assign [.Subscript o i pos'] value pos) (KA td ty tv):=by
 intro pins s σ H D I h
 refine wpAny_Assign_Subscript (aT (hv pins s σ H _ I h) fun r s1 ⟨v,H1,I1,rv,q1⟩=>aT (ho pins s1 σ H1 _ I1 q1) fun u s2 ⟨x,H2,I2,rx,q2⟩=>aT (hi pins s2 σ H2 _ I2 q2) fun iv s3 ⟨y,H3,I3,ry,a,H4,ex,g,q3⟩=>?_) hs
 subst ex
 obtain rfl:u=Value.ref a:=rx
 exact qV hu I3 g ry rv fun s4 I4=>⟨σ,H4,I4,q3⟩
end
theorem ul {P:Program}{w:World}{H:Hp}(h:Heap)(hb:sysModules < h.objs.size):zq P w H (h.push { cls := .type "dict",data := .dict #[] }) h.objs.size (.dK []) :=
 ⟨zero_le _,beq_eq_false_iff_ne.mpr (Ne.symm (ne_of_lt hb)),[], .nil,Heap.DictOf.new h⟩
section
variable {X:Cx}{pos:Pos}
end
noncomputable def nq:List (TE × TE)->St->Hp->(List (V × V)->Hp->Prop)->Prop
 | [],_,H,Q=>Q [] H
 | (tk,tv) :: r,σ,H,Q=>tk σ H fun x H1=>tv σ H1 fun y H2=>nq r σ H2 fun ps H3=>Q ((x,y) :: ps) H3
noncomputable abbrev VV:List (V × V)->List (Value × Value)->Prop:=Paired fun p q=>RelV p.1 q.1/\RelV p.2 q.2
noncomputable def O8 (X:Cx)(pos:Pos)(keys:List (Option Expr))(values:List Expr)(EJ:List (TE × TE)):Prop :=
 ∀ (pins:List (Addr × Obj))(s:Shared)(σ:St)(H:Hp)(Q:List (V × V)->Hp->Prop),Inv X pins σ H s->nq EJ σ H Q ->
  wpAny (model X.prog X.w) X.A (evalPairs (pairTrees keys values X.env pos)) (fun vs s'=>∃ ps H',Inv X pins σ H' s'/\VV ps vs/\Q ps H') X.xe s
theorem uY {X:Cx}{pos:Pos}:O8 X pos [] [] []:=fun pins s σ H Q I h=>pairTrees_nil_walk ⟨[],H,I, .nil,h⟩
theorem sX {X:Cx}{pos:Pos}{k v:Expr}{ks:List (Option Expr)}{vs:List Expr}{tk tv:TE}{EJ:List (TE × TE)}(hk:PE X k tk)(hv:PE X v tv)(hr:O8 X pos ks vs EJ) :
  O8 X pos (some k :: ks) (v :: vs) ((tk,tv) :: EJ):=fun pins s σ H Q I h =>
 pairTrees_cons_walk (aT (hk pins s σ H _ I h) fun u s1 ⟨x,H1,I1,rx,q1⟩=>aT (hv pins s1 σ H1 _ I1 q1) fun w2 s2 ⟨y,H2,I2,ry,q2⟩ =>
  aT (hr pins s2 σ H2 _ I2 q2) fun ws s3 ⟨ps,H3,I3,rel,q3⟩=>⟨(x,y) :: ps,H3,I3, .cons ⟨rx,ry⟩ rel,q3⟩)
noncomputable def fE (kvs more:List (ca × V)):List (ca × V):=more.foldl (fun acc kv=>c7 acc kv.1 kv.2) kvs
theorem KV.merge:∀ {more:List (ca × V)}{rs:List (ca × Value)}{kvs:List (ca × V)}{vs:List (ca × Value)},KV more rs->KV kvs vs->KV (fE kvs more) (merged vs rs):=by
 intro more rs kvs vs r
 unfold KV at r
 induction r generalizing kvs vs with
 | nil=>intro q;exact q
 | @cons p q ps qs h t ih =>
  intro r0
  have e:KV (c7 kvs p.1 p.2) (stored vs q.1 q.2):=by
   have:=r0.put p.1 h.2
   rw[← h.1];exact this
  exact ih e
theorem gc:∀ (more kvs:List (ca × V)),(fE kvs more).length <= kvs.length + more.length
 | [],kvs=>by show kvs.length <= kvs.length + 0;omega
 | p :: r,kvs=>by
  have h1:=gc r (c7 kvs p.1 p.2)
  have h2:=fJ kvs p.1 p.2
  show(fE (c7 kvs p.1 p.2) r).length <= _
  rw[length_cons];omega
theorem j3 {P:Program}{w:World}:∀ {kvs:List (ca × V)}{ws:List (Value × Value)},VV (kvs.map fun kv=>(kV kv.1,kv.2)) ws->∃ rs,Carries (aU P w) ws rs/\KV kvs rs
 | [],_,r=>by rw[map_nil]at r;cases r;exact⟨[],True.intro, .nil⟩
 | p :: kvs,_,r=>by
  rw[map_cons]at r
  cases r with
  | @cons a b as bs h t =>
   obtain⟨rs,c,q⟩:=j3 (P:=P) (w:=w) t
   obtain⟨b1,b2⟩:=b
   exact⟨(p.1,b2) :: rs,⟨jR h.1,rfl,c⟩, .cons ⟨rfl,h.2⟩ q⟩
noncomputable def KC (EJ:List (TE × TE)):TE:=fun σ H Q=>∀ p,H p=none->nq EJ σ (upd H p (.dK [])) fun ps H2=>H2 p=some (.dK [])/\∃ kvs:List (ca × V),ps=kvs.map (fun kv=>(kV kv.1,kv.2))/\kvs.length <= 15/\Q (.ref p) (upd H2 p (.dK (fE [] kvs)))
theorem va {X:Cx}{pos:Pos}{keys:List (Option Expr)}{values:List Expr}{EJ:List (TE × TE)}(h:O8 X pos keys values EJ)(Ax:keys.all (·.isSome)=true)(hl:keys.length=values.length)(h0:keys ≠ [])
  (h15:keys.length <= 15):PE X (.Dict keys values pos) (KC EJ):=by
 intro pins s σ H Q I q
 have hn:=I.ze.fresh (le_refl s.heap.objs.size)
 have I1:=I.laid (a:=s.heap.objs.size) (o := .dK []) (h':=s.heap.push { cls := .type "dict",data := .dict #[] }) (t':=s.toks) (fun _ _ q=>Heap.get?_push_of_some _ q) (le_refl _) (ul s.heap I.big)
 refine wpAny_Dict_walk (knd:=aU X.prog X.w) Ax hl h0 h15 (aT (h pins _ σ _ _ I1 (q _ hn)) fun ws s2 zo=>?_)
 obtain⟨ps,H2,I2,rel,e,kvs,ep,lk,q2⟩:=zo
 subst ep
 obtain⟨rs,c,rk⟩:=j3 (P:=X.prog) (w:=X.w) rel
 obtain⟨z,hd,DF,r0,dd⟩:=uj I2.ze e
 cases r0
 refine⟨rs,c,dd,fun h' EI hs=>⟨.ref s.heap.objs.size,_,?_,rfl,q2⟩⟩
 have hz:(fE [] kvs).length <= sizeLine:=by
  have h1:=gc kvs []
  rw[length_nil]at h1
  rw[sizeLine_eq];omega
 have he:∃ q,h'.get? s.heap.objs.size=some q:=let ⟨q,_,_,hq,_⟩:=EI; ⟨q,hq⟩
 exact lp I2 (by rw[e];exact True.intro) hs he (uk hz hd (rk.merge .nil) EI)
structure M1 (X:Cx)(o:Expr)(m:Str)(apos:Pos)(e:Expr)(zK:Pos):Prop where
 base:attributeBase o m X.env (eval o X.env)=eval o X.env
 zX:((backTo zK (starEach [e] X.env)).all (fun x=>!x.1) && (backToKw zK (keywordEach [] X.env)).all (fun x=>x.1.isSome)
  && decide (([e]:List Expr).length + ([]:List Keyword).length + (if ([]:List Keyword).isEmpty then 0 else 1) < 30))=true
 line:(apos.endLine == zK.line)=true
 trees:backTo zK (starEach [e] X.env)=[(false,eval e X.env)]
noncomputable def Wd (H:Hp)(a:Addr):Prop:=(∃ kvs,Rd H a (.dK kvs))∨∃ kvs,Rd H a (.dT kvs)
theorem y4 {X:Cx}{pins:List (Addr × Obj)}{σ:St}{H:Hp}{s:Shared}{a:Addr}(I:Inv X pins σ H s)(d:Wd H a) :
  s.TypeIs (.ref a) "dict"/\(∀ b,Value.ref a = .ref b->∃ ob,s.heap.get? b=some ob/\ob.dict=none)/\(a == sysModules)=false:=by
 rcases d with ⟨kvs,e⟩ | ⟨kvs,e⟩
 ·obtain⟨_,hd,vs,_,dd⟩:=jX I.ze e
  refine⟨dd.typeIs,fun b q=>?_,hd⟩
  cases q
  obtain⟨ob,_,_,h1,h2,_⟩:=dd
  exact⟨ob,h1,h2.2.1⟩
 ·obtain⟨_,hd,xs,_,dd⟩:=jW I.ze e
  refine⟨dd.typeIs,fun b q=>?_,hd⟩
  cases q
  obtain⟨ob,_,_,h1,h2,_⟩:=dd
  exact⟨ob,h1,h2.2.1⟩
section
variable {X:Cx}{pins:List (Addr × Obj)}{σ:St}{H:Hp}{s:Shared}{a:Addr}{y d:V}{u r:Value}{o:Option V}{A:Around}{E:Value->Shared->Prop}
theorem yF {Q:Value->Shared->Prop}(hu:A.units + 1 < cLine)(I:Inv X pins σ H s)(g:Bd H a y o)(ry:RelV y u)(h:∀ w' s',Inv X pins σ H s'->RelV (o.getD .zm) w'->Q w' s') :
  wpAny (model X.prog X.w) A (call (.builtin "dict.get") [.ref a,u]) Q E s:=by
 rcases g with ⟨kvs,k,e,ey,l⟩ | ⟨kvs,k,b,e,ey,eb,l⟩
 ·subst ey
  obtain⟨z,hd,vs,rel,dd⟩:=jX I.ze e
  refine call_meetsIn slot_dict_get dd.typeIs entry_dict_get (PySem.F.args_dict_get_2 _ _) (meets_dict_get (aU X.prog X.w) a (jR ry) hd) ⟨_,dd.mapOf,h _ _ (I.tok _) ?_⟩
  rw[l]
  exact(rel.val k).getD rfl
 ·subst ey
  cases (show u=Value.ref b from ry)
  obtain⟨z,hd,xs,rel,dd⟩:=jW I.ze e
  refine call_meetsIn slot_dict_get dd.typeIs entry_dict_get (PySem.F.args_dict_get_2 _ _) (meetsH_dict_get (tupleKind (aU X.prog X.w)) a b hd) ⟨tupleKind_room_in1 hu,k,xs,jr I.ze eb,dd,h _ _ (I.tok _) ?_⟩
  rw[l]
  exact(rel.val k).getD rfl
end
noncomputable def xb (td ty:TE):TE:=fun σ H Q=>td σ H fun x H1=>∃ a,x = .ref a/\Wd H1 a/\ty σ H1 fun y H2=>∃ o,Bd H2 a y o/\Q (o.getD .zm) H2
section
variable {X:Cx}{o e f:Expr}{apos zK:Pos}{td ty tx:TE}
theorem sZ (hu:X.A.units + 1 < cLine)(ho:PE X o td)(he:PE X e ty)(m:M1 X o "get" apos e zK):PE X (.Call (.Attribute o "get" apos) [e] [] zK) (xb td ty):=by
 intro pins s σ H Q I h
 refine wpAny_Call_method m.base m.zX m.line PySem.F.plainAttrs_dict slot_dict_get PySem.F.type_dict_get (aT (ho pins s σ H _ I h) fun u s1 zo=>?_)
 obtain⟨x,H1,I1,rx,a,ex,d,q1⟩:=zo
 subst ex
 obtain rfl:u=Value.ref a:=rx
 obtain⟨t1,t2,_⟩:=y4 I1 d
 refine⟨t1,t2,?_⟩
 rw[m.trees]
 refine Calls.callWith_builtin rfl (Calls.evalArgs_plain (Calls.spliced_cons (aT (he pins s1 σ H1 _ I1 q1) fun iv s2 ⟨y,H2,I2,ry,ov,g,q2⟩=>Calls.spliced_nil ?_)))
 exact yF hu I2 g ry fun w' s3 I3 Ce=>⟨_,H2,I3,Ce,q2⟩
end
section
variable {X:Cx}{pins:List (Addr × Obj)}{σ:St}{H:Hp}{s:Shared}{a:Addr}{kvs:List (ca × V)}{A:Around}{E:Value->Shared->Prop}
end
section
variable {X:Cx}{pins:List (Addr × Obj)}{σ:St}{H:Hp}{s:Shared}{a:Addr}{y:V}{u:Value}{A:Around}{E:Value->Shared->Prop}
end
end L2
namespace L2
open PySem PySem.Spec PyProof.Rows
section
variable {X:Cx}
end
section
variable {κ:Type} [DecidableEq κ]
end
end L2
namespace L2
open PySem PySem.Spec PyProof.Rows
theorem vP {P:Program}{w:World}{k:ca}{u:Value}(h:(aU P w).is k u=true):RelV (kV k) u:=by
 rcases b0 (show js k u=true from h) with ⟨i,t,rfl,rfl⟩ | ⟨x,t,rfl,rfl⟩
 ·exact⟨t,rfl⟩
 ·exact⟨t,rfl⟩
noncomputable def DcO (P:Program)(w:World)(o:Obj)(kvs:List (ca × V))(ep:Nat):Prop:=∃ vs es,KV kvs vs/\o.ExactDict/\o.data = .dict es ep/\KeysOf (aU P w) es/\Pairs (aU P w) es.toList vs/\(vs.map (·.1)).Nodup
noncomputable def KD (a:Addr)(o:Obj)(kvs:List (ca × V)):It :=
 ⟨fun i H=>H a=some (.AU o (.dK kvs))/\i < kvs.length,fun i H x H'=>H' = H/\∃ k,(kvs.map (·.1))[i]? = some k/\x=kV k,fun i H=>H a=some (.AU o (.dK kvs))/\i=kvs.length⟩
theorem Inv.FD {X:Cx}{pins:List (Addr × Obj)}{σ:St}{H:Hp}{s:Shared}{a:Addr}{o:Obj}{u:HO}(I:Inv X pins σ H s)(ha:H a=some (.AU o u)):s.heap.get? a=some o:=(I.ze a _ ha).1
theorem qc {P:Program}{w:World}{K:Frag}{tg:Expr}(a it:Addr)(o:Obj)(kvs:List (ca × V))(ep:Nat)(hD:DcO P w o kvs ep):mX P w K tg (KD a o kvs) [it] it (fun i h=>h.IsKeyIter it a i kvs.length ep) where
 mem:=by simp
 obj:=fun i h st b hb=>by
  have e:b=it:=by simpa using hb
  subst e
  obtain⟨ob,e,c,d⟩:=st
  exact⟨ob,e,fun v z=>by rw[d]at z;cases z⟩
 keep:=fun i h h' st k=>by
  obtain⟨ob,e,c,d⟩:=st
  exact⟨ob,k it (by simp) ob e,c,d⟩
 item:=by
  intro X hP hw hK hc i pins s σ H E I hf st hg
  subst hP hw hK
  obtain⟨ha,hi⟩:=hg
  obtain⟨vs,es,rel,d1,d2,d3,d4,d5⟩:=hD
  obtain⟨f0,f1,f2,f3,f4,f5⟩:=hf it (by simp)
  have hl:=rel.length
  have hv:vs[i]? = some (vs[i]'(by omega)):=List.getElem?_eq_getElem (by omega)
  have st:s.heap.IsKeyIter it a i vs.length ep:=by rw[← hl];exact st
  refine wpAny_pyNext_dict_item (knd:=aU X.prog X.w) (k:=(vs[i]'(by omega)).1) (v:=(vs[i]'(by omega)).2) st ⟨o,es,I.FD ha,d1,d2,d3,d4,d5⟩ hv fun key h' hk DA sb=>?_
  rw[← hl]at DA
  have I1:Inv X pins σ H { s with heap:=h' }:=I.turned (t':=s.toks) (fun b o hb e=>(sb.2 b hb).trans e) f0 f1 f3 f4 f5
  obtain⟨ob,e,c,d⟩:=id DA
  exact⟨key,rfl,pO (s:={ s with heap:=h' }) e c d (by decide) ⟨_,H,I1,vP hk,⟨rfl,_,by rw[rel.keys,List.getElem?_map,hv];rfl,rfl⟩,DA,fun b hb=>(hf b hb).1⟩⟩
 done:=by
  intro X hP hw hK hc i pins s σ H E I hf st hg
  subst hP hw hK
  obtain⟨ha,rfl⟩:=hg
  obtain⟨vs,es,rel,d1,d2,d3,d4,d5⟩:=hD
  obtain⟨f0,f1,f2,f3,f4,f5⟩:=hf it (by simp)
  have hl:=rel.length
  have st:s.heap.IsKeyIter it a vs.length vs.length ep:=by rw[← hl];exact st
  exact wpAny_pyNext_dict_end (knd:=aU X.prog X.w) (I.ok.hd hc) st ⟨o,es,I.FD ha,d1,d2,d3,d4,d5⟩ (List.getElem?_eq_none (le_refl _)) fun h' eb=>⟨rfl,I.turned (t':=s.toks) (fun b o hb e=>eb b o hb e) f0 f1 f3 f4 f5⟩
 self:=fun _ _ _ _ _ st h=>wpAny_pyIter_keyiter st h
section
variable {X:Cx}{tg:Expr}
noncomputable def KG (tl:TE):TI:=fun σ H R=>tl σ H fun x H1=>∃ a kvs,x = .ref a/\H1 a=some (.dK kvs)/\∀ o,R (KD a o kvs) (upd H1 a (.AU o (.dK kvs)))
theorem uZ {l:Expr}{tl:TE}(hl:PE X l tl):PI X tg l (KG tl):=by
 intro pins s σ H R I h
 refine aT (hl pins s σ H _ I h) fun v s1 zo=>?_
 obtain⟨x,H1,I1,r1,q1⟩:=zo
 obtain⟨a,kvs,e,ha,q⟩:=q1
 subst e
 cases r1
 obtain⟨z,hd,vs,rel,o,es,ep,eo,d1,d2,d3,d4,d5⟩:=uj I1.ze ha
 have I2:Inv X pins σ (upd H1 a (.AU o (.dK kvs))) s1:=I1.write (x:=a) (e:=a) (h':=s1.heap) (t':=s1.toks) (by rw[ha];trivial) (.inl rfl) (fun b u _ q=>q) ⟨_,eo⟩ ⟨eo,z,hd,vs,rel,o,es,ep,eo,d1,d2,d3,d4,d5⟩
 refine wpAny_pyIter_dict (knd:=aU X.prog X.w) hd ⟨o,es,eo,d1,d2,d3,d4,d5⟩ ?_
 refine⟨s1.heap.objs.size,[s1.heap.objs.size],_,_,_,rfl,I2.kept (t':=s1.toks) fun b o e=>Heap.get?_push_of_some _ e,qc a _ o kvs ep ⟨vs,es,rel,d1,d2,d3,d4,d5⟩,⟨_,Heap.get?_push_size _ rfl,rfl,by rw[rel.length];rfl⟩,fun b hb=>?_,q o⟩
 have e:b=s1.heap.objs.size:=by simpa using hb
 subst e
 exact I2.Dq (le_refl _) (I2.ze.fresh (le_refl _))
theorem ud {a:Addr}{o:Obj}{kvs:List (ca × V)}{g:TG}{tb:TS}{D:ls}{σ:St}{H:Hp}(Pv:Nat->St->Hp->Prop)(h0:Pv 0 σ H)(hl:∀ i σ H,i <= kvs.length->Pv i σ H->H a=some (.AU o (.dK kvs)))
  (hs:∀ i k σ H,(kvs.map (·.1))[i]? = some k->Pv i σ H->g (kV k) σ H fun σ2 H2=>tb { D with nx:=Pv (i + 1),ct:=Pv (i + 1),bk:=D.nx } σ2 H2) (hd:∀ σ H,Pv kvs.length σ H->D.nx σ H) :
  ∃ W:Nat->Nat->St->Hp->Prop,(∃ m,W 0 m σ H)/\∀ i m σ H,W i m σ H ->
   ((KD a o kvs).stop i H/\D.nx σ H)∨((KD a o kvs).go i H/\∃ N:St->Hp->Prop,(∀ σ' H',N σ' H'->∃ m',m' < m/\W (i + 1) m' σ' H')/\∀ x H',(KD a o kvs).Er i H x H'->g x σ H' fun σ2 H2=>tb { D with nx:=N,ct:=N,bk:=D.nx } σ2 H2):=by
 refine⟨fun i m σ H=>m=kvs.length - i/\i <= kvs.length/\Pv i σ H,⟨kvs.length,by simp,zero_le _,h0⟩,?_⟩
 rintro i m σ H ⟨rfl,hi,p⟩
 have q:=hl i σ H hi p
 by_cases zR:i < kvs.length
 ·refine .inr ⟨⟨q,zR⟩,Pv (i + 1),fun σ' H' p'=>⟨kvs.length - (i + 1),by omega,rfl,zR,p'⟩,fun x H' y=>?_⟩
  obtain⟨e,k,hk,ex⟩:=y
  subst e ex
  exact hs i k σ _ hk p
 ·have e:i=kvs.length:=by omega
  subst e
  exact .inl ⟨⟨q,rfl⟩,hd σ H p⟩
end
end L2
namespace L2
open PySem PySem.Spec PyProof.Rows
section
variable {X:Cx}
end
end L2
namespace L2
open PySem
section
variable {X:Cx}
noncomputable def r8 (t:TS):TS:=fun D σ H=>∃ Be:St->Hp->Prop,t { D with nx:=Be } σ H/\∀ σ' H',Be σ' H'->D.nx σ' H'
theorem gQ {st:Stmt}{t:TS}(h:PS X st t):PS X st (r8 t):=fun pins s σ H D I ⟨Be,q,k⟩ =>
 aT (h pins s σ H _ I q) fun f s1 z=>by
  cases f with
  | next=>obtain⟨σ1,H1,I1,p⟩:=z;exact⟨σ1,H1,I1,k _ _ p⟩
  | brk=>exact z
  | cont=>exact z
  | ret u=>exact z
noncomputable def wZ (t:TE):TE:=fun σ H Q=>∃ Be:V->Hp->Prop,t σ H Be/\∀ v H',Be v H'->Q v H'
theorem pj {e:Expr}{t:TE}(h:PE X e t):PE X e (wZ t):=fun pins s σ H Q I ⟨Be,q,k⟩ =>
 aT (h pins s σ H _ I q) fun u s1 ⟨v,H1,I1,r,p⟩=>⟨v,H1,I1,r,k v H1 p⟩
noncomputable def wY (t:TT):TT:=fun σ H Q=>∃ Be:Bool->Hp->Prop,t σ H Be/\∀ b H',Be b H'->Q b H'
theorem iI {e:Expr}{t:TT}(h:PT X e t):PT X e (wY t):=fun pins s σ H Q I ⟨Be,q,k⟩ =>
 aT (h pins s σ H _ I q) fun b s1 ⟨H1,I1,p⟩=>⟨H1,I1,k b H1 p⟩
end
end L2
namespace L2
open PySem PySem.Spec PyProof.Rows
end L2
namespace L2
open PySem PySem.Spec PyProof.Rows
structure Dy (K:Frag)(x qual:Str)(st:Stmt)(f:Addr)(fd:FuncData):Prop where
 ex:∃ (oc:Value)(od:Option Addr)(dV kV doc pm:Value)(an:Option Addr)(cdv ct:Value)(C5:Array (Option Value)),
  fd=fnOf x qual (bL st) (aH st) (aj st) dV kV doc pm an cdv ct/\K.lookup f=some ⟨oc,od, .func fd,C5⟩/\codeIn K cdv qual=true
 kp:keepIn K (.ref f)=true
section
variable {P:Program}{w:World}{K:Frag}{mg:Str->Option Value}{base:Heap}
theorem Dy.Ew {x qual:Str}{st:Stmt}{f:Addr}{fd:FuncData}{N ps:List Str}{k:Nat}{sp:Sp}(F:Dy K x qual st f fd)(S:ao N ps (aj st))(len:∀ vs H Q E,sp vs H Q E->vs.length=ps.length)
  (Bo:∀ (cdv:Value)(A:Around)(outer:List Env)(s:Shared)(H:Hp)(vs:List V)(Q:VK)(E:XK),zi k (A.deeper (envOfC qual (aj st) s.heap.objs.size f cdv))->sp vs H Q E ->
   ∃ t,Bz (iD (eR P w) P w K mg base N qual (aj st) f cdv A outer s H E) (aH st) t/\t { nx:=fun _ H'=>Q .zm H',rt:=Q } (start N vs) H):yX P w K mg base (eR P w) (k + 1) f fd ps sp:=by
 obtain⟨oc,od,dV,kV,doc,pm,an,cdv,ct,C5,rfl,lk,C2⟩:=F.ex
 exact ue lk C2 S len fun A outer s H vs Q E hr DC=>Bo cdv A outer s H vs Q E hr DC
end
end L2
namespace L2
open PySem PySem.Spec PyProof.Rows
noncomputable def uT (K:Frag):R2:=fun x y H Q=>∃ (p:Addr)(vs:List V)(d:PyData)(ds:List PyData),y = .ref p/\iQ K H x d/\zb K H p vs/\ik K H vs ds/\Bc d 8/\(∀ z ∈ ds,Bc z 8)/\Q (.bl (!(ds.any fun y=>PyData.eqv y d))) H
theorem qt {X:Cx}(hu:X.A.units + 64 < cLine):eP X (compareOp .NotIn) (uT X.K):=by
 intro pins s σ H x y v u Q I rx ry h
 obtain⟨p,vs,d,ds,rfl,h1,h2,h3,s1,s2,q⟩:=h
 obtain⟨as,r1⟩:=I.den (.lst h2 h3) ry
 obtain⟨bs,r2⟩:=I.den h1 rx
 refine SeqAt.notIn_list_reads r1 r2 (kD s2).1 s1.1 ?_ ⟨.bl _,H,I,rfl,q⟩
 have:=s1.2
 have:=Nat.min_le_right (PyData.depthAll ds) d.depth
 omega
noncomputable def KH (K:Frag):R2:=fun x y H Q=>∃ a b xs ys,x = .ref a/\y = .ref b/\zc K H a xs/\zc K H b ys/\ys ≠ []/\xs.length + ys.length <= sizeLine /\
 (xs=[]->Q (.ref b) H)/\(xs ≠ []->∀ p,H p=none->Q (.ref p) (upd H p (.tup (xs ++ ys))))
theorem ve {X:Cx}:eP X (binaryOp .Add) (KH X.K):=by
 intro pins s σ H x y v u Q I rx ry h
 obtain⟨a,b,xs,ys,rfl,rfl,ha,hb,hy,hz,q1,q2⟩:=h
 by_cases hx:xs=[]
 ·cases rx
  cases ry
  obtain⟨za,r1,p1,_⟩:=I.tuple ha
  obtain⟨B3,r2,p2,_⟩:=I.tuple hb
  have e1:za=[]:=r1.Bj.mpr hx
  obtain⟨⟨cls,dd,data,sl⟩,ho,hc,n,hd⟩:=id p1
  obtain⟨⟨Q6,Oy,data2,IW⟩,zS,Cd,n2,hd2⟩:=id p2
  simp only at hc hd Cd hd2
  subst hc hd Cd hd2
  exact concat_meets ⟨_,ho,rfl⟩ ⟨_,zS,rfl⟩ noFill_tuple_add seq_tuple_add slot_tuple_add entry_tuple_add (args_tuple_add_2 _ _)
   (tuple_addW0 a b za.toArray B3.toArray n n2 dd Oy sl IW (by simp[e1])) ⟨ho,zS,⟨.ref b,H,I,rfl,q1 hx⟩⟩
 ·exact p8 pins s σ H _ _ v u Q I rx ry ⟨a,b,xs,ys,rfl,rfl,ha,hb,hx,hz,fun z=>absurd z hy,fun _=>q2 hx⟩
end L2
namespace L2
open PySem
theorem gA {M:Model} {Γ:Ctx} {env:Env} {b:List Stmt} {Q:Flow->Pos->Shared->Prop} {E:Value->Pos->Shared->Prop}:∀ {a:List Stmt}{p:Pos}{s:Shared},
  Sem.wp M Γ (execs a env) (fun f p' s'=>match f with | .next=>Sem.wp M Γ (execs b env) Q E p' s' | f=>Q f p' s') E p s->Sem.wp M Γ (execs (a ++ b) env) Q E p s
 | [],_,_,h=>h
 | st :: a,p,s,h=>by
  rw[execs_cons,Sem.wp_bind']at h
  rw[List.cons_append,execs_cons,Sem.wp_bind']
  refine Sem.wp_mono M Γ _ (fun f p' s' h'=>?_) (fun _ _ _ h'=>h') _ _ h
  cases f with
  | next=>exact gA (a:=a) h'
  | brk=>exact h'
  | cont=>exact h'
  | ret u=>exact h'
section
variable {X:Cx}
theorem uW {a b:List Stmt}{t u:TS}(h1:Bz X a t)(h2:Bz X b u):Bz X (a ++ b) (wW (r8 t) u):=by
 intro pins s σ H D I h
 obtain⟨Be,q,k⟩:=h
 intro Γ p hΓ
 refine gA ?_
 refine Sem.wp_mono _ Γ _ (fun f p' s' z=>?_) (fun _ _ _ z=>z) _ _ (h1 pins s σ H _ I q Γ p hΓ)
 cases f with
 | next=>obtain⟨σ1,H1,I1,z⟩:=z;exact h2 pins s' σ1 H1 D I1 (k _ _ z) Γ p' hΓ
 | brk=>exact z
 | cont=>exact z
 | ret u=>exact z
theorem sT {ss:List Stmt}{t u:TS}(n:Nat)(h1:Bz X (ss.take n) t)(h2:Bz X (ss.drop n) u):Bz X ss (wW (r8 t) u):=by
 have h:=uW h1 h2
 rwa [List.take_append_drop]at h
end
end L2
namespace L2
open PySem
theorem bI {J:It}{g:TG}{tt:TT}{te:TE}{σ0:St}{H:Hp}{Q:VK}(n:Nat)(hn:n < sizeLine)(W:Nat->List V->Hp->Prop)(h0:W 0 [] H)(hlen:∀ i acc H',W i acc H'->acc.length <= i)
  (turn:∀ i acc H',i < n->W i acc H'->J.go i H'/\∀ x H2,J.Er i H' x H2->g x σ0 H2 fun σ2 H3=>tt σ2 H3 fun b H4=>if b=true then te σ2 H4 fun y H5=>W (i + 1) (acc ++ [y]) H5 else W (i + 1) acc H4)
  (stop:∀ acc H',W n acc H'->J.stop n H'/\∀ D,H' D=none->Q (.ref D) (upd H' D (.lst acc))):dF J g tt te σ0 Q H:=by
 refine⟨fun i m acc H'=>m=n - i/\i <= n/\W i acc H',⟨n,by simp,zero_le _,h0⟩,?_⟩
 rintro i m acc H' ⟨rfl,hi,w⟩
 refine⟨by have:=hlen i acc H' w;omega,?_⟩
 by_cases zR:i < n
 ·obtain⟨go,q⟩:=turn i acc H' zR w
  exact .inr ⟨go,fun zV H2=>W (i + 1) zV H2,fun zV H2 w2=>⟨n - (i + 1),by omega,rfl,zR,w2⟩,q⟩
 ·have e:i=n:=by omega
  subst e
  exact .inl (stop acc H' w)
theorem yW.new {H H':Hp}{a:Addr}{o:HO}(h:yW H H')(n:H' a=none):yW H (upd H' a o):=fun b u e=>by rw[ae (ag (h _ _ e) n)];exact h _ _ e
end L2
namespace L2
open PySem
theorem zy {N P:List Str}{sc:Scope}(a:sc.kind = .function:=by rfl)(b:sc.isCoroutine=false:=by rfl)(c:sc.isGenerator=false:=by rfl)(d:N.Nodup:=by decide +kernel)(e:N.take P.length=P:=by rfl)(f:∀ x ∈ P,sc.names.lookup x=some .local∨sc.names.lookup x=some .cell:=by decide +kernel)(g:∀ y ∈ sc.names,y.2 ≠ .free:=by decide +kernel):ao N P sc:=⟨a,b,c,d,e,f,g⟩
theorem Bf {N:List Str}{sc scope:Scope}{capN:List Str}{cap:List Nat}(a:scope.kind = .function:=by rfl)(b:∀ y ∈ scope.names,y.2 ≠ .cell:=by decide +kernel)(c:∀ y ∈ scope.names,y.2 = .local->scope.names.lookup y.1=some .local:=by decide +kernel)(d:∀ y ∈ scope.names,y.2 = .free->sc.names.lookup y.1=some .cell∨sc.names.lookup y.1=some .free:=by decide +kernel)(e:cap.length=capN.length:=by rfl)(f:∀ p ∈ capN.zip cap,scope.names.lookup p.1=some .free/\N[p.2]? = some p.1:=by decide +kernel):Ae N sc scope capN cap:=⟨a,b,c,d,e,f⟩
end L2
namespace K48
open PySem L2
variable {P:Program}{w:World}{K:Frag}{mg:Str->Option Value}{base:Heap}
noncomputable def bQ (i:Nat):Stmt:=PySem.Challenge.pw_wormyard_k48_moves_made.main.body.getD i (.Pass ⟨0,0,0,0⟩)
noncomputable abbrev O9:Stmt:=aC (bQ 4) 0
noncomputable abbrev OA:Stmt:=aC (bQ 5) 0
noncomputable abbrev OB:Stmt:=aC (bQ 6) 0
noncomputable abbrev uO:Stmt:=aC (bQ 11) 0
noncomputable abbrev xA:Stmt:=aC (bQ 15) 0
noncomputable abbrev sy:Stmt:=aC (bQ 15) 1
noncomputable abbrev xy:Stmt:=aC (bQ 15) 2
noncomputable abbrev nN:Stmt:=aC (bQ 15) 3
noncomputable abbrev so:Stmt:=aC (bQ 15) 4
noncomputable abbrev nQ:Stmt:=aC (bQ 15) 5
noncomputable abbrev x9:Stmt:=aC (bQ 15) 6
noncomputable abbrev x8:Stmt:=aC (bQ 15) 7
noncomputable abbrev uP:Stmt:=bQ 17
noncomputable abbrev sC:Stmt:=bQ 18
noncomputable abbrev xx:Stmt:=bQ 19
noncomputable abbrev gk:Stmt:=bQ 21
noncomputable abbrev iG:Stmt:=bQ 22
noncomputable abbrev xz:Stmt:=bQ 23
noncomputable abbrev xv:Stmt:=bQ 27
noncomputable abbrev lM:Stmt:=aC (bQ 28) 0
noncomputable abbrev nG:Stmt:=aC (bQ 28) 1
noncomputable abbrev xG:Stmt:=aC (bQ 28) 2
noncomputable abbrev sw:Stmt:=aC (bQ 28) 3
noncomputable abbrev lL:Stmt:=aC (bQ 28) 4
noncomputable abbrev lN:Stmt:=bQ 30
noncomputable abbrev Rj:Stmt:=bQ 31
noncomputable abbrev xw:Stmt:=aC (bQ 32) 0
noncomputable abbrev sm:Stmt:=aC (bQ 33) 0
noncomputable abbrev nB:Stmt:=aC (bQ 33) 1
noncomputable abbrev gm:Stmt:=bQ 38
noncomputable abbrev si:Stmt:=bQ 39
noncomputable abbrev lK:Stmt:=bQ 40
noncomputable abbrev sG:Stmt:=aC (bQ 41) 0
noncomputable abbrev sE:Stmt:=aC (bQ 41) 1
noncomputable abbrev il:Stmt:=aC (bQ 42) 0
noncomputable abbrev gK:Stmt:=aC (bQ 42) 1
noncomputable abbrev nI:Stmt:=aC (bQ 42) 2
noncomputable abbrev lJ:Stmt:=aC (bQ 42) 3
noncomputable abbrev lI:Stmt:=aC (bQ 42) 4
noncomputable abbrev nH:Stmt:=aC (bQ 42) 5
noncomputable abbrev kH:Stmt:=aC (bQ 42) 6
noncomputable abbrev gJ:Stmt:=aC (bQ 42) 7
noncomputable abbrev sD:Stmt:=aC (bQ 42) 8
noncomputable abbrev Rk:Stmt:=aC (bQ 42) 9
noncomputable abbrev sK:Stmt:=aC (bQ 42) 10
noncomputable abbrev nP:Stmt:=aC (bQ 42) 11
noncomputable abbrev xB:Stmt:=aC (bQ 42) 12
noncomputable abbrev su:Stmt:=aC (bQ 42) 13
noncomputable abbrev sr:Stmt:=aC (bQ 42) 14
noncomputable abbrev nL:Stmt:=aC (bQ 42) 16
noncomputable abbrev sF:Stmt:=aC (bQ 42) 17
noncomputable abbrev sk:Stmt:=aC (bQ 42) 18
noncomputable abbrev nJ:Stmt:=aC (bQ 42) 19
noncomputable abbrev kG:Stmt:=aC (bQ 42) 20
noncomputable abbrev sJ:Stmt:=aC (bQ 42) 21
noncomputable abbrev xC:Stmt:=bQ 44
noncomputable abbrev KI:Stmt:=bQ 45
noncomputable abbrev sA:Stmt:=aC (bQ 46) 0
noncomputable abbrev sj:Stmt:=aC (bQ 46) 1
noncomputable abbrev sL:Stmt:=bQ 48
noncomputable abbrev x5:Stmt:=bQ 49
noncomputable abbrev nK:Stmt:=bQ 50
noncomputable abbrev jf:Stmt:=bQ 51
noncomputable abbrev sH:Stmt:=bQ 52
noncomputable abbrev nR:Stmt:=bQ 53
noncomputable abbrev gM:Stmt:=bQ 54
noncomputable abbrev kI:Stmt:=bQ 55
noncomputable abbrev eD:Stmt:=bQ 56
noncomputable abbrev kF:Stmt:=bQ 57
noncomputable abbrev sI:Stmt:=bQ 58
noncomputable abbrev nM:Stmt:=bQ 59
noncomputable abbrev kJ:Stmt:=bQ 60
noncomputable abbrev fu:Stmt:=bQ 61
structure eO (mg:Str->Option Value):Prop where
 Hz:mg "isinstance" = none
 int:mg "int" = none
 bool:mg "bool" = none
 len:mg "len" = none
 enum:mg "enumerate" = none
 tuple:mg "tuple" = none
 range:mg "range" = none
 list:mg "list" = none
 all:mg "all" = none
 abs:mg "abs" = none
 str:mg "str" = none
 min:mg "min" = none
noncomputable def wo (H:Hp)(v:V)(p:Int × Int):Prop:=∃ t,v = .ref t/\H t=some (.tup [.int p.1, .int p.2])
noncomputable abbrev zl (H:Hp):List V->List (Int × Int)->Prop:=Paired (wo H)
theorem zl.same {H H':Hp}(h:yW H H'):∀ {vs:List V}{ps:List (Int × Int)},zl H vs ps->zl H' vs ps
 | _,_, .nil => .nil
 | _,_, .cons ⟨t,e,q⟩ r => .cons ⟨t,e,h _ _ q⟩ (zl.same h r)
theorem zl.get {H:Hp}:∀ {vs:List V}{ps:List (Int × Int)}{i:Nat}{v:V},zl H vs ps->vs[i]? = some v->∃ p,ps[i]? = some p/\wo H v p
 | _,_,_,_, .nil,e=>by simp at e
 | _,_,0,_, .cons h _,e=>by simp at e;subst e;exact⟨_,rfl,h⟩
 | _,_,i + 1,_, .cons _ r,e=>by
  obtain⟨p,e1,h⟩:=zl.get (i:=i) r (by simpa using e)
  exact⟨p,by simpa using e1,h⟩
theorem zl.CD {H:Hp}:∀ {vs:List V}{ps:List (Int × Int)}{i:Nat}{p:Int × Int},zl H vs ps->ps[i]? = some p->∃ v,vs[i]? = some v/\wo H v p
 | _,_,_,_, .nil,e=>by simp at e
 | _,_,0,_, .cons h _,e=>by simp at e;subst e;exact⟨_,rfl,h⟩
 | _,_,i + 1,_, .cons _ r,e=>by
  obtain⟨p,e1,h⟩:=zl.CD (i:=i) r (by simpa using e)
  exact⟨p,by simpa using e1,h⟩
theorem zl.snoc {H:Hp}{v:V}{p:Int × Int}(h:wo H v p):∀ {vs:List V}{ps:List (Int × Int)},zl H vs ps->zl H (vs ++ [v]) (ps ++ [p])
 | _,_, .nil => .cons h .nil
 | _,_, .cons q r => .cons q (zl.snoc h r)
noncomputable def j8 (n:Int)(p:Int × Int):Bool:=decide (0 <= p.1/\p.1 <= n - 1) && (decide (0 <= p.2/\p.2 <= n - 1) && !decide (p.1=p.2))
noncomputable def k7:Sp:=fun vs H Q _=>∃ i:Int,vs=[.int i]/\Q (.bl true) H
noncomputable def ja:Sp:=fun vs H Q _=>∃ i a b:Int,vs=[.int i, .int a, .int b]/\Q (.bl (decide (a <= i/\i <= b))) H
noncomputable def rE:Sp:=fun vs H Q _=>∃ n a b:Int,vs=[.int n, .int a, .int b]/\Q (.bl (j8 n (a,b))) H
theorem pe:ao ["value"] ["value"] (aj gk):=L2.zy
theorem lW {f:Addr}{fd:FuncData}(F:zt K "is_whole" "is_whole" gk f fd)(T:eO mg):yX P w K mg base aD 1 f fd ["value"] k7:=by
 refine F.ok pe (fun vs H Q E h=>?_) (fun cdv A outer s H vs Q E hr h=>?_)
 ·obtain⟨m,rfl,_⟩:=h
  rfl
 ·obtain⟨i,rfl,q⟩:=h
  refine⟨_,ak (au (dJ (aG mS rfl T.Hz PyProof.Rows.boot_isinstance (aa (pv 0) (aa (eJ (v := .ty "int") rfl T.int PySem.Pv.boot_int rfl) ad)))
   (dI (sY (aG mS rfl T.Hz PyProof.Rows.boot_isinstance (aa (pv 0) (aa (eJ (v := .ty "bool") rfl T.bool PySem.Pv.boot_bool rfl) ad))))))),?_⟩
  refine⟨_,rfl, .inl ⟨i,rfl,true,rfl,?_⟩⟩
  refine aK ?_
  exact⟨_,rfl, .inr (.inl ⟨i,rfl,false,rfl,q⟩)⟩
theorem lG:ao ["value", "least", "most"] ["value", "least", "most"] (aj iG):=L2.zy
theorem qw {f fh:Addr}{fd BY:FuncData}(F:zt K "is_within" "is_within" iG f fd)(T:eO mg)(mh:mg "is_whole" = some (.ref fh))(Fh:zt K "is_whole" "is_whole" gk fh BY)(bh:Binds K BY ["value"] []) :
  yX P w K mg base aD 2 f fd ["value", "least", "most"] ja:=by
 have G:yX P w K mg base aD 1 fh BY ["value"] k7:=lW Fh T
 refine F.ok lG (fun vs H Q E h=>?_) (fun cdv A outer s H vs Q E hr h=>?_)
 ·obtain⟨i,a,b,rfl,_⟩:=h
  rfl
 ·obtain⟨i,a,b,rfl,q⟩:=h
  refine⟨_,ak (au (dJ (aw G hr rfl mh Fh.kp bh .nil aq (aa (pv 0) ad)) (dI (lT p7 p7 (pv 1) (pv 0) (pv 2))))),?_⟩
  refine⟨_,rfl,i,rfl,true,rfl,aK ?_⟩
  refine⟨_,rfl,_,rfl,_,_,rfl,rfl,_,rfl,?_⟩
  by_cases h1:a <= i
  ·rw[decide_eq_true h1]
   refine aK ⟨_,rfl,_,_,rfl,rfl,?_⟩
   show Q (V.bl (decide (i <= b))) H
   by_cases h2:i <= b
   ·rw[decide_eq_true h2];rw[decide_eq_true ⟨h1,h2⟩]at q;exact q
   ·rw[decide_eq_false h2];rw[decide_eq_false fun z=>h2 z.2]at q;exact q
  ·rw[decide_eq_false h1]
   refine aI ?_
   rw[decide_eq_false fun z=>h1 z.1]at q;exact q
theorem FE:ao ["places", "one", "other", "last"] ["places", "one", "other"] (aj xv):=L2.zy
theorem xX {f fh:Addr}{fd BY:FuncData}(F:zt K "are_two_places" "are_two_places" xv f fd)(mh:mg "is_within" = some (.ref fh))(kh:keepIn K (.ref fh)=true)(bh:Binds K BY ["value", "least", "most"] [])
  (G:yX P w K mg base aD 2 fh BY ["value", "least", "most"] ja) :
  yX P w K mg base aD 3 f fd ["places", "one", "other"] rE:=by
 refine F.ok FE (fun vs H Q E h=>?_) (fun cdv A outer s H vs Q E hr h=>?_)
 ·obtain⟨i,a,b,rfl,_⟩:=h
  rfl
 ·obtain⟨n,a,b,rfl,q⟩:=h
  refine⟨_,af (aA (i:=3) FE.nd rfl (Or.inl rfl) (az c5 (pv 0) ah))
   (ak (au (dJ (aw G hr rfl mh kh bh .nil aq (aa (pv 1) (aa ah (aa (pv 3) ad))))
    (dJ (aw G hr rfl mh kh bh .nil aq (aa (pv 2) (aa ah (aa (pv 3) ad)))) (dI (c8 lV (pv 1) (pv 2) (aB _))))))),?_⟩
  refine⟨_,rfl,_,_,rfl,rfl,?_⟩
  refine⟨_,rfl,_,rfl,a,0,n - 1,rfl,_,rfl,?_⟩
  unfold j8 at q
  dsimp only at q
  by_cases h1:0 <= a/\a <= n - 1
  ·rw[decide_eq_true h1]at q ⊢
   rw[Bool.true_and]at q
   refine aK ⟨_,rfl,_,rfl,b,0,n - 1,rfl,_,rfl,?_⟩
   by_cases h2:0 <= b/\b <= n - 1
   ·rw[decide_eq_true h2]at q ⊢
    rw[Bool.true_and]at q
    refine aK ⟨_,rfl,_,rfl,rfl,?_⟩
    have e:decide (V.int a=V.int b)=decide (a=b):=by
     by_cases h:a=b
     ·rw[h];simp
     ·rw[decide_eq_false h,decide_eq_false fun z=>h (by injection z)]
    show Q (V.bl (!decide (V.int a=V.int b))) H
    rw[e];exact q
   ·rw[decide_eq_false h2]at q ⊢
    exact aI q
  ·rw[decide_eq_false h1]at q ⊢
   exact aI q
end K48
namespace L2
open PySem
theorem iu {H1:Hp}{e d:Addr}{o o' x:HO}(he:H1 e=none)(hd:upd H1 e o d=none) :
  yW H1 (ur (upd (upd (upd H1 e o) d x) e o') e)/\(ur (upd (upd (upd H1 e o) d x) e o') e) d=some x/\(upd (upd (upd H1 e o) d x) e o') e=some o':=by
 have C0:d ≠ e:=fun z=>by rw[z,ac]at hd;cases hd
 have hd1:H1 d=none:=by rw[ae C0]at hd;exact hd
 refine⟨fun b u q=>?_,?_,ac⟩
 ·have BV:b ≠ e:=ag q he
  have hbd:b ≠ d:=ag q hd1
  rw[dM BV,ae BV,ae hbd,ae BV];exact q
 ·rw[dM C0,ae C0,ac]
end L2
namespace K48
open PySem L2
variable {P:Program}{w:World}{K:Frag}{mg:Str->Option Value}{base:Heap}
inductive Due | places | many (k:Nat) | zw (k:Nat) | good
noncomputable def mW (n:Int)(ps:List (Int × Int)):Option Nat:=ps.findIdx? fun p=>!j8 n p
noncomputable def fL (n:Int)(ps:List (Int × Int)):Due:=if decide (1 <= n/\n <= 12)=false then .places else if 40 < ps.length then .many ps.length else match mW n ps with | some k => .zw k | none => .good
structure Cs where
 np:Addr
 tm:Addr
 nr:Addr
 land:Addr
noncomputable def qf (K:Frag)(fld:Str):Sp:=fun vs H Q _=>∃ e C tt v,vs=[.ref e,v]/\H e=some (bM e C tt none)/\gr K C/\findIn K (.ref C) fld=some none/\∀ d,H d=none->Q .zm (upd (upd H d (.xd [(fld,v)])) e (bM e C tt (some d)))
noncomputable def cr (H:Hp)(c:Cs)(x dx t:Addr)(n:Int)(zg:List V)(ps:List (Int × Int)):Prop:=H x=some (.ins c.land dx [("places", .int n),("lanes", .ref t)])/\H t=some (.tup zg)/\zl H zg ps
noncomputable def rV (K:Frag)(c:Cs):Sp:=fun vs H Q E=>∃ x dx n p lvs ps,vs=[.ref x, .int n, .ref p]/\H x=some (.ins c.land dx [])/\zb K H p lvs/\zl H lvs ps/\lvs.length <= 1000 /\
 (fL n ps = .places->∀ H',yW H H'->E (.ref c.np) none H') /\
 (∀ k,fL n ps = .many k->∀ H' d,yW H H'->H' d=some (.xd [("many", .int k)])->E (.ref c.tm) (some d) H') /\
 (∀ k,fL n ps = .zw k->∀ H' d,yW H H'->H' d=some (.xd [("lane", .int k)])->E (.ref c.nr) (some d) H') /\
 (fL n ps = .good->∀ H' t zg,(∀ b o,b ≠ x->H b=some o->H' b=some o)->cr H' c x dx t n zg ps->Q .zm H')
noncomputable def r6 (s:Stmt):Scope:=match s with
 | .Assign _ (.Call _ [.ListComp _ _ sc _] _ _) _=>sc
 | _=>{ kind := .function,names:=[],isGenerator:=false,isCoroutine:=false }
noncomputable def jg (s:Stmt):Scope:=match aH s with
 | .Return (some (.ListComp _ _ sc _)) _ :: _=>sc
 | _=>{ kind := .function,names:=[],isGenerator:=false,isCoroutine:=false }
noncomputable abbrev NI:List Str:=["self", "places", "lanes", "lane", "pair"]
structure Exc (K:Frag)(mg:Str->Option Value)(c:Cs)(f1 f2:Addr)(d1 d2:FuncData):Prop where
 mnp:mg "NoPlaces" = some (.ref c.np)
 Wg:b5 K c.np none=true
 knp:keepIn K (.ref c.np)=true
 mtm:mg "TooMany" = some (.ref c.tm)
 Wh:b5 K c.tm (some (.ref f1))=true
 ktm:keepIn K (.ref c.tm)=true
 ctm:gr K c.tm
 ntm:findIn K (.ref c.tm) "many" = some none
 itm:isFn K (.ref f1)=true
 Ftm:zt K "__init__" "TooMany.__init__" O9 f1 d1
 btm:Binds K d1 ["self", "many"] []
 mnr:mg "NoRoad" = some (.ref c.nr)
 Wi:b5 K c.nr (some (.ref f2))=true
 knr:keepIn K (.ref c.nr)=true
 cnr:gr K c.nr
 nnr:findIn K (.ref c.nr) "lane" = some none
 inr:isFn K (.ref f2)=true
 Fnr:zt K "__init__" "NoRoad.__init__" OA f2 d2
 bnr:Binds K d2 ["self", "lane"] []
structure ku (K:Frag)(c:Cs):Prop where
 cl:BB K c.land
 np:zj K c.land "places"
 nl:zj K c.land "lanes"
theorem j5 {n:Int}{ps:List (Int × Int)}(h:∀ p ∈ ps,j8 n p=true):mW n ps=none:=by
 unfold mW
 rw[List.findIdx?_eq_none_iff]
 intro p hp
 rw[h p hp];rfl
theorem oF {n:Int}{ps:List (Int × Int)}{i:Nat}{p:Int × Int}(h:∀ q ∈ ps.take i,j8 n q=true)(hi:ps[i]? = some p)(hb:j8 n p=false):mW n ps=some i:=by
 unfold mW
 rw[List.findIdx?_eq_some_iff_getElem]
 obtain⟨zR,e⟩:=List.getElem?_eq_some_iff.mp hi
 refine⟨zR,by rw[e,hb];rfl,fun j hj=>?_⟩
 have hm:ps[j]'(lt_trans hj zR) ∈ ps.take i:=List.mem_take_iff_getElem.mpr ⟨j,by omega,rfl⟩
 rw[h _ hm];simp
noncomputable def Off (x:Addr)(H H':Hp):Prop:=∀ b o,b ≠ x->H b=some o->H' b=some o
theorem Off.sq {K:Frag}{H H':Hp}{x p C dx:Addr}{fs:List (Str × V)}{xs:List V}(o:Off x H H')(hx:H x=some (.ins C dx fs))(h:zb K H p xs):zb K H' p xs:=by
 rcases h with (h | ⟨ob,h⟩) | h
 ·exact .inl (.inl (o _ _ (aZ h hx (by intro z;cases z)) h))
 ·exact .inl (.inr ⟨ob,o _ _ (aZ h hx (by intro z;cases z)) h⟩)
 ·exact .inr h
theorem Off.zO {H H':Hp}{x C dx:Addr}{fs:List (Str × V)}(o:Off x H H')(hx:H x=some (.ins C dx fs)):∀ {vs:List V}{ps:List (Int × Int)},zl H vs ps->zl H' vs ps
 | _,_, .nil => .nil
 | _,_, .cons ⟨t,e,q⟩ r => .cons ⟨t,e,o _ _ (aZ q hx (by intro z;cases z)) q⟩ (Off.zO o hx r)
theorem Off.same {H H1 H2:Hp}{x:Addr}(a:Off x H H1)(b:yW H1 H2):Off x H H2:=fun c o n e=>b _ _ (a c o n e)
theorem Rl:ao ["self", "many"] ["self", "many"] (aj O9):=L2.zy
theorem Rm:ao ["self", "lane"] ["self", "lane"] (aj OA):=L2.zy
theorem KJ {f:Addr}{fd:FuncData}(F:zt K "__init__" "TooMany.__init__" O9 f fd):yX P w K mg base aD 1 f fd ["self", "many"] (qf K "many"):=by
 refine F.ok Rl (fun vs H Q E h=>?_) (fun cdv A outer s H vs Q E hr h=>?_)
 ·obtain⟨e,C,tt,v,rfl,_⟩:=h
  rfl
 ·obtain⟨e,C,tt,v,rfl,h1,h2,h3,q⟩:=h
  refine⟨_,ak (kN (pv 0) (pv 1) rfl),?_⟩
  exact⟨_,rfl,_,rfl,e,C,tt,rfl,h1,h2,h3,q⟩
theorem KL {f:Addr}{fd:FuncData}(F:zt K "__init__" "NoRoad.__init__" OA f fd):yX P w K mg base aD 1 f fd ["self", "lane"] (qf K "lane"):=by
 refine F.ok Rm (fun vs H Q E h=>?_) (fun cdv A outer s H vs Q E hr h=>?_)
 ·obtain⟨e,C,tt,v,rfl,_⟩:=h
  rfl
 ·obtain⟨e,C,tt,v,rfl,h1,h2,h3,q⟩:=h
  refine⟨_,ak (kN (pv 0) (pv 1) rfl),?_⟩
  exact⟨_,rfl,_,rfl,e,C,tt,rfl,h1,h2,h3,q⟩
theorem CF:ao NI ["self", "places", "lanes"] (aj lM):=L2.zy
theorem yJ:Ae NI (aj lM) (r6 ((aH lM).getD 4 (.Pass ⟨0,0,0,0⟩))) [] []:=L2.Bf
theorem yr:(["pair"]:List Str).Nodup:=by decide +kernel
theorem vA {c:Cs}{f fw ft f1 f2:Addr}{fd dw dt d1 d2:FuncData}{t1 t2:Tok}(F:zt K "__init__" "Land.__init__" lM f fd)(T:eO mg)(L:ku K c)(X:Exc K mg c f1 f2 d1 d2)
  (mw:mg "is_within" = some (.ref fw)) (kw:keepIn K (.ref fw)=true) (bw:Binds K dw ["value", "least", "most"] []) (Gw:yX P w K mg base aD 2 fw dw ["value", "least", "most"] ja)
  (mt:mg "are_two_places" = some (.ref ft)) (kt:keepIn K (.ref ft)=true) (bt:Binds K dt ["places", "one", "other"] []) (Gt:yX P w K mg base aD 3 ft dt ["places", "one", "other"] rE)
  (mp:mg "MOST_PLACES" = some (.int 12 t1)) (ml:mg "MOST_LANES" = some (.int 40 t2)) :
  yX P w K mg base (eR P w) 4 f fd ["self", "places", "lanes"] (rV K c):=by
 have Gm:yX P w K mg base aD 1 f1 d1 ["self", "many"] (qf K "many"):=KJ X.Ftm
 have Gr:yX P w K mg base aD 1 f2 d2 ["self", "lane"] (qf K "lane"):=KL X.Fnr
 refine F.Ew CF (fun vs H Q E h=>?_) (fun cdv A outer s H vs Q E hr h=>?_)
 ·obtain⟨x,dx,n,p,lvs,ps,rfl,_⟩:=h
  rfl
 ·obtain⟨x,dx,n,p,lvs,ps,rfl,hx,hp,hl,hlen,h1,h2,h3,h4⟩:=h
  have Ay:zi 2 _:=hr.mono (by decide)
  refine⟨_,af (aN (bW (bK (aw Gw Ay rfl mw kw bw .nil aq (aa (pv 1) (aa ah (aa (eI (v := .int 12) rfl mp ⟨_,rfl⟩) ad))))))
    (ak (b8 rfl X.Wg aP (ce X.Wg X.knp rfl rfl X.mnp (aa aX ad)))) aE)
   (af (aN (ax wH (aG ay rfl T.len PySem.boot_len (aa (pv 2) ad)) (eI (v := .int 40) rfl ml ⟨_,rfl⟩) (aB _))
    (ak (b8 rfl X.Wh aP (iH X.Wh X.itm X.ktm Gm Ay X.btm rfl X.mtm (aa (aG ay rfl T.len PySem.boot_len (aa (pv 2) ad)) ad)))) aE)
   (af (bN pz rfl (lQ rfl T.enum (aa (pv 2) ad)) (fB rfl (aO (av (i:=3) CF.nd rfl (Or.inl rfl)) (aO (av (i:=4) CF.nd rfl (Or.inl rfl)) dC)))
    (ak (aN (bW (bK (aw Gt hr rfl mt kt bt .nil aq (aa (pv 1) (aa (ap ar (pv 4) ah (fun _ _=>rfl)) (aa (ap ar (pv 4) ah (fun _ _=>rfl)) ad))))))
     (ak (b8 rfl X.Wi aP (iH X.Wi X.inr X.knr Gr Ay X.bnr rfl X.mnr (aa (pv 3) ad)))) aE)))
   (af (aY (pv 0) (pv 1) rfl)
   (ak (aY (pv 0) (bF dO rfl T.tuple PySem.Pv.boot_tuple (aa (bz (own:=["pair"]) (capN:=[]) (cap:=[]) yJ rfl (bO (pv 2))
    (fun C s' H' fp=>⟨av (i:=0) yr rfl (Or.inl rfl),bJ,aW (aa (ap (show oG _ (kM K) from ar) (pv 0) ah (fun _ _=>rfl)) (aa (ap (show oG _ (kM K) from ar) (pv 0) ah (fun _ _=>rfl)) ad))⟩)) ad)) rfl))))),?_⟩
  refine⟨_,rfl,n,1,12,rfl,_,rfl,?_⟩
  by_cases hn:1 <= n/\n <= 12
  rotate_left
  ·rw[decide_eq_false hn]
   refine aK ⟨by show 1 <= sizeLine;decide,?_⟩
   exact h1 (by unfold fL;rw[if_pos (decide_eq_false hn)]) H (yW.refl H)
  rw[decide_eq_true hn]
  refine aI ?_
  have CW:lvs.length=ps.length:=Paired.length hl
  refine⟨_,rfl,p,_,rfl, .inl hp,_,_,rfl,rfl,_,rfl,?_⟩
  by_cases hm:40 < ps.length
  ·rw[decide_eq_true (show (40:Int) < (lvs.length:Nat) by omega)]
   refine aK ⟨_,rfl,p,_,rfl, .inl hp,by show 1 <= sizeLine;decide,fun e tt he=>⟨e,_,tt,_,rfl,ac,X.ctm,X.ntm,fun d hd=>⟨rfl,?_⟩⟩⟩
   obtain⟨m1,m2,m3⟩:=iu (o:=bM e c.tm tt none) (o':=bM e c.tm tt (some d)) (x := .xd [("many", .int (lvs.length:Nat))]) he hd
   refine⟨some d,m3,h2 ps.length ?_ _ d m1 (by rw[m2,CW])⟩
   unfold fL
   rw[decide_eq_true hn,if_neg (by decide),if_pos hm]
  rw[decide_eq_false (show ¬ (40:Int) < (lvs.length:Nat) by omega)]
  refine aI ?_
  refine⟨_,rfl,p,rfl,⟨_,hp⟩,mD (sq:=fun H=>zb K H p) (xs:=lvs) (fun i σ H2=>∃ a b:Option V,yW H H2/\σ=[some (.ref x),some (.int n),some (.ref p),a,b]/\∀ q ∈ ps.take i,j8 n q=true)
   ⟨none,none,yW.refl H,rfl,fun q hq=>by simp at hq⟩ (fun i σ H2 _ ⟨a,b,s2,_⟩=>s2.seq hp) ?_ ?_⟩
  ·rintro i v q σ H2 hv ⟨a,b,s2,rfl,Ax⟩ hq
   obtain⟨pr,hpr,t,rfl,ht⟩:=zl.get hl hv
   have s3:yW H (upd H2 q (.tup [.int i, .ref t])):=s2.new hq
   refine⟨q,_,rfl,zc.of ac,rfl,_,_,rfl,_,_,rfl,rfl,?_⟩
   have CT:zc K (upd H2 q (.tup [.int i, .ref t])) t [.int pr.1, .int pr.2]:=zc.of (s3 _ _ ht)
   refine⟨_,rfl,_,rfl,t,_,0,_,rfl,rfl,CT,ai (j:=0) rfl,?_⟩
   refine⟨_,rfl,t,_,1,_,rfl,rfl,CT,ai (j:=1) rfl,n,pr.1,pr.2,rfl,_,rfl,?_⟩
   cases ho:j8 n (pr.1,pr.2) with
   | true =>
    refine aI ⟨some (.int i),some (.ref t),s3,rfl,fun z hz=>?_⟩
    rw[take_succ,hpr]at hz
    rcases mem_append.mp hz with hz | hz
    ·exact Ax z hz
    ·have:z=pr:=by simpa using hz
     rw[this];exact ho
   | false =>
    refine aK ⟨_,rfl,by show 1 <= sizeLine;decide,fun e tt he=>⟨e,_,tt,_,rfl,ac,X.cnr,X.nnr,fun d hd=>⟨rfl,?_⟩⟩⟩
    obtain⟨m1,m2,m3⟩:=iu (o:=bM e c.nr tt none) (o':=bM e c.nr tt (some d)) (x := .xd [("lane", .int i)]) he hd
    refine⟨some d,m3,h3 i ?_ _ d (s3.trans m1) m2⟩
    unfold fL
    rw[decide_eq_true hn,if_neg (by decide),if_neg hm,oF Ax hpr ho]
  ·rintro σ H2 ⟨a,b,s2,rfl,Ax⟩
   have KN:fL n ps = .good:=by
    unfold fL
    rw[decide_eq_true hn,if_neg (by decide),if_neg hm,j5 (fun z hz=>Ax z (by rw[CW,take_length];exact hz))]
   have CY:=s2 _ _ hx
   refine⟨_,rfl,_,rfl,x,c.land,dx,_,rfl,CY,L.cl,L.np,by show 0 < 1000;decide,?_⟩
   generalize Wj:upd H2 x (.ins c.land dx (aL "places" (.int n) []))=H3
   have o3:Off x H H3:=fun b o hb e=>by rw[← Wj,ae hb];exact s2 _ _ e
   have x3:H3 x=some (.ins c.land dx [("places", .int n)]):=by rw[← Wj,ac];rfl
   have l3:zl H3 lvs ps:=o3.zO hx hl
   have p3:zb K H3 p lvs:=o3.sq hx hp
   refine⟨_,rfl,p,rfl,⟨_,p3⟩,bI lvs.length (by rw[sizeLine_eq];omega) (fun i acc H4=>yW H3 H4/\acc.length=i/\zl H4 acc (ps.take i)) ⟨yW.refl _,rfl, .nil⟩ (fun i acc H4 h=>le_of_eq h.2.1) ?_ ?_⟩
   ·rintro i acc H4 hi ⟨s4,ha,hA⟩
    have q4:=s4.seq p3
    refine⟨⟨lvs,lvs[i],q4,by simp[hi]⟩,fun y H5 ⟨e5,hy⟩=>?_⟩
    subst e5
    have hy:=hy lvs q4
    obtain⟨pr,hpr,t,rfl,ht⟩:=zl.get l3 hy
    have CT:zc K H5 t [.int pr.1, .int pr.2]:=zc.of (s4 _ _ ht)
    refine⟨_,rfl,t,_,0,_,rfl,rfl,CT,ai (j:=0) rfl,?_⟩
    refine⟨_,rfl,t,_,1,_,rfl,rfl,CT,ai (j:=1) rfl,by show 2 <= sizeLine;decide,fun r F3=>?_⟩
    refine⟨s4.new F3,by rw[length_append,ha];rfl,?_⟩
    rw[take_succ,hpr]
    exact zl.snoc ⟨r,rfl,ac⟩ (zl.same (yW.new (yW.refl _) F3) hA)
   ·rintro acc H4 ⟨s4,ha,hA⟩
    have q4:=s4.seq p3
    refine⟨⟨lvs,q4,le_refl _⟩,fun D hD=>?_⟩
    have s5:yW H3 (upd H4 D (.lst acc)):=s4.new hD
    refine⟨D,acc,rfl, .inl ⟨zb.of ac,fun t ht=>?_⟩⟩
    have s6:yW H3 (upd (upd H4 D (.lst acc)) t (.tup acc)):=s5.new ht
    have x6:=s6 _ _ x3
    refine⟨_,rfl,x,c.land,dx,_,rfl,x6,L.cl,L.nl,by show 1 < 1000;decide,?_⟩
    have htx:t ≠ x:=fun z=>by rw[z,s5 _ _ x3]at ht;cases ht
    refine h4 KN _ t acc (fun b o hb e=>?_) ⟨by rw[ac];rfl,by rw[ae htx,ac],?_⟩
    ·rw[ae hb];exact s6 _ _ (o3 b o hb e)
    ·have hA':zl H4 acc ps:=by rw[CW,take_length]at hA;exact hA
     have x4:=s4 _ _ x3
     have hA6:zl (upd (upd H4 D (.lst acc)) t (.tup acc)) acc ps:=zl.same (yW.new (yW.new (yW.refl _) hD) ht) hA'
     exact Off.zO (x:=x) (fun b o hb e=>by rw[ae hb];exact e) x6 hA6
noncomputable def jt (sel:Int × Int->Int)(ps:List (Int × Int))(pl:Int)(m:Nat):List V:=((List.range m).filter fun k=>decide (sel (ps.getD k (0,0))=pl)).map fun k:Nat=>V.int k
noncomputable def qg (c:Cs)(sel:Int × Int->Int):Sp:=fun vs H Q _=>∃ (x dx t:Addr)(n:Int)(zg:List V)(ps:List (Int × Int))(pl:Int),vs=[.ref x, .int pl]/\cr H c x dx t n zg ps/\ps.length <= 1000 /\
 ∀ H' D,yW H H'->H' D=none->Q (.ref D) (upd H' D (.lst (jt sel ps pl ps.length)))
theorem mB {sel:Int × Int->Int}{ps:List (Int × Int)}{pl:Int}{i:Nat}{pr:Int × Int}(h:ps[i]? = some pr):jt sel ps pl (i + 1)=if decide (sel pr=pl) then jt sel ps pl i ++ [V.int i] else jt sel ps pl i:=by
 have e:ps.getD i (0,0)=pr:=by rw[getD_eq_getElem?_getD,h];rfl
 unfold jt
 rw[range_succ,filter_append]
 by_cases hs:sel pr=pl
 ·rw[if_pos (decide_eq_true hs),List.filter_cons_of_pos (by rw[e];exact decide_eq_true hs)];simp
 ·rw[if_neg (by rw[decide_eq_false hs];decide),List.filter_cons_of_neg (by rw[e,decide_eq_false hs];decide)];simp
theorem pI {sel:Int × Int->Int}{ps:List (Int × Int)}{pl:Int}{i:Nat}:(jt sel ps pl i).length <= i:=by
 unfold jt
 rw[length_map]
 have:=length_filter_le (fun k=>decide (sel (ps.getD k (0,0))=pl)) (List.range i)
 rwa [length_range]at this
theorem KO:ao ["self", "place"] ["self", "place"] (aj sw):=L2.zy
theorem KP:Ae ["self", "place"] (aj sw) (jg sw) ["place"] [1]:=L2.Bf
theorem xq:ao ["self", "place"] ["self", "place"] (aj lL):=L2.zy
theorem yI:Ae ["self", "place"] (aj lL) (jg lL) ["place"] [1]:=L2.Bf
theorem pC:(["lane", "pair", "place"]:List Str).Nodup:=by decide +kernel
theorem gq (a b:Int):decide (V.int a=V.int b)=decide (a=b):=by
 by_cases h:a=b
 ·rw[h];simp
 ·rw[decide_eq_false h,decide_eq_false fun z=>h (by injection z)]
theorem tE {c:Cs}{f:Addr}{fd:FuncData}(F:zt K "out_of" "Land.out_of" sw f fd)(T:eO mg)(L:ku K c):yX P w K mg base aD 1 f fd ["self", "place"] (qg c Prod.fst):=by
 refine F.ok KO (fun vs H Q E h=>?_) (fun cdv A outer s H vs Q E hr h=>?_)
 ·obtain⟨x,dx,t,n,zg,ps,pl,rfl,_⟩:=h
  rfl
 ·obtain⟨x,dx,t,n,zg,ps,pl,rfl,⟨hx,ht,hl⟩,hlen,q⟩:=h
  refine⟨_,ak (au (bz (own:=["lane", "pair"]) (capN:=["place"]) (cap:=[1]) KP rfl (lP rfl T.enum (aa (al (pv 0) rfl) ad))
   (fun C s' H' fp=>⟨(show PG _ _ (yC K 2 _) from fB rfl (aO (av (i:=0) pC rfl (Or.inl rfl)) (aO (av (i:=1) pC rfl (Or.inl rfl)) dC))),
    cx (ax bv (ap (show oG _ (kM K) from ar) (pv 1) ah (fun _ _=>rfl)) (pv 2) (aB _)),pv 0⟩))),?_⟩
  have CW:zg.length=ps.length:=Paired.length hl
  refine⟨_,rfl,x,c.land,dx,_,_,rfl,hx,L.cl,L.nl,rfl,t,rfl,⟨_,zc.of ht⟩,bI ps.length (by rw[sizeLine_eq];omega) (fun i acc H4=>yW H H4/\acc=jt Prod.fst ps pl i) ⟨yW.refl _,rfl⟩ (fun i acc H4 h=>by rw[h.2];exact pI) ?_ ?_⟩
  ·rintro i acc H4 hi ⟨s4,rfl⟩
   have q4:zc K H4 t zg:=zc.of (s4 _ _ ht)
   refine⟨⟨zg,zg[i]'(by omega),q4,by simp[CW,hi]⟩,fun y H5 ⟨r,Cp,ey,h5⟩=>?_⟩
   obtain⟨v,hv,rfl⟩:=h5 zg q4
   subst ey
   obtain⟨pr,hpr,u,rfl,hu⟩:=zl.get hl hv
   have s5:yW H (upd H4 r (.tup [.int i, .ref u])):=s4.new Cp
   refine⟨r,_,rfl,zc.of ac,rfl,_,_,rfl,_,_,rfl,rfl,?_⟩
   refine⟨_,rfl,u,_,0,_,rfl,rfl,zc.of (s5 _ _ hu),ai (j:=0) rfl,_,rfl,rfl,_,rfl,?_⟩
   rw[gq,mB hpr]
   cases hd:decide (pr.1=pl) with
   | true=>exact aK ⟨_,rfl,s5,by simp[hd]⟩
   | false=>exact aI ⟨s5,by simp[hd]⟩
  ·rintro acc H4 ⟨s4,rfl⟩
   exact⟨⟨zg,zc.of (s4 _ _ ht),CW⟩,fun D hD=>q H4 D s4 hD⟩
theorem p9 {c:Cs}{f:Addr}{fd:FuncData}(F:zt K "into" "Land.into" lL f fd)(T:eO mg)(L:ku K c):yX P w K mg base aD 1 f fd ["self", "place"] (qg c Prod.snd):=by
 refine F.ok xq (fun vs H Q E h=>?_) (fun cdv A outer s H vs Q E hr h=>?_)
 ·obtain⟨x,dx,t,n,zg,ps,pl,rfl,_⟩:=h
  rfl
 ·obtain⟨x,dx,t,n,zg,ps,pl,rfl,⟨hx,ht,hl⟩,hlen,q⟩:=h
  refine⟨_,ak (au (bz (own:=["lane", "pair"]) (capN:=["place"]) (cap:=[1]) yI rfl (lP rfl T.enum (aa (al (pv 0) rfl) ad))
   (fun C s' H' fp=>⟨(show PG _ _ (yC K 2 _) from fB rfl (aO (av (i:=0) pC rfl (Or.inl rfl)) (aO (av (i:=1) pC rfl (Or.inl rfl)) dC))),
    cx (ax bv (ap (show oG _ (kM K) from ar) (pv 1) ah (fun _ _=>rfl)) (pv 2) (aB _)),pv 0⟩))),?_⟩
  have CW:zg.length=ps.length:=Paired.length hl
  refine⟨_,rfl,x,c.land,dx,_,_,rfl,hx,L.cl,L.nl,rfl,t,rfl,⟨_,zc.of ht⟩,bI ps.length (by rw[sizeLine_eq];omega) (fun i acc H4=>yW H H4/\acc=jt Prod.snd ps pl i) ⟨yW.refl _,rfl⟩ (fun i acc H4 h=>by rw[h.2];exact pI) ?_ ?_⟩
  ·rintro i acc H4 hi ⟨s4,rfl⟩
   have q4:zc K H4 t zg:=zc.of (s4 _ _ ht)
   refine⟨⟨zg,zg[i]'(by omega),q4,by simp[CW,hi]⟩,fun y H5 ⟨r,Cp,ey,h5⟩=>?_⟩
   obtain⟨v,hv,rfl⟩:=h5 zg q4
   subst ey
   obtain⟨pr,hpr,u,rfl,hu⟩:=zl.get hl hv
   have s5:yW H (upd H4 r (.tup [.int i, .ref u])):=s4.new Cp
   refine⟨r,_,rfl,zc.of ac,rfl,_,_,rfl,_,_,rfl,rfl,?_⟩
   refine⟨_,rfl,u,_,1,_,rfl,rfl,zc.of (s5 _ _ hu),ai (j:=1) rfl,_,rfl,rfl,_,rfl,?_⟩
   rw[gq,mB hpr]
   cases hd:decide (pr.2=pl) with
   | true=>exact aK ⟨_,rfl,s5,by simp[hd]⟩
   | false=>exact aI ⟨s5,by simp[hd]⟩
  ·rintro acc H4 ⟨s4,rfl⟩
   exact⟨⟨zg,zc.of (s4 _ _ ht),CW⟩,fun D hD=>q H4 D s4 hD⟩
noncomputable def wE:Sp:=fun vs H Q _=>∃ m k:Nat,vs=[.int m, .int k]/\Q (.bl (m.testBit k)) H
noncomputable def vL (m:Nat):List V:=(Yd.C7 m (Builtin.Int.intBits (m:Int))).map fun k:Nat=>V.int k
noncomputable def rN:Sp:=fun vs H Q _=>∃ m:Nat,vs=[.int m]/\m < 2 ^ 400/\∀ p,H p=none->Q (.ref p) (upd H p (.lst (vL m)))
noncomputable def rH (K:Frag):Sp:=fun vs H Q _=>∃ (a:Addr)(ks:List Nat),vs=[.ref a]/\zb K H a (ks.map fun k:Nat=>V.int k)/\(∀ k ∈ ks,k <= 1000)/\Q (.int (Yd.zD ks 0:Nat)) H
theorem KQ:ao ["some", "number"] ["some", "number"] (aj uP):=L2.zy
theorem yo {f:Addr}{fd:FuncData}(F:zt K "has" "has" uP f fd):yX P w K mg base aD 1 f fd ["some", "number"] wE:=by
 refine F.ok KQ (fun vs H Q E h=>?_) (fun cdv A outer s H vs Q E hr h=>?_)
 ·obtain⟨m,k,rfl,_⟩:=h
  rfl
 ·obtain⟨m,k,rfl,q⟩:=h
  refine⟨_,ak (au (dJ (c8 wI (pv 1) ah (aB _)) (dI (c8 bv (az tq (az tj (pv 0) (pv 1)) ah) ah (aB _))))),?_⟩
  refine⟨_,rfl,_,_,rfl,rfl,_,rfl,?_⟩
  rw[decide_eq_true (show (0:Int) <= (k:Int) by omega)]
  refine aK ?_
  refine⟨_,rfl,_,rfl,_,_,rfl,rfl,(show (0:Int) <= (k:Int) by omega),_,_,rfl,rfl,rfl,?_⟩
  have e:decide (V.int (Builtin.bitAnd ((m:Int) / 2 ^ (k:Int).toNat) 1)=V.int 1)=m.testBit k:=by
   rw[toNat_natCast,← Yd.CQ m k]
   by_cases h:Builtin.bitAnd ((m:Int) / 2 ^ k) 1=1
   ·rw[h];simp
   ·rw[decide_eq_false h,decide_eq_false fun z=>h (by injection z)]
  rw[e]
  exact q
theorem tQ {ks:List Nat}{i:Nat}{x:V}(h:(ks.map fun k:Nat=>V.int k)[i]? = some x):∃ k,ks[i]? = some k/\x=V.int k:=by
 rw[List.getElem?_map]at h
 cases e:ks[i]? with
 | none=>rw[e]at h;cases h
 | some k=>rw[e]at h;exact⟨k,rfl,(Option.some.inj h).symm⟩
theorem CZ:ao ["numbers", "some", "number"] ["numbers"] (aj xx):=L2.zy
theorem ya {f:Addr}{fd:FuncData}(F:zt K "set_of" "set_of" xx f fd):yX P w K mg base aD 1 f fd ["numbers"] (rH K):=by
 refine F.ok CZ (fun vs H Q E h=>?_) (fun cdv A outer s H vs Q E hr h=>?_)
 ·obtain⟨a,ks,rfl,_⟩:=h
  rfl
 ·obtain⟨a,ks,rfl,hS,hk,q⟩:=h
  refine⟨_,af (aA (i:=1) CZ.nd rfl (Or.inl rfl) ah)
   (af (bN PassesOwn.never rfl (bO (pv 0)) (av (i:=2) CZ.nd rfl (Or.inl rfl))
    (ak (aA (i:=1) CZ.nd rfl (Or.inl rfl) (az JP (pv 1) (az xS ah (pv 2))))))
   (ak (au (pv 1)))),?_⟩
  refine⟨_,rfl,a,rfl,⟨_,hS⟩,hU (K:=K) (a:=a) (xs:=ks.map fun k:Nat=>V.int k) (fun i σ H2=>∃ v:Option V,H2=H/\σ=[some (.ref a),some (.int (Yd.zD (ks.take i) 0:Nat)),v])
   ⟨none,rfl,rfl⟩ (fun i σ H2 _ ⟨_,e,_⟩=>by rw[e];exact hS) ?_ ?_⟩
  ·rintro i x σ H2 hx ⟨v,rfl,rfl⟩
   obtain⟨k,ek,rfl⟩:=tQ hx
   have DG:=hk k (mem_of_getElem? ek)
   refine⟨_,rfl,_,rfl,_,_,rfl,rfl,⟨(show (0:Int) <= (k:Int) by omega),(show (k:Int) <= 1000000 by omega),(by decide)⟩,_,_,rfl,rfl,some (.int k),rfl,?_⟩
   have e:Builtin.bitOr ((Yd.zD (ks.take i) 0:Nat):Int) (1 * 2 ^ (k:Int).toNat)=((Yd.zD (ks.take (i + 1)) 0:Nat):Int):=by
    rw[take_succ,ek,toNat_natCast,Int.one_mul,show (2:Int) ^ k=((2 ^ k:Nat):Int) by rw[Int.natCast_pow];rfl,Yd.Du,Yd.DR]
    rfl
   show [some (V.ref a),some (V.int _),some (V.int k)]=_
   rw[e]
  ·rintro σ H2 ⟨v,rfl,rfl⟩
   refine⟨_,rfl,?_⟩
   rw[length_map,take_length]
   exact q
theorem KR:ao ["some"] ["some"] (aj sC):=L2.zy
theorem KS:(["number", "some"]:List Str).Nodup:=by decide +kernel
theorem KU:Ae ["some"] (aj sC) (jg sC) ["some"] [0]:=L2.Bf
theorem yf {f fh:Addr}{fd BY:FuncData}(F:zt K "members" "members" sC f fd)(T:eO mg)(mh:mg "has" = some (.ref fh))(Fh:zt K "has" "has" uP fh BY)(bh:Binds K BY ["some", "number"] []):yX P w K mg base aD 2 f fd ["some"] rN:=by
 have G:yX P w K mg base aD 1 fh BY ["some", "number"] wE:=yo Fh
 refine F.ok KR (fun vs H Q E h=>?_) (fun cdv A outer s H vs Q E hr h=>?_)
 ·obtain⟨m,rfl,_⟩:=h
  rfl
 ·obtain⟨m,rfl,hm,q⟩:=h
  refine⟨_,ak (au (bz (own:=["number"]) (capN:=["some"]) (cap:=[0]) KU rfl
   (aM rfl T.range (aa (xM PySem.F.plainAttrs_int PySem.F.slot_int_bit_length PySem.F.type_int_bit_length vH (pv 0)) ad))
   (fun C s' H' fp=>⟨av (i:=0) KS rfl (Or.inl rfl),cx (bK (aw G hr rfl mh Fh.kp bh .nil aq (aa (pv 1) (aa (pv 0) ad)))),pv 0⟩))),?_⟩
  have hb:Builtin.Int.intBits (m:Int) <= 400:=Yd.bits_le hm
  refine⟨_,rfl,rfl,_,rfl,rfl,(Builtin.Int.intBits (m:Int):Nat),rfl,by omega,by omega,?_⟩
  rw[toNat_natCast]
  refine mO (fun k=>m.testBit k) (fun k=>V.int k) (by rw[sizeLine_eq];omega) (fun i acc N hi h=>?_) q
  refine⟨_,rfl,_,rfl,m,i,by simp,_,rfl,?_⟩
  cases e:m.testBit i with
  | true =>
   rw[e]at h
   refine aK ⟨_,rfl,?_⟩
   simpa using h
  | false =>
   rw[e]at h
   exact aI (by simpa using h)
noncomputable def iz (ks:List Nat):List Int:=ks.map fun k:Nat=>(k:Int)
theorem vR (ks:List Nat):(iz ks).map V.int=ks.map fun k:Nat=>V.int k:=by rw[iz,map_map];rfl
theorem vK (m:Nat):vL m=(iz (Yd.C7 m (Builtin.Int.intBits (m:Int)))).map V.int:=by rw[vR];rfl
theorem vQ {ks:List Nat}(h:ks.Pairwise (· < ·)):(iz ks).Pairwise (· < ·):=by
 unfold iz
 rw[List.pairwise_map]
 exact h.imp fun z=>by omega
theorem Al {ks:List Nat}{k:Int}:k ∈ iz ks↔∃ n ∈ ks,(n:Int)=k:=mem_map
theorem nX {ks:List Nat}{ms:List Int}(h1:ms.Pairwise (· < ·))(h2:∀ k,k ∈ ms↔k ∈ iz ks):iz (Yd.C7 (Yd.zD ks 0) (Builtin.Int.intBits ((Yd.zD ks 0:Nat):Int)))=ms:=by
 refine Yd.Cj (vQ (Yd.Dv _ _)) h1 fun k=>?_
 rw[h2 k,Al,Al]
 constructor
 ·rintro⟨n,hn,e⟩
  rw[Yd.Ci (Yd.CP _),Yd.Ak]at hn
  exact⟨n,by simpa using hn,e⟩
 ·rintro⟨n,hn,e⟩
  refine⟨n,?_,e⟩
  rw[Yd.Ci (Yd.CP _),Yd.Ak]
  simpa using hn
theorem rZ {ks:List Nat}{b:Nat}(h:∀ k ∈ ks,k < b):Yd.zD ks 0 < 2 ^ b:=by
 rw[← Yd.EC h]
 exact Yd.BK ks b
theorem qd {ks:List Nat}{k:Nat}:(Yd.zD ks 0).testBit k=decide ((k:Int) ∈ iz ks):=by
 rw[Yd.Ak,Nat.zero_testBit,Bool.false_or]
 congr 1
 refine propext ⟨fun h=>Al.mpr ⟨k,h,rfl⟩,fun h=>?_⟩
 obtain⟨n,hn,e⟩:=Al.mp h
 have:n=k:=by omega
 rw[← this]
 exact hn
structure Rw where
 p:Int
 g:Int
 c:Option Nat
 s:List Nat
noncomputable def bj (r:Rw):gi:=[some r.p,some r.g,r.c.map fun k:Nat=>(k:Int)]
noncomputable def eV (sel:Int × Int->Int)(ps:List (Int × Int))(pl:Int):List Nat:=(List.range ps.length).filter fun k=>decide (sel (ps.getD k (0,0))=pl)
noncomputable def eW (n:Int)(ps:List (Int × Int))(r:Rw):Bool :=
 j8 n (r.p,r.g) && ((match r.c with | none=>true | some k=>decide (k ∈ eV Prod.snd ps r.p)) && r.s.all fun k=>decide (k ∈ eV Prod.fst ps r.p))
noncomputable def lX (sel:Int × Int->Int)(ps:List (Int × Int))(pl:Int)(k:Nat):Bool:=decide (ps.length <= k) || !decide (sel (ps.getD k (0,0))=pl)
noncomputable def mV (n:Int)(ps:List (Int × Int))(ahead:List Rw)(r:Rw):Bool :=
 !j8 n (r.p,r.g) || ((match r.c with | none=>false | some k=>lX Prod.snd ps r.p k) || ((r.s.any fun k=>lX Prod.fst ps r.p k) || ahead.any fun a=>decide (bj a=bj r)))
theorem pK {sel:Int × Int->Int}{ps:List (Int × Int)}{pl:Int}{k:Nat}:decide (k ∈ eV sel ps pl) = !lX sel ps pl k:=by
 unfold eV lX
 by_cases h1:ps.length <= k
 ·rw[decide_eq_true h1,decide_eq_false]
  ·rfl
  ·intro z
   have:=mem_range.mp (mem_filter.mp z).1
   omega
 ·rw[decide_eq_false h1]
  by_cases h2:sel (ps.getD k (0,0))=pl
  ·rw[decide_eq_true h2,decide_eq_true]
   ·rfl
   ·exact mem_filter.mpr ⟨mem_range.mpr (by omega),decide_eq_true h2⟩
  ·rw[decide_eq_false h2,decide_eq_false]
   ·rfl
   ·intro z
    exact h2 (of_decide_eq_true (mem_filter.mp z).2)
theorem wj {l:List Nat}{f:Nat->Bool}:(l.all fun k=>!f k) = !(l.any f):=by
 induction l with
 | nil=>rfl
 | cons a l ih=>rw[all_cons,any_cons,ih,Bool.not_or]
theorem ig (n:Int)(ps:List (Int × Int))(ahead:List Rw)(r:Rw):mV n ps ahead r=(!eW n ps r || ahead.any fun a=>decide (bj a=bj r)):=by
 unfold mV eW
 have e:(r.s.all fun k=>decide (k ∈ eV Prod.fst ps r.p)) = !(r.s.any fun k=>lX Prod.fst ps r.p k):=by
  rw[← wj]
  congr 1
  funext k
  exact pK
 rw[e]
 cases hc:r.c with
 | none =>
  dsimp only
  cases j8 n (r.p,r.g)<;>cases (r.s.any fun k=>lX Prod.fst ps r.p k)<;>cases (ahead.any fun a=>decide (bj a=bj r))<;>rfl
 | some k =>
  dsimp only
  rw[pK]
  cases j8 n (r.p,r.g)<;>cases (lX Prod.snd ps r.p k)<;>cases (r.s.any fun k=>lX Prod.fst ps r.p k)<;>cases (ahead.any fun a=>decide (bj a=bj r))<;>rfl
noncomputable def du (n:Int)(ps:List (Int × Int))(rs:List Rw)(m:Nat):Option Nat:=(List.range m).find? fun k=>mV n ps (rs.take k) (rs.getD k ⟨0,0,none,[]⟩)
theorem ge {n:Int}{ps:List (Int × Int)}{rs:List Rw}:∀ {m:Nat},(∀ k,k < m->mV n ps (rs.take k) (rs.getD k ⟨0,0,none,[]⟩)=false)->du n ps rs m=none:=by
 intro m h
 unfold du
 rw[List.find?_eq_none]
 intro k hk
 rw[h k (mem_range.mp hk)]
 decide
theorem jB {n:Int}{ps:List (Int × Int)}{rs:List Rw}{m i:Nat}(hi:i < m)(h:∀ k,k < i->mV n ps (rs.take k) (rs.getD k ⟨0,0,none,[]⟩)=false)(hb:mV n ps (rs.take i) (rs.getD i ⟨0,0,none,[]⟩)=true):du n ps rs m=some i:=by
 unfold du
 rw[List.find?_range_eq_some]
 refine⟨hb,mem_range.mpr hi,fun j hj=>?_⟩
 rw[h j hj]
 rfl
noncomputable def dZ (rs:List Rw)(k:gi):Option Rw:=rs.reverse.find? fun r=>decide (bj r=k)
theorem om {rs:List Rw}{r:Rw}{k:gi}:dZ (rs ++ [r]) k=if k=bj r then some r else dZ rs k:=by
 unfold dZ
 rw[List.reverse_append,List.reverse_singleton,List.singleton_append,List.find?_cons]
 by_cases h:bj r=k
 ·rw[decide_eq_true h,if_pos h.symm]
 ·rw[decide_eq_false h,if_neg (Ne.symm h)]
theorem kY {rs:List Rw}{k:gi}:(dZ rs k).isSome=rs.any fun r=>decide (bj r=k):=by
 unfold dZ
 rw[Bool.eq_iff_iff,List.find?_isSome,List.any_eq_true]
 exact⟨fun⟨x,hx,h⟩=>⟨x,mem_reverse.mp hx,h⟩,fun⟨x,hx,h⟩=>⟨x,mem_reverse.mpr hx,h⟩⟩
noncomputable def cV:Option Nat->V
 | none => .zm
 | some k => .int k
noncomputable def bR (ks:List Nat):List V:=ks.map fun k:Nat=>V.int k
noncomputable def HA (H:Hp)(t l:Addr)(r:Rw):Prop:=H t=some (.tup [.int r.p, .int r.g,cV r.c, .ref l])/\H l=some (.lst (bR r.s))
noncomputable def HB (H:Hp)(v:V)(r:Rw):Prop:=∃ t l,v = .ref t/\HA H t l r
noncomputable abbrev C1 (H:Hp):List V->List Rw->Prop:=Paired (HB H)
theorem HA.same {H H':Hp}{t l:Addr}{r:Rw}(h:yW H H')(x:HA H t l r):HA H' t l r:=⟨h _ _ x.1,h _ _ x.2⟩
theorem HB.same {H H':Hp}{v:V}{r:Rw}(h:yW H H'):HB H v r->HB H' v r:=fun⟨t,l,e,x⟩=>⟨t,l,e,x.same h⟩
theorem C1.imp {H H':Hp}(h:∀ v r,HB H v r->HB H' v r):∀ {vs:List V}{rs:List Rw},C1 H vs rs->C1 H' vs rs
 | _,_, .nil => .nil
 | _,_, .cons x r => .cons (h _ _ x) (C1.imp h r)
theorem C1.same {H H':Hp}(h:yW H H'){vs:List V}{rs:List Rw}(x:C1 H vs rs):C1 H' vs rs:=C1.imp (fun _ _ z=>z.same h) x
theorem C1.get {H:Hp}:∀ {vs:List V}{rs:List Rw}{i:Nat}{v:V},C1 H vs rs->vs[i]? = some v->∃ r,rs[i]? = some r/\HB H v r
 | _,_,_,_, .nil,e=>by simp at e
 | _,_,0,_, .cons x _,e=>by simp at e;subst e;exact⟨_,rfl,x⟩
 | _,_,i + 1,v, .cons _ t,e=>by
  obtain⟨r,h1,h2⟩:=C1.get (i:=i) (v:=v) t (by simpa using e)
  exact⟨r,by simpa using h1,h2⟩
theorem pH (r:Rw):(bj r).map rj=[.int r.p, .int r.g,cV r.c]:=by
 cases r with
 | mk p g c s=>cases c<;>rfl
theorem ot {sel:Int × Int->Int}{ps:List (Int × Int)}{pl:Int}:jt sel ps pl ps.length=(iz (eV sel ps pl)).map V.int:=by rw[vR];rfl
theorem oq {k:Nat}{l:List Nat}:decide ((k:Int) ∈ iz l)=decide (k ∈ l):=by
 congr 1
 refine propext ⟨fun h=>?_,fun h=>Al.mpr ⟨k,h,rfl⟩⟩
 obtain⟨n,hn,e⟩:=Al.mp h
 have:n=k:=by omega
 rw[← this]
 exact hn
theorem pY (ks l:List Nat):((bR ks).filter fun _=>true).map (fun v=>match v with | .int i=>V.bl (decide (i ∈ iz l)) | _ => .zm)=(ks.map fun k=>decide (k ∈ l)).map V.bl:=by
 rw[List.filter_eq_self.mpr (fun _ _=>rfl)]
 unfold bR
 rw[map_map,map_map]
 refine List.map_congr_left fun k _=>?_
 show V.bl (decide ((k:Int) ∈ iz l))=V.bl (decide (k ∈ l))
 rw[oq]
theorem uw (ks:List Nat)(p:Nat->Bool):(ks.map p).all id=ks.all p:=by rw[all_map];rfl
noncomputable def wz (K:Frag):Sp:=fun vs H Q _=>∃ (i:Int)(p:Addr)(ns:List Int),vs=[.int i, .ref p]/\zb K H p (ns.map V.int)/\Q (.bl (decide (i ∈ ns))) H
noncomputable def rY (c:Cs):Sp:=fun vs H Q _=>∃ (x dx lt t l:Addr)(n:Int)(zg:List V)(ps:List (Int × Int))(r:Rw),vs=[.ref x, .ref t]/\cr H c x dx lt n zg ps/\HA H t l r/\ps.length <= 1000/\r.s.length <= 1000/\∀ H',yW H H'->Q (.bl (eW n ps r)) H'
structure KW (K:Frag)(c:Cs)(f3 f4:Addr)(d3 d4:FuncData):Prop where
 m3:b6 K c.land "out_of" f3
 m4:b6 K c.land "into" f4
 b3:Binds K d3 ["self", "place"] []
 b4:Binds K d4 ["self", "place"] []
noncomputable abbrev NF:List Str:=["land", "row", "place", "came", "begin_here"]
noncomputable def ux (s:Stmt):Scope:=match s with
 | .Return (some (.Call _ [.ListComp _ _ sc _] _ _)) _=>sc
 | _=>{ kind := .function,names:=[],isGenerator:=false,isCoroutine:=false }
theorem KY:ao ["value", "numbers"] ["value", "numbers"] (aj xz):=L2.zy
theorem yc {f fh:Addr}{fd BY:FuncData}(F:zt K "is_one_of" "is_one_of" xz f fd)(T:eO mg)(mh:mg "is_whole" = some (.ref fh))(Fh:zt K "is_whole" "is_whole" gk fh BY)(bh:Binds K BY ["value"] []) :
  yX P w K mg base aD 2 f fd ["value", "numbers"] (wz K):=by
 have G:yX P w K mg base aD 1 fh BY ["value"] k7:=lW Fh T
 refine F.ok KY (fun vs H Q E h=>?_) (fun cdv A outer s H vs Q E hr h=>?_)
 ·obtain⟨i,p,ns,rfl,_⟩:=h
  rfl
 ·obtain⟨i,p,ns,rfl,hS,q⟩:=h
  refine⟨_,ak (au (dJ (aw G hr rfl mh Fh.kp bh .nil aq (aa (pv 0) ad)) (dI (c8 qu (pv 0) (pv 1) (by with_unfolding_all rfl))))),?_⟩
  refine⟨_,rfl,i,rfl,true,rfl,aK ?_⟩
  refine⟨_,rfl,_,rfl,p,_,rfl, .inl hS,rfl,i0 _,?_⟩
  show Q (V.bl (IY (V.int i) (ns.map V.int))) H
  rw[lb]
  exact q
theorem BL:ao NF ["land", "row"] (aj lN):=L2.zy
theorem yK:Ae NF (aj lN) (ux ((aH lN).getD 5 (.Pass ⟨0,0,0,0⟩))) ["begin_here"] [4]:=L2.Bf
theorem yt:(["lane", "begin_here"]:List Str).Nodup:=by decide +kernel
theorem vE {c:Cs}{f ft fo f3 f4:Addr}{fd dt d1 d3 d4:FuncData}(F:zt K "row_fits" "row_fits" lN f fd)(T:eO mg)(L:ku K c)(M:KW K c f3 f4 d3 d4)
  (mt:mg "are_two_places" = some (.ref ft)) (kt:keepIn K (.ref ft)=true) (bt:Binds K dt ["places", "one", "other"] []) (Gt:yX P w K mg base aD 3 ft dt ["places", "one", "other"] rE)
  (mo:mg "is_one_of" = some (.ref fo)) (ko:keepIn K (.ref fo)=true) (bo:Binds K d1 ["value", "numbers"] []) (Go:yX P w K mg base aD 2 fo d1 ["value", "numbers"] (wz K))
  (G3:yX P w K mg base aD 1 f3 d3 ["self", "place"] (qg c Prod.fst)) (G4:yX P w K mg base aD 1 f4 d4 ["self", "place"] (qg c Prod.snd)) :
  yX P w K mg base aD 4 f fd ["land", "row"] (rY c):=by
 refine F.ok BL (fun vs H Q E h=>?_) (fun cdv A outer s H vs Q E hr h=>?_)
 ·obtain⟨x,dx,lt,t,l,n,zg,ps,r,rfl,_⟩:=h
  rfl
 ·obtain⟨x,dx,lt,t,l,n,zg,ps,r,rfl,hL,hR,hlen,O7,q⟩:=h
  have zL:zi 1 _:=hr.mono (by decide)
  have Ay:zi 2 _:=hr.mono (by decide)
  refine⟨_,af (aA (i:=2) BL.nd rfl (Or.inl rfl) (ap ar (pv 1) ah (fun _ _=>rfl)))
   (af (aA (i:=3) BL.nd rfl (Or.inl rfl) (ap ar (pv 1) ah (fun _ _=>rfl)))
   (af (aN (bW (bK (aw Gt hr rfl mt kt bt .nil aq (aa (al (pv 0) rfl) (aa (pv 2) (aa (ap ar (pv 1) ah (fun _ _=>rfl)) ad)))))) (ak (au lU)) aE)
   (af (aN (PW.pt (sQ (ax p5 (pv 3) cp (aB _)) (pf (bW (bK (aw Go Ay rfl mo ko bo .nil aq (aa (pv 3) (aa (aF (pv 0) L.cl M.m4 G4 zL M.b4 .nil aq (aa (pv 2) ad)) ad)))))))) (ak (au lU)) aE)
   (af (aA (i:=4) BL.nd rfl (Or.inr rfl) (aF (pv 0) L.cl M.m3 G3 zL M.b3 .nil aq (aa (pv 2) ad)))
   (ak (au (aG (j4 rfl) rfl T.all PyProof.Rows.boot_all (aa (bz (own:=["lane"]) (capN:=["begin_here"]) (cap:=[4]) yK rfl (bO (ap ar (pv 1) ah (fun _ _=>rfl)))
    (fun C s' H' fp=>⟨av (i:=0) yt rfl (Or.inl rfl),bJ,aw Go Ay rfl mo ko bo .nil aq (aa (pv 0) (aa (pv 1) ad))⟩)) ad)))))))),?_⟩
  obtain⟨hT,hl⟩:=hR
  have Rn:zc K H t [.int r.p, .int r.g,cV r.c, .ref l]:=zc.of hT
  refine⟨_,rfl,t,_,0,_,rfl,rfl,Rn,ai (j:=0) rfl,?_⟩
  refine⟨_,rfl,t,_,2,_,rfl,rfl,Rn,ai (j:=2) rfl,?_⟩
  refine⟨_,rfl,x,c.land,dx,_,_,rfl,hL.1,L.cl,L.np,rfl,_,rfl,_,rfl,t,_,1,_,rfl,rfl,Rn,ai (j:=1) rfl,n,r.p,r.g,rfl,_,rfl,?_⟩
  cases ho:j8 n (r.p,r.g) with
  | false =>
   have e:eW n ps r=false:=by unfold eW;rw[ho];rfl
   refine aK ?_
   have:=q H (yW.refl H)
   rw[e]at this
   exact this
  | true =>
   refine aI ?_
   cases hc:r.c with
   | none =>
    refine⟨_,rfl,rfl,_,rfl,aI (aI ?_)⟩
    have s1:=yW.refl H
    have e1:eW n ps r=r.s.all fun k=>decide (k ∈ eV Prod.fst ps r.p):=by unfold eW;rw[ho,hc];rfl
    refine⟨_,rfl,x,dx,_,rfl,s1 _ _ hL.1,rfl,_,rfl,x,dx,lt,n,zg,ps,r.p,rfl,⟨s1 _ _ hL.1,s1 _ _ hL.2.1,zl.same s1 hL.2.2⟩,hlen,fun H2 D2 s2 Bk=>?_⟩
    have s3:=(s1.trans s2).new (o := .lst (jt Prod.fst ps r.p ps.length)) Bk
    have g2:(upd H2 D2 (.lst (jt Prod.fst ps r.p ps.length))) D2=some (.lst (jt Prod.fst ps r.p ps.length)):=ac
    generalize upd H2 D2 (.lst (jt Prod.fst ps r.p ps.length))=H3 at s3 g2 ⊢
    refine⟨_,rfl,t,_,3,_,rfl,rfl,zc.of (s3 _ _ hT),ai (j:=3) rfl,l,rfl,⟨_,zb.of (s3 _ _ hl)⟩,?_⟩
    refine fN (xs:=bR r.s) (fun _=>true) (fun v=>match v with | .int i => .bl (decide (i ∈ iz (eV Prod.fst ps r.p))) | _ => .zm) (by rw[sizeLine_eq];simp only[bR,length_map];omega) (zb.of (s3 _ _ hl)) (fun y acc N hy h=>?_) (fun D hD=>?_)
    ·obtain⟨k',_,rfl⟩:=mem_map.mp hy
     exact⟨_,rfl,_,rfl,(k':Int),D2,iz (eV Prod.fst ps r.p),rfl,by rw[← ot];exact zb.of g2,by simpa using h⟩
    ·rw[pY]
     refine⟨D,r.s.map fun k=>decide (k ∈ eV Prod.fst ps r.p),rfl,zb.of ac,?_⟩
     have:=q _ (s3.new (o := .lst ((r.s.map fun k=>decide (k ∈ eV Prod.fst ps r.p)).map V.bl)) hD)
     rw[e1]at this
     rw[uw]
     exact this
   | some k =>
    refine⟨_,rfl,rfl,_,rfl,aK ?_⟩
    refine⟨_,rfl,_,rfl,x,dx,_,rfl,hL.1,rfl,_,rfl,x,dx,lt,n,zg,ps,r.p,rfl,hL,hlen,fun H' D s' hD=>?_⟩
    have s1:=s'.new (o := .lst (jt Prod.snd ps r.p ps.length)) hD
    refine⟨(k:Int),D,iz (eV Prod.snd ps r.p),rfl,by rw[← ot];exact zb.of ac,_,rfl,?_⟩
    rw[oq]
    cases hk:decide (k ∈ eV Prod.snd ps r.p) with
    | false =>
     refine aK ?_
     have e:eW n ps r=false:=by unfold eW;rw[ho,hc];dsimp only;rw[hk];rfl
     have:=q _ s1
     rw[e]at this
     exact this
    | true =>
     have e1:eW n ps r=r.s.all fun k=>decide (k ∈ eV Prod.fst ps r.p):=by unfold eW;rw[ho,hc];dsimp only;rw[hk];rfl
     refine aI ?_
     refine⟨_,rfl,x,dx,_,rfl,s1 _ _ hL.1,rfl,_,rfl,x,dx,lt,n,zg,ps,r.p,rfl,⟨s1 _ _ hL.1,s1 _ _ hL.2.1,zl.same s1 hL.2.2⟩,hlen,fun H2 D2 s2 Bk=>?_⟩
     have s3:=(s1.trans s2).new (o := .lst (jt Prod.fst ps r.p ps.length)) Bk
     have g2:(upd H2 D2 (.lst (jt Prod.fst ps r.p ps.length))) D2=some (.lst (jt Prod.fst ps r.p ps.length)):=ac
     generalize upd H2 D2 (.lst (jt Prod.fst ps r.p ps.length))=H3 at s3 g2 ⊢
     refine⟨_,rfl,t,_,3,_,rfl,rfl,zc.of (s3 _ _ hT),ai (j:=3) rfl,l,rfl,⟨_,zb.of (s3 _ _ hl)⟩,?_⟩
     refine fN (xs:=bR r.s) (fun _=>true) (fun v=>match v with | .int i => .bl (decide (i ∈ iz (eV Prod.fst ps r.p))) | _ => .zm) (by rw[sizeLine_eq];simp only[bR,length_map];omega) (zb.of (s3 _ _ hl)) (fun y acc N hy h=>?_) (fun D hD=>?_)
     ·obtain⟨k',_,rfl⟩:=mem_map.mp hy
      exact⟨_,rfl,_,rfl,(k':Int),D2,iz (eV Prod.fst ps r.p),rfl,by rw[← ot];exact zb.of g2,by simpa using h⟩
     ·rw[pY]
      refine⟨D,r.s.map fun k=>decide (k ∈ eV Prod.fst ps r.p),rfl,zb.of ac,?_⟩
      have:=q _ (s3.new (o := .lst ((r.s.map fun k=>decide (k ∈ eV Prod.fst ps r.p)).map V.bl)) hD)
      rw[e1]at this
      rw[uw]
      exact this
structure Ts where
 tab:Addr
 told:Addr
 ne:Addr
noncomputable def rG (K:Frag):Sp:=fun vs H Q _=>∃ (x C dx:Addr)(lv:V),vs=[.ref x,lv]/\H x=some (.ins C dx [])/\BB K C/\zj K C "land"/\Q .zm (upd H x (.ins C dx [("land",lv)]))
noncomputable def sh (r:Rw):V := .int (Yd.zD r.s 0:Nat)
noncomputable def rF (P:Program)(w:World)(K:Frag)(c:Cs)(ts:Ts):Sp:=fun vs H Q E=>∃ (x dx lx zx lt p:Addr)(n:Int)(zg zk:List V)(ps:List (Int × Int))(rs:List Rw),
 vs=[.ref x, .ref lx, .ref p]/\H x=some (.ins ts.told dx [])/\cr H c lx zx lt n zg ps/\zb K H p zk/\C1 H zk rs/\zk.length <= 100000/\ps.length <= 1000/\(∀ r ∈ rs,(∀ k ∈ r.s,k <= 1000)/\r.s.length <= 1000) /\
 (∀ i,du n ps rs rs.length=some i->∀ H' d,Off x H H'->H' d=some (.xd [("row", .int i)])->E (.ref ts.ne) (some d) H') /\
 (du n ps rs rs.length=none->∀ H' de kvs,Off x H H'->H' x=some (.ins ts.told dx [("land", .ref lx),("entries", .ref de)])->zN P w H' de kvs->(∀ k,cb kvs k=(dZ rs k).map sh)->Q .zm H')
noncomputable def oN (P:Program)(w:World)(ts:Ts):Sp:=fun vs H Q _=>∃ (x dx de:Addr)(lv:V)(kvs:List dQ)(r:Rw)(m:Nat),vs=[.ref x, .int r.p, .int r.g,cV r.c]/\H x=some (.ins ts.told dx [("land",lv),("entries", .ref de)])/\zN P w H de kvs /\
 (cb kvs (bj r)).getD (.int 0) = .int m/\m < 2 ^ 400/\∀ H' D,yW H H'->H' D=none->Q (.ref D) (upd H' D (.lst (vL m)))
structure Rp (K:Frag)(mg:Str->Option Value)(ts:Ts)(f1 f2:Addr)(d1 d2:FuncData):Prop where
 ct:BB K ts.tab
 nt:zj K ts.tab "land"
 cd:BB K ts.told
 nd1:zj K ts.told "land"
 OC:zj K ts.told "entries"
 mt:mg "Table" = some (.ref ts.tab)
 cm:u9 K ts.tab "__init__" f1
 bt:Binds K d1 ["self", "land"] []
 mne:mg "NoEntry" = some (.ref ts.ne)
 Wk:b5 K ts.ne (some (.ref f2))=true
 kne:keepIn K (.ref ts.ne)=true
 Ep:gr K ts.ne
 Wl:findIn K (.ref ts.ne) "row" = some none
 ine:isFn K (.ref f2)=true
 Fne:zt K "__init__" "NoEntry.__init__" OB f2 d2
 bne:Binds K d2 ["self", "row"] []
noncomputable abbrev NT:List Str:=["self", "land", "rows", "number", "row", "key"]
theorem Off.land {H H':Hp}{x C dx:Addr}(o:Off x H H')(hx:H x=some (.ins C dx [])){c:Cs}{lx zx lt:Addr}{n:Int}{zg:List V}{ps:List (Int × Int)}(h:cr H c lx zx lt n zg ps):cr H' c lx zx lt n zg ps :=
 ⟨o _ _ (aZ h.1 hx (by intro z;cases z)) h.1,o _ _ (aZ h.2.1 hx (by intro z;cases z)) h.2.1,o.zO hx h.2.2⟩
theorem Rq:ao ["self", "row"] ["self", "row"] (aj OB):=L2.zy
theorem KZ {f:Addr}{fd:FuncData}(F:zt K "__init__" "NoEntry.__init__" OB f fd):yX P w K mg base aD 1 f fd ["self", "row"] (qf K "row"):=by
 refine F.ok Rq (fun vs H Q E h=>?_) (fun cdv A outer s H vs Q E hr h=>?_)
 ·obtain⟨e,C,tt,v,rfl,_⟩:=h
  rfl
 ·obtain⟨e,C,tt,v,rfl,h1,h2,h3,q⟩:=h
  refine⟨_,ak (kN (pv 0) (pv 1) rfl),?_⟩
  exact⟨_,rfl,_,rfl,e,C,tt,rfl,h1,h2,h3,q⟩
theorem La:ao ["self", "land"] ["self", "land"] (aj xw):=L2.zy
theorem xY {f:Addr}{fd:FuncData}(F:zt K "__init__" "Table.__init__" xw f fd):yX P w K mg base aD 1 f fd ["self", "land"] (rG K):=by
 refine F.ok La (fun vs H Q E h=>?_) (fun cdv A outer s H vs Q E hr h=>?_)
 ·obtain⟨x,C,dx,lv,rfl,_⟩:=h
  rfl
 ·obtain⟨x,C,dx,lv,rfl,hx,hc,hn,q⟩:=h
  refine⟨_,ak (aY (pv 0) (pv 1) rfl),?_⟩
  exact⟨_,rfl,_,rfl,x,C,dx,_,rfl,hx,hc,hn,by show 0 < 1000;decide,q⟩
theorem uK:ao ["self", "place", "goal", "came"] ["self", "place", "goal", "came"] (aj nB):=L2.zy
theorem tw {ts:Ts}{f fm f1 f2:Addr}{fd dm d1 d2:FuncData}(F:zt K "ways" "Told.ways" nB f fd)(B:Rp K mg ts f1 f2 d1 d2)(mm:mg "members" = some (.ref fm))(km:keepIn K (.ref fm)=true)(bm:Binds K dm ["some"] [])
  (Gm:yX P w K mg base aD 2 fm dm ["some"] rN):yX P w K mg base aD 3 f fd ["self", "place", "goal", "came"] (oN P w ts):=by
 refine F.ok uK (fun vs H Q E h=>?_) (fun cdv A outer s H vs Q E hr h=>?_)
 ·obtain⟨x,dx,de,lv,kvs,r,m,rfl,_⟩:=h
  rfl
 ·obtain⟨x,dx,de,lv,kvs,r,m,rfl,hx,hd,hv,hm,q⟩:=h
  have hu:=jT hr
  refine⟨_,ak (au (aw Gm hr rfl mm km bm .nil aq (aa (lR hu (al (pv 0) rfl) (aa (aW (aa (pv 1) (aa (pv 2) (aa (pv 3) ad)))) (aa ah ad))) ad))),?_⟩
  refine⟨_,rfl,x,ts.told,dx,_,_,rfl,hx,B.cd,B.OC,rfl,de,kvs,rfl,hd,?_⟩
  refine⟨_,rfl,_,rfl,_,rfl,by show 3 <= sizeLine;decide,fun t ht=>?_⟩
  have s1:yW H (upd H t (.tup [.int r.p, .int r.g,cV r.c])):=(yW.refl H).new ht
  refine⟨_,_,cb kvs (bj r),rfl,⟨kvs,bj r,t,hd.same s1,rfl,by rw[pH];exact ac,rfl⟩,?_⟩
  rw[hv]
  exact⟨m,rfl,hm,fun D hD=>q _ D s1 hD⟩
theorem BM:ao NT ["self", "land", "rows"] (aj sm):=L2.zy
theorem vi {c:Cs}{ts:Ts}{f ff fs f1 f2:Addr}{fd df ds d1 d2:FuncData}(F:zt K "__init__" "Told.__init__" sm f fd)(T:eO mg)(B:Rp K mg ts f1 f2 d1 d2)(G1:yX P w K mg base aD 1 f1 d1 ["self", "land"] (rG K))
  (mf:mg "row_fits" = some (.ref ff)) (kf:keepIn K (.ref ff)=true) (bf:Binds K df ["land", "row"] []) (Gf:yX P w K mg base aD 4 ff df ["land", "row"] (rY c))
  (ms:mg "set_of" = some (.ref fs)) (ks:keepIn K (.ref fs)=true) (bs:Binds K ds ["numbers"] []) (Gs:yX P w K mg base aD 1 fs ds ["numbers"] (rH K)) :
  yX P w K mg base (eR P w) 5 f fd ["self", "land", "rows"] (rF P w K c ts):=by
 have Gn:yX P w K mg base aD 1 f2 d2 ["self", "row"] (qf K "row"):=KZ B.Fne
 refine F.Ew BM (fun vs H Q E h=>?_) (fun cdv A outer s H vs Q E hr h=>?_)
 ·obtain⟨x,dx,lx,zx,lt,p,n,zg,zk,ps,rs,rfl,_⟩:=h
  rfl
 ·obtain⟨x,dx,lx,zx,lt,p,n,zg,zk,ps,rs,rfl,hx,hL,hp,hR,hlen,CW,Wm,hE,hQ⟩:=h
  have zL:zi 1 _:=hr.mono (by decide)
  have Ay:zi 2 _:=hr.mono (by decide)
  have hu:=jT hr
  refine⟨_,af (aR (lS (eI (v := .ref ts.tab) rfl B.mt rfl) B.cm G1 zL B.bt .nil aq (aa (pv 0) (aa (pv 1) ad))))
   (af (aY (pv 0) (show PE _ _ (r9 P w) from pk) rfl)
   (ak (bN pz rfl (lQ rfl T.enum (aa (pv 2) ad)) (fB rfl (aO (av (i:=3) BM.nd rfl (Or.inl rfl)) (aO (av (i:=4) BM.nd rfl (Or.inl rfl)) dC)))
    (af (aA (i:=5) BM.nd rfl (Or.inl rfl) (aW (aa (ap ar (pv 4) ah (fun _ _=>rfl)) (aa (ap ar (pv 4) ah (fun _ _=>rfl)) (aa (ap ar (pv 4) ah (fun _ _=>rfl)) ad)))))
    (af (aN (PW.pt (gP (bW (bK (aw Gf hr rfl mf kf bf .nil aq (aa (pv 1) (aa (pv 4) ad))))) (eE (sS (xN hu (pv 5) (al (pv 0) rfl))))))
     (ak (b8 rfl B.Wk aP (iH B.Wk B.ine B.kne Gn Ay B.bne rfl B.mne (aa (pv 3) ad)))) aE)
    (ak (ph hu (al (pv 0) rfl) (pv 5) (aw Gs zL rfl ms ks bs .nil aq (aa (ap ar (pv 4) ah (fun _ _=>rfl)) ad)) rfl))))))),?_⟩
  refine⟨rfl,_,rfl,_,rfl,x,ts.told,dx,_,rfl,hx,B.cd,B.nd1,?_⟩
  refine fun de C0=>⟨_,rfl,x,ts.told,dx,[("land", .ref lx)],rfl,by rw[ae (ag ac C0)];exact ac,B.cd,B.OC,by show 1 < 1000;decide,?_⟩
  have E2:x ≠ de:=ag ac C0
  have DZ:H de=none:=by rw[ae (Ne.symm E2)]at C0;exact C0
  generalize DS:upd (upd (upd H x (.ins ts.told dx [("land", .ref lx)])) de (j7 P w de [])) x (.ins ts.told dx (aL "entries" (.ref de) [("land", .ref lx)]))=H2
  have o2:Off x H H2:=fun b o hb e=>by rw[← DS,ae hb,ae (ag e DZ),ae hb];exact e
  have x2:H2 x=some (.ins ts.told dx [("land", .ref lx),("entries", .ref de)]):=by rw[← DS,ac];rfl
  have d2:zN P w H2 de []:=⟨by rw[← DS,ae (Ne.symm E2),ac],fun y hy=>by cases hy⟩
  have Lb:zk.length=rs.length:=Paired.length hR
  refine⟨_,rfl,p,rfl,⟨_,o2.sq hx hp⟩,mD (sq:=fun H=>zb K H p) (xs:=zk) (fun i σ H3=>∃ (a b k:Option V)(kvs:List dQ),Off x H H3/\H3 x=some (.ins ts.told dx [("land", .ref lx),("entries", .ref de)])/\zN P w H3 de kvs/\kvs.length <= i /\
    (∀ k,cb kvs k=(dZ (rs.take i) k).map sh)/\(∀ j,j < i->mV n ps (rs.take j) (rs.getD j ⟨0,0,none,[]⟩)=false)/\σ=[some (.ref x),some (.ref lx),some (.ref p),a,b,k])
   ⟨none,none,none,[],o2,x2,d2,le_refl _,fun k=>rfl,fun j hj=>absurd hj (not_lt_zero _),rfl⟩ (fun i σ H3 _ ⟨_,_,_,_,o3,_⟩=>o3.sq hx hp) ?_ ?_⟩
  ·rintro i v q σ H3 hv ⟨a,b,k,kvs,o3,x3,d3,l3,v3,g3,rfl⟩ hq
   obtain⟨r,hri,t,l,rfl,hT⟩:=C1.get hR hv
   have hi:i < rs.length:=(List.getElem?_eq_some_iff.mp hri).1
   have Jb:rs.getD i ⟨0,0,none,[]⟩ = r:=by rw[getD_eq_getElem?_getD,hri];rfl
   have HC:HA H3 t l r:=⟨o3 _ _ (aZ hT.1 hx (by intro z;cases z)) hT.1,o3 _ _ (aZ hT.2 hx (by intro z;cases z)) hT.2⟩
   have BO:=o3.land hx hL
   have s4:yW H3 (upd H3 q (.tup [.int i, .ref t])):=(yW.refl H3).new hq
   refine⟨q,_,rfl,zc.of ac,rfl,_,_,rfl,_,_,rfl,rfl,?_⟩
   generalize upd H3 q (.tup [.int i, .ref t])=H4 at s4 ⊢
   have Lc:zc K H4 t [.int r.p, .int r.g,cV r.c, .ref l]:=zc.of (s4 _ _ HC.1)
   refine⟨_,rfl,t,_,0,_,rfl,rfl,Lc,ai (j:=0) rfl,_,rfl,t,_,1,_,rfl,rfl,Lc,ai (j:=1) rfl,_,rfl,t,_,2,_,rfl,rfl,Lc,ai (j:=2) rfl,by show 3 <= sizeLine;decide,fun kt Rr=>?_⟩
   have s5:yW H3 (upd H4 kt (.tup [.int r.p, .int r.g,cV r.c])):=s4.new Rr
   have k5:(upd H4 kt (.tup [.int r.p, .int r.g,cV r.c])) kt=some (.tup ((bj r).map rj)):=by rw[pH];exact ac
   generalize upd H4 kt (.tup [.int r.p, .int r.g,cV r.c])=H5 at s5 k5 ⊢
   refine⟨_,rfl,_,rfl,lx,zx,lt,t,l,n,zg,ps,r,rfl,⟨s5 _ _ BO.1,s5 _ _ BO.2.1,zl.same s5 BO.2.2⟩,HC.same s5,CW,(Wm r (mem_of_getElem? hri)).2,fun H6 Wn=>⟨_,rfl,?_⟩⟩
   have s6:=s5.trans Wn
   have k6:=Wn _ _ k5
   have x6:=s6 _ _ x3
   have d6:=d3.same s6
   have FF:mV n ps (rs.take i) r=true->∀ e tt,H6 e=none->∀ d,upd H6 e (bM e ts.ne tt none) d=none ->
     ∃ dd,(upd (upd (upd H6 e (bM e ts.ne tt none)) d (.xd [("row", .int i)])) e (bM e ts.ne tt (some d))) e=some (bM e ts.ne tt dd)/\E (.ref ts.ne) dd (ur (upd (upd (upd H6 e (bM e ts.ne tt none)) d (.xd [("row", .int i)])) e (bM e ts.ne tt (some d))) e):=by
    intro hb e tt he d hd
    obtain⟨m1,m2,m3⟩:=iu (o:=bM e ts.ne tt none) (o':=bM e ts.ne tt (some d)) (x := .xd [("row", .int i)]) he hd
    exact⟨some d,m3,hE i (jB hi g3 (by rw[Jb];exact hb)) _ d (o3.same (s6.trans m1)) m2⟩
   cases hf:eW n ps r with
   | false =>
    refine aK (aK ⟨_,rfl,by show 1 <= sizeLine;decide,fun e tt he=>⟨e,_,tt,_,rfl,ac,B.Ep,B.Wl,fun d hd=>⟨rfl,?_⟩⟩⟩)
    exact FF (by rw[ig,hf];rfl) e tt he d hd
   | true =>
    refine aI ⟨_,rfl,_,rfl,x,ts.told,dx,_,_,rfl,x6,B.cd,B.OC,rfl,de,_,rfl,⟨kvs,bj r,kt,d6,rfl,k6,rfl⟩,_,rfl,?_⟩
    have eS:(cb kvs (bj r)).isSome=(rs.take i).any fun a=>decide (bj a=bj r):=by rw[v3,Option.isSome_map,kY]
    cases hS:(cb kvs (bj r)).isSome with
    | true =>
     refine aK ⟨_,rfl,by show 1 <= sizeLine;decide,fun e tt he=>⟨e,_,tt,_,rfl,ac,B.Ep,B.Wl,fun d hd=>⟨rfl,?_⟩⟩⟩
     exact FF (by rw[ig,hf,← eS,hS];rfl) e tt he d hd
    | false =>
     refine aI ?_
     have Wo:=HC.same s6
     refine⟨_,rfl,t,_,3,_,rfl,rfl,zc.of Wo.1,ai (j:=3) rfl,l,r.s,rfl,zb.of Wo.2,(Wm r (mem_of_getElem? hri)).1,?_⟩
     refine⟨_,rfl,x,ts.told,dx,_,_,rfl,x6,B.cd,B.OC,rfl,_,rfl,de,kvs,bj r,kt,rfl,d6,rfl,k6,by rw[sizeLine_eq];omega,?_⟩
     have hx6:x ≠ de:=E2
     refine⟨_,_,_,fA kvs (bj r) kt (sh r),fun b' o hb e=>?_,?_,⟨ac,jH (F:=fun k a=>(upd H6 de (j7 P w de (fA kvs (bj r) kt (sh r)))) a=some (.tup (k.map rj))) (fun y hy=>?_) ?_⟩,?_,fun k'=>?_,fun j hj=>?_,rfl⟩
     ·rw[ae (ag e DZ)];exact s6 _ _ (o3 _ _ hb e)
     ·rw[ae E2];exact x6
     ·rw[ae (aZ (d6.2 y hy) d6.1 (by intro z;cases z))];exact d6.2 y hy
     ·rw[ae (aZ k6 d6.1 (by intro z;cases z))];exact k6
     ·exact le_trans fz (Nat.succ_le_succ l3)
     ·rw[gF,take_succ,hri,Option.toList_some,om,v3]
      by_cases hk:k' = bj r
      ·rw[if_pos hk,if_pos hk];rfl
      ·rw[if_neg hk,if_neg hk]
     ·rcases lt_or_ge j i with h | h
      ·exact g3 j h
      ·have:j=i:=by omega
       subst this
       rw[Jb,ig,hf,← eS,hS];rfl
  ·rintro σ H3 ⟨a,b,k,kvs,o3,x3,d3,l3,v3,g3,rfl⟩
   rw[Lb]at g3 v3
   rw[take_length]at v3
   exact hQ (ge g3) H3 de kvs o3 x3 d3 v3
noncomputable def nV (ps:List Nat):List V:=ps.map fun q:Nat=>V.int (q:Int)
theorem cU (ps:List Nat):(nV ps).length=ps.length:=by simp[nV]
theorem kT {ps:List Nat}{k q:Nat}(h:ps[k]? = some q):(nV ps)[k]? = some (V.int (q:Int)):=by simp[nV,h]
theorem nU (a b:List Nat):nV (a ++ b)=nV a ++ nV b:=by unfold nV;rw[map_append]
theorem tR {ps:List Nat}{v:V}(h:v ∈ nV ps):∃ q:Nat,q ∈ ps/\v = .int (q:Int):=by
 obtain⟨q,hq,e⟩:=mem_map.mp h
 exact⟨q,hq,e.symm⟩
noncomputable def lD (c:Cs)(sel:Int × Int->Int):Sp:=fun vs H Q _=>∃ (x dx t:Addr)(n:Int)(zg:List V)(ps:List (Int × Int))(k:Nat)(pr:Int × Int),vs=[.ref x, .int k]/\cr H c x dx t n zg ps/\ps[k]? = some pr/\Q (.int (sel pr)) H
structure u8 (K:Frag)(c:Cs)(f:Addr)(d:FuncData):Prop where
 m:b6 K c.land "end_of" f
 b:Binds K d ["self", "lane"] []
theorem bD (a b:Int):decide (V.int a=V.int b)=decide (a=b):=by
 by_cases h:a=b
 ·rw[h];simp
 ·rw[decide_eq_false h,decide_eq_false fun z=>h (by injection z)]
theorem eL {n i:Nat}(h:i < n):vS n (i:Int)=some i:=by
 unfold vS
 rw[if_pos (by omega),if_pos (by omega),toNat_natCast]
noncomputable def mN (m:Nat):List Nat:=Yd.C7 m (Builtin.Int.intBits (m:Int))
theorem tS:∀ {a b:List Nat},nV a=nV b->a=b
 | [],[],_=>rfl
 | [],_ :: _,h=>by cases h
 | _ :: _,[],h=>by cases h
 | x :: a,y :: b,h=>by
  unfold nV at h
  rw[map_cons,map_cons]at h
  injection h with h1 h2
  injection h1 with h1
  rw[tS (a:=a) (b:=b) h2,show x=y by omega]
theorem Ld:ao ["self", "lane"] ["self", "lane"] (aj xG):=L2.zy
theorem yp {c:Cs}{f:Addr}{fd:FuncData}(F:zt K "end_of" "Land.end_of" xG f fd)(L:ku K c):yX P w K mg base aD 1 f fd ["self", "lane"] (lD c Prod.snd):=by
 refine F.ok Ld (fun vs H Q E h=>?_) (fun cdv A outer s H vs Q E hr h=>?_)
 ·obtain⟨x,dx,t,n,zg,ps,k,pr,rfl,_⟩:=h
  rfl
 ·obtain⟨x,dx,t,n,zg,ps,k,pr,rfl,⟨hx,ht,hl⟩,hk,q⟩:=h
  refine⟨_,ak (au (ap ar (ap ar (al (pv 0) rfl) (pv 1) (fun _ _=>rfl)) ah (fun _ _=>rfl))),?_⟩
  obtain⟨v,hv,u,rfl,hu⟩:=zl.CD hl hk
  refine⟨_,rfl,x,c.land,dx,_,_,rfl,hx,L.cl,L.nl,rfl,_,rfl,t,_,_,_,rfl,rfl,zc.of ht,ai hv,u,_,1,_,rfl,rfl,zc.of hu,ai (j:=1) rfl,q⟩
noncomputable def isI:V->Bool
 | .int _=>true
 | _=>false
noncomputable def jJ:V->Int->Int->Bool
 | .int i,a,b=>decide (a <= i/\i <= b)
 | _,_,_=>false
inductive rf:V->Prop
 | int (i:Int):rf (.int i)
 | bl (b:Bool):rf (.bl b)
 | zm:rf .zm
structure uz (K:Frag):Prop where
 ii:kitOne K (.type "int") (.type "int")=some true
 ib:kitOne K (.type "int") (.type "bool")=some false
 bi:kitOne K (.type "bool") (.type "int")=some true
 bb:kitOne K (.type "bool") (.type "bool")=some true
 ni:kitOne K (.type "NoneType") (.type "int")=some false
noncomputable def gG:Sp:=fun vs H Q _=>∃ v,vs=[v]/\rf v/\Q (.bl (isI v)) H
noncomputable def fR:Sp:=fun vs H Q _=>∃ (v:V)(a b:Int),vs=[v, .int a, .int b]/\rf v/\Q (.bl (jJ v a b)) H
noncomputable def nA (K:Frag):Sp:=fun vs H Q _=>∃ (a:Addr)(ns:List Int)(k:Nat),vs=[.ref a, .int k]/\zb K H a (ns.map V.int)/\∀ d,Q (.int d) H
noncomputable def l9:Sp:=fun vs H Q _=>∃ (c:Int)(k:Nat),vs=[.int c, .int k]/\k <= 1000000/\∀ d:Int,0 <= d->Q (.int d) H
theorem zl.imp {H H':Hp}(h:∀ v p,wo H v p->wo H' v p):∀ {vs:List V}{ps:List (Int × Int)},zl H vs ps->zl H' vs ps
 | _,_, .nil => .nil
 | _,_, .cons z r => .cons (h _ _ z) (zl.imp h r)
noncomputable def hV:Option Int->V
 | none => .zm
 | some z => .int z
noncomputable abbrev Fs:=List (Str × V)
noncomputable def iA (r b:Int)(h:V)(pa:Addr):Fs:=[("rights", .int r),("returning", .int b),("holder",h),("pieces", .ref pa)]
structure zr (H:Hp)(C x dx pa:Addr)(r b:Int)(h:Option Int)(zf:List V)(qs:List (Int × Int)):Prop where
 ins:H x=some (.ins C dx (iA r b (hV h) pa))
 lst:H pa=some (.lst zf)
 Am:zl H zf qs
noncomputable def As (x pa:Addr)(H H':Hp):Prop:=∀ a o,a ≠ x->a ≠ pa->H a=some o->H' a=some o
theorem As.zO {C x dx pa:Addr}{fs:Fs}{zf:List V}{H H':Hp}(h:As x pa H H')(hx:H x=some (.ins C dx fs))(hp:H pa=some (.lst zf)){vs:List V}{qs:List (Int × Int)}:zl H vs qs->zl H' vs qs :=
 zl.imp fun _ _ ⟨t,e,q⟩=>⟨t,e,h _ _ (aZ q hx (by intro z;cases z)) (aZ q hp (by intro z;cases z)) q⟩
theorem zr.same {H H':Hp}{C x dx pa:Addr}{r b:Int}{h:Option Int}{zf:List V}{qs:List (Int × Int)}(L:zr H C x dx pa r b h zf qs)(s:yW H H'):zr H' C x dx pa r b h zf qs:=⟨s _ _ L.ins,s _ _ L.lst,zl.same s L.Am⟩
noncomputable def cu (r:Int)(h:Option Int)(l c:Int):Bool:=if r=0 then false else if c=0 then decide (h=none) else decide (h=some l)
theorem yA (h:Option Int):decide (hV h=V.zm)=decide (h=none):=by cases h<;>rfl
theorem yB (h:Option Int)(l:Int):decide (hV h=V.int l)=decide (h=some l):=by
 cases h with
 | none=>rfl
 | some z =>
  show decide (V.int z=V.int l)=_
  rw[bD]
  by_cases e:z=l
  ·rw[decide_eq_true e,decide_eq_true (by rw[e])]
  ·rw[decide_eq_false e,decide_eq_false fun q=>e (Option.some.inj q)]
theorem vU (h:Option Int)(l:Int):xk (hV h) (.int l)=true:=by cases h<;>rfl
structure wn (K:Frag)(C:Addr):Prop where
 cl:BB K C
 n1:zj K C "rights"
 n2:zj K C "returning"
 n3:zj K C "holder"
 n4:zj K C "pieces"
structure Le (K:Frag)(mg:Str->Option Value)(nm:Addr):Prop where
 m:mg "NoMove" = some (.ref nm)
 x:b5 K nm none=true
 k:keepIn K (.ref nm)=true
 e:PySem.W.exmOne K (.ref nm) (.ref nm)=some true
noncomputable def rP (C:Addr):Sp:=fun vs H Q _=>∃ (x dx:Addr)(room:Int),vs=[.ref x, .int room]/\H x=some (.ins C dx [])/\∀ (pa:Addr)(H':Hp),H pa=none->(∀ a o,a ≠ x->H a=some o->H' a=some o)->zr H' C x dx pa room 0 none [] []->Q .zm H'
noncomputable def k9 (C:Addr):Sp:=fun vs H Q _=>∃ (x dx pa:Addr)(r b:Int)(h:Option Int)(l c:Int),vs=[.ref x, .int l, .int c]/\H x=some (.ins C dx (iA r b (hV h) pa))/\Q (.bl (cu r h l c)) H
noncomputable def wx (C nm:Addr):Sp:=fun vs H Q E=>∃ (x dx pa:Addr)(r b:Int)(h:Option Int)(zf:List V)(qs:List (Int × Int))(l c:Int)(last:Bool),vs=[.ref x, .int l, .int c, .bl last]/\zr H C x dx pa r b h zf qs/\zf.length < 100000 /\
 (cu r h l c=false->∀ H',yW H H'->E (.ref nm) none H') /\
 (cu r h l c=true->∀ (t:Addr)(H':Hp),As x pa H H'->zr H' C x dx pa (r - 1) b (if last then none else some l) (zf ++ [.ref t]) (qs ++ [(l,c)])->Q .zm H')
noncomputable def oy:List V->V
 | [] => .zm
 | v :: _=>v
noncomputable def iE (C:Addr):Sp:=fun vs H Q _=>∃ (x dx pa:Addr)(r b:Int)(h:Option Int)(zf:List V)(qs:List (Int × Int)),vs=[.ref x]/\zr H C x dx pa r b h zf qs/\Q (oy zf) H
noncomputable def nu (C nm:Addr):Sp:=fun vs H Q E=>∃ (x dx pa:Addr)(r b:Int)(h:Option Int)(zf:List V)(qs:List (Int × Int)),vs=[.ref x]/\zr H C x dx pa r b h zf qs /\
 (zf=[]->∀ H',yW H H'->E (.ref nm) none H') /\
 (∀ v rest,zf=v :: rest->∀ H':Hp,As x pa H H'->zr H' C x dx pa r (b + 1) h rest qs.tail->Q v H')
noncomputable def oZ (C nm:Addr):Sp:=fun vs H Q E=>∃ (x dx pa:Addr)(r b:Int)(h:Option Int)(zf:List V)(qs:List (Int × Int)),vs=[.ref x]/\zr H C x dx pa r b h zf qs /\
 (b=0->∀ H',yW H H'->E (.ref nm) none H') /\
 (b ≠ 0->∀ H':Hp,As x pa H H'->zr H' C x dx pa (r + 1) (b - 1) h zf qs->Q .zm H')
noncomputable def wB (C:Addr):Sp:=fun vs H Q _=>∃ (x dx pa:Addr)(r b:Int)(h:Option Int)(zf:List V)(qs:List (Int × Int)),vs=[.ref x]/\zr H C x dx pa r b h zf qs /\
 ∀ (t ql:Addr)(H':Hp),yW H H'->H ql=none->H' t=some (.tup [.int r, .int b,hV h, .ref ql])->H' ql=some (.lst zf)->Q (.ref t) H'
theorem Rt (n:Nat):seqIndex? 0 (n + 1)=some 0:=by
 unfold seqIndex?
 simp
theorem jK {f:Addr}{fd:FuncData}(F:zt K "is_whole" "is_whole" gk f fd)(T:eO mg)(Z:uz K):yX P w K mg base aD 1 f fd ["value"] gG:=by
 refine F.ok pe (fun vs H Q E h=>?_) (fun cdv A outer s H vs Q E hr h=>?_)
 ·obtain⟨m,rfl,_⟩:=h
  rfl
 ·obtain⟨v,rfl,hv,q⟩:=h
  refine⟨_,ak (au (dJ (aG fO rfl T.Hz PyProof.Rows.boot_isinstance (aa (pv 0) (aa (eJ (v := .ty "int") rfl T.int PySem.Pv.boot_int rfl) ad)))
   (dI (sY (aG fO rfl T.Hz PyProof.Rows.boot_isinstance (aa (pv 0) (aa (eJ (v := .ty "bool") rfl T.bool PySem.Pv.boot_bool rfl) ad))))))),?_⟩
  cases hv with
  | int i=>exact⟨_,rfl, .int i,_, "int",true,rfl, .int i,Z.ii,true,rfl,aK ⟨_,rfl, .int i,_, "bool",false,rfl, .int i,Z.ib,false,rfl,q⟩⟩
  | bl b=>exact⟨_,rfl, .bl b,_, "int",true,rfl, .bl b,Z.bi,true,rfl,aK ⟨_,rfl, .bl b,_, "bool",true,rfl, .bl b,Z.bb,true,rfl,q⟩⟩
  | zm=>exact⟨_,rfl, .zm,_, "int",false,rfl, .zm,Z.ni,false,rfl,aI q⟩
theorem nS {f fh:Addr}{fd BY:FuncData}(F:zt K "is_within" "is_within" iG f fd)(T:eO mg)(Z:uz K)(mh:mg "is_whole" = some (.ref fh))(Fh:zt K "is_whole" "is_whole" gk fh BY)(bh:Binds K BY ["value"] []) :
  yX P w K mg base aD 2 f fd ["value", "least", "most"] fR:=by
 have G:yX P w K mg base aD 1 fh BY ["value"] gG:=jK Fh T Z
 refine F.ok lG (fun vs H Q E h=>?_) (fun cdv A outer s H vs Q E hr h=>?_)
 ·obtain⟨i,a,b,rfl,_⟩:=h
  rfl
 ·obtain⟨v,a,b,rfl,hv,q⟩:=h
  refine⟨_,ak (au (dJ (aw G hr rfl mh Fh.kp bh .nil aq (aa (pv 0) ad)) (dI (lT p7 p7 (pv 1) (pv 0) (pv 2))))),?_⟩
  cases hv with
  | bl x=>exact⟨_,rfl,_,rfl, .bl x,false,rfl,aI q⟩
  | zm=>exact⟨_,rfl,_,rfl, .zm,false,rfl,aI q⟩
  | int i =>
   refine⟨_,rfl,_,rfl, .int i,true,rfl,aK ?_⟩
   refine⟨_,rfl,_,rfl,_,_,rfl,rfl,_,rfl,?_⟩
   have q:Q (V.bl (decide (a <= i/\i <= b))) H:=q
   by_cases h1:a <= i
   ·rw[decide_eq_true h1]
    refine aK ⟨_,rfl,_,_,rfl,rfl,?_⟩
    show Q (V.bl (decide (i <= b))) H
    by_cases h2:i <= b
    ·rw[decide_eq_true h2];rw[decide_eq_true ⟨h1,h2⟩]at q;exact q
    ·rw[decide_eq_false h2];rw[decide_eq_false fun z=>h2 z.2]at q;exact q
   ·rw[decide_eq_false h1]
    refine aI ?_
    rw[decide_eq_false fun z=>h1 z.1]at q;exact q
theorem xr:ao ["_law_script", "_law_k"] ["_law_script", "_law_k"] (aj sL):=L2.zy
theorem vF {f:Addr}{fd:FuncData}(F:zt K "_law_cell_at" "_law_cell_at" sL f fd)(T:eO mg):yX P w K mg base aD 1 f fd ["_law_script", "_law_k"] (nA K):=by
 refine F.ok xr (fun vs H Q E h=>?_) (fun cdv A outer s H vs Q E hr h=>?_)
 ·obtain⟨a,ns,k,rfl,_⟩:=h
  rfl
 ·obtain⟨a,ns,k,rfl,hS,q⟩:=h
  refine⟨_,af (aN (ax p6 (pv 1) (aG ay rfl T.len PySem.boot_len (aa (pv 0) ad)) (aB _))
    (ak (au (ap aJ (pv 0) (pv 1) (fun _ _=>rfl)))) aE) (ak (au ah)),?_⟩
  refine⟨_,rfl,_,rfl,a,_,rfl, .inl hS,_,_,rfl,rfl,_,rfl,?_⟩
  refine QJ (fun h=>?_) fun _=>q _
  have h':(k:Int) < ((ns.map V.int).length:Nat):=of_decide_eq_true h
  rw[length_map]at h'
  have hk:k < ns.length:=by omega
  exact⟨_,rfl,_,rfl,a,_,k,V.int ns[k],rfl,rfl,hS,ai (by simp[hk]),q _⟩
theorem FG:ao ["_law_cell", "_law_k", "_law_number"] ["_law_cell", "_law_k"] (aj x5):=L2.zy
theorem ye {f:Addr}{fd:FuncData}(F:zt K "_law_mixed" "_law_mixed" x5 f fd):yX P w K mg base aD 1 f fd ["_law_cell", "_law_k"] l9:=by
 refine F.ok FG (fun vs H Q E h=>?_) (fun cdv A outer s H vs Q E hr h=>?_)
 ·obtain⟨c,k,rfl,_⟩:=h
  rfl
 ·obtain⟨c,k,rfl,hk,q⟩:=h
  refine⟨_,af (aA (i:=2) FG.nd rfl (Or.inl rfl) (az bX (az jl (az bB (az bB (az bX (pv 0) ah) (az jl ah (pv 1))) ah) ah) ah))
   (ak (au (az bX (az jl (pv 2) (az bB (az fT (pv 2) ah) ah)) ah))),?_⟩
  have pos:(0:Int) < 2147483647:=by decide
  refine⟨_,rfl,_,_,rfl,rfl,pos,_,rfl,_,_,rfl,rfl, .inl ⟨by decide,by decide⟩,_,_,rfl,rfl,_,_,rfl,rfl,_,_,rfl,rfl, .inr ⟨by decide,by decide⟩,_,_,rfl,rfl,pos,?_⟩
  dsimp only
  have h1:=emod_nonneg ((c % 2147483647 + 7919 * (k:Int) + 1) * 48271) (show (2147483647:Int) ≠ 0 by decide)
  have h2:=emod_lt_of_pos ((c % 2147483647 + 7919 * (k:Int) + 1) * 48271) pos
  generalize (c % 2147483647 + 7919 * (k:Int) + 1) * 48271 % 2147483647=m at h1 h2
  refine⟨_,rfl,_,rfl,_,_,rfl,rfl,⟨by decide,by decide⟩,_,_,rfl,rfl,_,_,rfl,rfl, .inl ⟨by omega,by omega⟩,_,_,rfl,rfl,pos,?_⟩
  exact q _ (emod_nonneg _ (by decide))
theorem Lf:ao ["self", "room"] ["self", "room"] (aj xA):=L2.zy
theorem yk {C f:Addr}{fd:FuncData}(F:zt K "__init__" "Lane.__init__" xA f fd)(L:wn K C):yX P w K mg base aD 1 f fd ["self", "room"] (rP C):=by
 refine F.ok Lf (fun vs H Q E h=>?_) (fun cdv A outer s H vs Q E hr h=>?_)
 ·obtain⟨x,dx,room,rfl,_⟩:=h
  rfl
 ·obtain⟨x,dx,room,rfl,hx,q⟩:=h
  refine⟨_,af (aY (pv 0) (pv 1) rfl) (af (aY (pv 0) ah rfl) (af (aY (pv 0) cp rfl) (ak (aY (pv 0) (aV ad) rfl)))),?_⟩
  refine⟨_,rfl,_,rfl,x,C,dx,_,rfl,hx,L.cl,L.n1,by show 0 < 1000;decide,?_⟩
  refine⟨_,rfl,x,C,dx,_,rfl,ac,L.cl,L.n2,by show 1 < 1000;decide,?_⟩
  refine⟨_,rfl,x,C,dx,_,rfl,ac,L.cl,L.n3,by show 2 < 1000;decide,?_⟩
  refine⟨zero_le _,fun pa Dz=>?_⟩
  have Cq:x ≠ pa:=ag ac Dz
  refine⟨_,rfl,x,C,dx,_,rfl,by rw[ae Cq];exact ac,L.cl,L.n4,by show 3 < 1000;decide,?_⟩
  have EK:H pa=none:=by
   rw[ae (Ne.symm Cq),ae (Ne.symm Cq),ae (Ne.symm Cq)]at Dz
   exact Dz
  refine q pa _ EK (fun a o ha e=>?_) ⟨ac,by rw[ae (Ne.symm Cq)];exact ac, .nil⟩
  have nap:a ≠ pa:=fun z=>by
   rw[z,EK]at e
   cases e
  rw[ae ha,ae nap,ae ha,ae ha,ae ha]
  exact e
theorem xp:ao ["self", "letter", "count"] ["self", "letter", "count"] (aj sy):=L2.zy
theorem vt {C f:Addr}{fd:FuncData}(F:zt K "open_to" "Lane.open_to" sy f fd)(L:wn K C):yX P w K mg base aD 1 f fd ["self", "letter", "count"] (k9 C):=by
 refine F.ok xp (fun vs H Q E h=>?_) (fun cdv A outer s H vs Q E hr h=>?_)
 ·obtain⟨x,dx,pa,r,b,h,l,c,rfl,_⟩:=h
  rfl
 ·obtain⟨x,dx,pa,r,b,h,l,c,rfl,hx,q⟩:=h
  refine⟨_,af (aN (ax bv (al (pv 0) rfl) ah (aB _)) (ak (au lU)) aE)
   (af (aN (ax bv (pv 2) ah (aB _)) (ak (au (c8 kS (al (pv 0) rfl) cp (aB _)))) aE)
   (ak (au (c8 bv (al (pv 0) rfl) (pv 1) (aB _))))),?_⟩
  refine⟨_,rfl,x,C,dx,_,_,rfl,hx,L.cl,L.n1,rfl,rfl,_,rfl,?_⟩
  rw[bD]
  unfold cu at q
  by_cases OD:r=0
  ·rw[decide_eq_true OD]
   rw[if_pos OD]at q
   exact aK q
  rw[decide_eq_false OD]
  rw[if_neg OD]at q
  refine aI ⟨_,rfl,rfl,_,rfl,?_⟩
  rw[bD]
  by_cases Hj:c=0
  ·rw[decide_eq_true Hj]
   rw[if_pos Hj]at q
   refine aK ⟨_,rfl,x,C,dx,_,_,rfl,hx,L.cl,L.n3,rfl,rfl,?_⟩
   rw[yA]
   exact q
  ·rw[decide_eq_false Hj]
   rw[if_neg Hj]at q
   refine aI ⟨_,rfl,x,C,dx,_,_,rfl,hx,L.cl,L.n3,rfl,_,rfl,vU h l,?_⟩
   rw[yB]
   exact q
theorem Lg:ao ["self", "letter", "count", "last"] ["self", "letter", "count", "last"] (aj xy):=L2.zy
theorem yb {C f nm fo:Addr}{fd BZ:FuncData}(F:zt K "put" "Lane.put" xy f fd)(L:wn K C)(Ex:Le K mg nm)(mo:b6 K C "open_to" fo)(bo:Binds K BZ ["self", "letter", "count"] [])(Go:yX P w K mg base aD 1 fo BZ ["self", "letter", "count"] (k9 C)) :
  yX P w K mg base (eR P w) 2 f fd ["self", "letter", "count", "last"] (wx C nm):=by
 refine F.Ew Lg (fun vs H Q E h=>?_) (fun cdv A outer s H vs Q E hr h=>?_)
 ·obtain⟨x,dx,pa,r,b,h,zf,qs,l,c,last,rfl,_⟩:=h
  rfl
 ·obtain⟨x,dx,pa,r,b,h,zf,qs,l,c,last,rfl,hL,hlen,h1,h2⟩:=h
  refine⟨_,af (aN (bW (bK (aF (pv 0) L.cl mo Go hr bo .nil aq (aa (pv 1) (aa (pv 2) ad))))) (ak (b8 rfl Ex.x aP (ce Ex.x Ex.k rfl rfl Ex.m (aa aX ad)))) aE)
   (af (dU (pv 0) ah pN)
   (af (aR (cz plainAttrs_list PySem.F.slot_list_append PySem.F.type_list_append bG (al (pv 0) rfl) (aa (aW (aa (pv 1) (aa (pv 2) ad))) ad)))
   (ak (aY (pv 0) (cK (bK (pv 3)) cp (pv 1)) rfl)))),?_⟩
  refine⟨_,rfl,x,dx,_,rfl,hL.ins,rfl,_,rfl,_,rfl,x,dx,pa,r,b,h,l,c,rfl,hL.ins,_,rfl,?_⟩
  cases ho:cu r h l c with
  | false =>
   refine aK ⟨by show 1 <= sizeLine;decide,?_⟩
   exact h1 ho H (yW.refl H)
  | true =>
   refine aI ?_
   refine⟨_,rfl,x,C,dx,_,_,rfl,hL.ins,L.cl,L.n1,rfl,_,_,rfl,rfl,dx,_,hL.ins,by show 4 < 1000;decide,?_⟩
   have Cq:pa ≠ x:=aZ hL.lst hL.ins (by intro z;cases z)
   have AK:(upd H x (.ins C dx (aL "rights" (.int (r - 1)) (iA r b (hV h) pa)))) x=some (.ins C dx (iA (r - 1) b (hV h) pa)):=ac
   have zC:(upd H x (.ins C dx (aL "rights" (.int (r - 1)) (iA r b (hV h) pa)))) pa=some (.lst zf):=by rw[ae Cq];exact hL.lst
   have o1:As x pa H (upd H x (.ins C dx (aL "rights" (.int (r - 1)) (iA r b (hV h) pa)))):=fun a o ha _ e=>by rw[ae ha];exact e
   show _
   generalize upd H x (.ins C dx (aL "rights" (.int (r - 1)) (iA r b (hV h) pa)))=H1 at AK zC o1 ⊢
   refine⟨_,rfl,x,C,dx,_,_,rfl,AK,L.cl,L.n4,rfl, .inl ⟨rfl,_,zb.of zC⟩,_,rfl,_,rfl,by show 2 <= sizeLine;decide,fun t ht=>?_⟩
   have s2:=(yW.refl H1).new (o := .tup [.int l, .int c]) ht
   have gt:(upd H1 t (.tup [.int l, .int c])) t=some (.tup [.int l, .int c]):=ac
   generalize upd H1 t (.tup [.int l, .int c])=H2 at s2 gt ⊢
   refine⟨pa,zf,_,rfl,rfl,s2 _ _ zC,by rw[sizeLine_eq];omega,?_⟩
   have OE:(upd H2 pa (.lst (zf ++ [.ref t]))) x=some (.ins C dx (iA (r - 1) b (hV h) pa)):=by rw[ae (Ne.symm Cq)];exact s2 _ _ AK
   have Jc:(upd H2 pa (.lst (zf ++ [.ref t]))) pa=some (.lst (zf ++ [.ref t])):=ac
   have o3:As x pa H (upd H2 pa (.lst (zf ++ [.ref t]))):=fun a o ha hb e=>by rw[ae hb];exact s2 _ _ (o1 a o ha hb e)
   have ntp:t ≠ pa:=aZ gt (s2 _ _ zC) (by intro z;cases z)
   have Jd:(upd H2 pa (.lst (zf ++ [.ref t]))) t=some (.tup [.int l, .int c]):=by rw[ae ntp];exact gt
   generalize upd H2 pa (.lst (zf ++ [.ref t]))=H3 at OE Jc o3 Jd ⊢
   have ntx:t ≠ x:=aZ Jd OE (by intro z;cases z)
   have fin:∀ h':Option Int,zr (upd H3 x (.ins C dx (aL "holder" (hV h') (iA (r - 1) b (hV h) pa)))) C x dx pa (r - 1) b h' (zf ++ [.ref t]) (qs ++ [(l,c)]):=fun h' =>
    ⟨ac,by rw[ae Cq];exact Jc,zl.snoc ⟨t,rfl,by rw[ae ntx];exact Jd⟩ (As.zO (fun a o ha hb e=>by rw[ae ha];exact o3 a o ha hb e) hL.ins hL.lst hL.Am)⟩
   have off:∀ o',As x pa H (upd H3 x o'):=fun o' a o ha hb e=>by rw[ae ha];exact o3 a o ha hb e
   refine⟨_,rfl,_,rfl,?_⟩
   cases last with
   | true=>exact aK ⟨_,rfl,x,C,dx,_,rfl,OE,L.cl,L.n3,by show 4 < 1000;decide,h2 ho t _ (off _) (fin none)⟩
   | false=>exact aI ⟨_,rfl,_,rfl,x,C,dx,_,rfl,OE,L.cl,L.n3,by show 4 < 1000;decide,h2 ho t _ (off _) (fin (some l))⟩
theorem uM:ao ["self"] ["self"] (aj nN):=L2.zy
theorem tL {C f:Addr}{fd:FuncData}(F:zt K "front" "Lane.front" nN f fd)(L:wn K C):yX P w K mg base aD 1 f fd ["self"] (iE C):=by
 refine F.ok uM (fun vs H Q E h=>?_) (fun cdv A outer s H vs Q E hr h=>?_)
 ·obtain⟨x,dx,pa,r,b,h,zf,qs,rfl,_⟩:=h
  rfl
 ·obtain⟨x,dx,pa,r,b,h,zf,qs,rfl,hL,q⟩:=h
  refine⟨_,ak (au (cK (ji (al (pv 0) rfl) (fun _=>rfl)) (ap aJ (al (pv 0) rfl) ah (fun _ _=>rfl)) cp)),?_⟩
  refine⟨_,rfl,x,C,dx,_,_,rfl,hL.ins,L.cl,L.n4,rfl,_, .inl ⟨_,zb.of hL.lst,rfl⟩,?_⟩
  cases zf with
  | nil=>exact aI q
  | cons v rest=>exact aK ⟨_,rfl,x,C,dx,_,_,rfl,hL.ins,L.cl,L.n4,rfl,pa,_,0,v,rfl,rfl,zb.of hL.lst,ai (j:=0) rfl,q⟩
theorem xm:ao ["self"] ["self"] (aj so):=L2.zy
theorem vk {C f nm:Addr}{fd:FuncData}(F:zt K "pull" "Lane.pull" so f fd)(L:wn K C)(Ex:Le K mg nm):yX P w K mg base (eR P w) 1 f fd ["self"] (nu C nm):=by
 refine F.Ew xm (fun vs H Q E h=>?_) (fun cdv A outer s H vs Q E hr h=>?_)
 ·obtain⟨x,dx,pa,r,b,h,zf,qs,rfl,_⟩:=h
  rfl
 ·obtain⟨x,dx,pa,r,b,h,zf,qs,rfl,hL,h1,h2⟩:=h
  refine⟨_,af (aN (bW (ji (al (pv 0) rfl) (fun _=>rfl))) (ak (b8 rfl Ex.x aP (ce Ex.x Ex.k rfl rfl Ex.m (aa aX ad)))) aE)
   (af (dU (pv 0) ah kZ)
   (ak (au (cz plainAttrs_list PySem.F.slot_list_pop PySem.F.type_list_pop tT (al (pv 0) rfl) (aa ah ad))))),?_⟩
  refine⟨_,rfl,x,C,dx,_,_,rfl,hL.ins,L.cl,L.n4,rfl,_, .inl ⟨_,zb.of hL.lst,rfl⟩,?_⟩
  have Cq:pa ≠ x:=aZ hL.lst hL.ins (by intro z;cases z)
  cases zf with
  | nil =>
   refine aK ⟨by show 1 <= sizeLine;decide,?_⟩
   exact h1 rfl H (yW.refl H)
  | cons v rest =>
   refine aI ?_
   refine⟨_,rfl,x,C,dx,_,_,rfl,hL.ins,L.cl,L.n2,rfl,_,_,rfl,rfl,dx,_,hL.ins,by show 4 < 1000;decide,?_⟩
   have AK:(upd H x (.ins C dx (aL "returning" (.int (b + 1)) (iA r b (hV h) pa)))) x=some (.ins C dx (iA r (b + 1) (hV h) pa)):=ac
   have zC:(upd H x (.ins C dx (aL "returning" (.int (b + 1)) (iA r b (hV h) pa)))) pa=some (.lst (v :: rest)):=by rw[ae Cq];exact hL.lst
   have o1:As x pa H (upd H x (.ins C dx (aL "returning" (.int (b + 1)) (iA r b (hV h) pa)))):=fun a o ha _ e=>by rw[ae ha];exact e
   show _
   generalize upd H x (.ins C dx (aL "returning" (.int (b + 1)) (iA r b (hV h) pa)))=H1 at AK zC o1 ⊢
   refine⟨_,rfl,x,C,dx,_,_,rfl,AK,L.cl,L.n4,rfl, .inl ⟨rfl,_,zb.of zC⟩,pa,v :: rest,0,0,v,rfl,rfl,zC,by decide,by decide,Rt _,rfl,?_⟩
   have o2:As x pa H (upd H1 pa (.lst rest)):=fun a o ha hb e=>by rw[ae hb];exact o1 a o ha hb e
   refine h2 v rest rfl _ o2 ⟨by rw[ae (Ne.symm Cq)];exact AK,ac,?_⟩
   have z:=As.zO o2 hL.ins hL.lst hL.Am
   cases z with
   | cons _ t=>exact t
theorem uN:ao ["self"] ["self"] (aj nQ):=L2.zy
theorem tN {C f nm:Addr}{fd:FuncData}(F:zt K "bring" "Lane.bring" nQ f fd)(L:wn K C)(Ex:Le K mg nm):yX P w K mg base (eR P w) 1 f fd ["self"] (oZ C nm):=by
 refine F.Ew uN (fun vs H Q E h=>?_) (fun cdv A outer s H vs Q E hr h=>?_)
 ·obtain⟨x,dx,pa,r,b,h,zf,qs,rfl,_⟩:=h
  rfl
 ·obtain⟨x,dx,pa,r,b,h,zf,qs,rfl,hL,h1,h2⟩:=h
  refine⟨_,af (aN (ax bv (al (pv 0) rfl) ah (aB _)) (ak (b8 rfl Ex.x aP (ce Ex.x Ex.k rfl rfl Ex.m (aa aX ad)))) aE)
   (af (dU (pv 0) ah pN) (ak (dU (pv 0) ah kZ))),?_⟩
  refine⟨_,rfl,x,C,dx,_,_,rfl,hL.ins,L.cl,L.n2,rfl,rfl,_,rfl,?_⟩
  have Cq:pa ≠ x:=aZ hL.lst hL.ins (by intro z;cases z)
  rw[bD]
  by_cases OF:b=0
  ·rw[decide_eq_true OF]
   refine aK ⟨by show 1 <= sizeLine;decide,?_⟩
   exact h1 OF H (yW.refl H)
  ·rw[decide_eq_false OF]
   refine aI ?_
   refine⟨_,rfl,x,C,dx,_,_,rfl,hL.ins,L.cl,L.n2,rfl,_,_,rfl,rfl,dx,_,hL.ins,by show 4 < 1000;decide,?_⟩
   have AK:(upd H x (.ins C dx (aL "returning" (.int (b - 1)) (iA r b (hV h) pa)))) x=some (.ins C dx (iA r (b - 1) (hV h) pa)):=ac
   have o1:As x pa H (upd H x (.ins C dx (aL "returning" (.int (b - 1)) (iA r b (hV h) pa)))):=fun a o ha _ e=>by rw[ae ha];exact e
   have zC:(upd H x (.ins C dx (aL "returning" (.int (b - 1)) (iA r b (hV h) pa)))) pa=some (.lst zf):=by rw[ae Cq];exact hL.lst
   show _
   generalize upd H x (.ins C dx (aL "returning" (.int (b - 1)) (iA r b (hV h) pa)))=H1 at AK zC o1 ⊢
   refine⟨_,rfl,x,C,dx,_,_,rfl,AK,L.cl,L.n1,rfl,_,_,rfl,rfl,dx,_,AK,by show 4 < 1000;decide,?_⟩
   have o2:∀ o',As x pa H (upd H1 x o'):=fun o' a o ha hb e=>by rw[ae ha];exact o1 a o ha hb e
   exact h2 OF _ (o2 _) ⟨ac,by rw[ae Cq];exact zC,As.zO (o2 _) hL.ins hL.lst hL.Am⟩
theorem Lh:ao ["self"] ["self"] (aj x9):=L2.zy
theorem yj {C f:Addr}{fd:FuncData}(F:zt K "told" "Lane.told" x9 f fd)(T:eO mg)(L:wn K C):yX P w K mg base aD 1 f fd ["self"] (wB C):=by
 refine F.ok Lh (fun vs H Q E h=>?_) (fun cdv A outer s H vs Q E hr h=>?_)
 ·obtain⟨x,dx,pa,r,b,h,zf,qs,rfl,_⟩:=h
  rfl
 ·obtain⟨x,dx,pa,r,b,h,zf,qs,rfl,hL,q⟩:=h
  refine⟨_,ak (au (aW (aa (al (pv 0) rfl) (aa (al (pv 0) rfl) (aa (al (pv 0) rfl) (aa (bF bA rfl T.list PySem.Pv.boot_list (aa (al (pv 0) rfl) ad)) ad)))))),?_⟩
  refine⟨_,rfl,x,C,dx,_,_,rfl,hL.ins,L.cl,L.n1,rfl,_,rfl,x,C,dx,_,_,rfl,hL.ins,L.cl,L.n2,rfl,_,rfl,x,C,dx,_,_,rfl,hL.ins,L.cl,L.n3,rfl,_,rfl,x,C,dx,_,_,rfl,hL.ins,L.cl,L.n4,rfl,pa,_,rfl, .inl (zb.of hL.lst),fun ql BP=>?_⟩
  have s1:=(yW.refl H).new (o := .lst zf) BP
  have g1:(upd H ql (.lst zf)) ql=some (.lst zf):=ac
  generalize upd H ql (.lst zf)=H1 at s1 g1 ⊢
  refine⟨by show 4 <= sizeLine;decide,fun t ht=>?_⟩
  have s2:=s1.new (o := .tup [.int r, .int b,hV h, .ref ql]) ht
  exact q t ql _ s2 BP ac (by rw[ae (ag g1 ht)];exact g1)
noncomputable def pA (m:Nat)(zk:List V):Bool:=decide (zk.length=m) && zk.all fun v=>jJ v 1 60
noncomputable def Sq (K:Frag)(H:Hp)(a:Addr)(xs:List V):Prop:=zb K H a xs∨zc K H a xs
noncomputable def oP (K:Frag)(c:Cs)(nr:Addr):Sp:=fun vs H Q E=>∃ (lx zx lt:Addr)(n:Int)(zg:List V)(ps:List (Int × Int))(rv:V),vs=[.ref lx,rv]/\cr H c lx zx lt n zg ps/\ps.length <= 1000 /\
 ((rv = .zm/\∀ t H',yW H H'->H' t=some (.tup (List.replicate ps.length (.int 1)))->Q (.ref t) H') ∨
  (∃ ra zk,rv = .ref ra/\Sq K H ra zk/\zk.length <= 1000/\(∀ v ∈ zk,rf v)/\(pA ps.length zk=false->∀ H',yW H H'->E (.ref nr) none H')/\(pA ps.length zk=true->∀ t H',yW H H'->zc K H' t zk->Q (.ref t) H')))
noncomputable def y9 (s:Stmt):Scope:=match s with
 | .If _ (.Return (some (.Call _ [.ListComp _ _ sc _] _ _)) _ :: _) _ _=>sc
 | _=>{ kind := .function,names:=[],isGenerator:=false,isCoroutine:=false }
noncomputable def xQ (s:Stmt):Scope:=match s with
 | .If (.BoolOp _ [_, .UnaryOp _ (.Call _ [.ListComp _ _ sc _] _ _) _] _) _ _ _=>sc
 | _=>{ kind := .function,names:=[],isGenerator:=false,isCoroutine:=false }
noncomputable def Je:V->Bool
 | .int i=>decide ((if i < 0 then -i else i) < 10 ^ (60:Int).toNat)
 | _=>false
noncomputable def rC:Sp:=fun vs H Q _=>∃ v,vs=[v]/\rf v/\Q (.bl (Je v)) H
noncomputable def ww (K:Frag)(f1 f2:Str):Sp:=fun vs H Q _=>∃ e C tt v1 v2,vs=[.ref e,v1,v2]/\H e=some (bM e C tt none)/\gr K C/\findIn K (.ref C) f1=some none/\findIn K (.ref C) f2=some none/\∀ d H',H d=none->(∀ b o,b ≠ e->H b=some o->H' b=some o)->H' e=some (bM e C tt (some d))->H' d=some (.xd [(f1,v1),(f2,v2)])->Q .zm H'
theorem b7 {K:Frag}{H H':Hp}{a:Addr}{xs:List V}(e:yW H H')(h:zc K H a xs):zc K H' a xs:=by
 rcases h with h | h
 ·refine .inl ?_
  rcases h with h | ⟨o,h⟩
  ·exact .inl (e _ _ h)
  ·exact .inr ⟨o,e _ _ h⟩
 ·exact .inr h
theorem Li {X:Cx}{tg it:Expr}{a b:TI}(h1:PI X tg it a)(h2:PI X tg it b):PI X tg it (fun σ H R=>a σ H R∨b σ H R):=fun pins s σ H R I h=>h.elim (h1 pins s σ H R I) (h2 pins s σ H R I)
theorem mP {J:It}{xs:List V}{g:TG}{te:TE}{σ0:St}{H:Hp}{Q:VK}(f:V->V)(hn:xs.length < sizeLine)(hgo:∀ i,i < xs.length->J.go i H)(B1:J.stop xs.length H)(hy:∀ i x H',J.Er i H x H'->H' = H/\xs[i]? = some x)
  (hs:∀ (x:V)(N:V->Hp->Prop),x ∈ xs->N (f x) H->g x σ0 H fun σ2 H2=>te σ2 H2 N)
  (hq:∀ D,H D=none->Q (.ref D) (upd H D (.lst (xs.map f)))):dF J g l7 te σ0 Q H:=by
 refine bI xs.length hn (fun i acc H'=>H' = H/\acc=(xs.take i).map f) ⟨rfl,rfl⟩ (fun i acc H' h=>by rw[h.2,length_map];exact length_take_le _ _) (fun i acc H' hi h=>?_) (fun acc H' h=>?_)
 ·obtain⟨rfl,rfl⟩:=h
  refine⟨hgo i hi,fun v H2 y=>?_⟩
  obtain⟨e,hx⟩:=hy i v H2 y
  subst e
  exact hs v (fun y H4=>H4=H2/\(xs.take i).map f ++ [y]=(xs.take (i + 1)).map f) (mem_of_getElem? hx) ⟨rfl,by rw[take_succ,hx,map_append];rfl⟩
 ·obtain⟨rfl,rfl⟩:=h
  rw[take_length]
  exact⟨B1,hq⟩
theorem yH {K:Frag}{a:Addr}{xs:List V}{g:TG}{te:TE}{σ0:St}{H:Hp}{Q:VK}(f:V->V)(hn:xs.length < sizeLine)(ha:zb K H a xs)(hs:∀ (x:V) (N:V->Hp->Prop),x ∈ xs->N (f x) H->g x σ0 H fun σ2 H2=>te σ2 H2 N)
  (hq:∀ D,H D=none->Q (.ref D) (upd H D (.lst (xs.map f)))):dF (uC K a) g l7 te σ0 Q H :=
 mP f hn (fun i hi=>⟨xs,xs[i],ha,by simp[hi]⟩) ⟨xs,ha,le_refl _⟩ (fun i x H' y=>⟨y.1,y.2 xs ha⟩) hs hq
theorem uu {K:Frag}{a:Addr}{xs:List V}{g:TG}{te:TE}{σ0:St}{H:Hp}{Q:VK}(f:V->V)(hn:xs.length < sizeLine)(ha:zc K H a xs)(hs:∀ (x:V) (N:V->Hp->Prop),x ∈ xs->N (f x) H->g x σ0 H fun σ2 H2=>te σ2 H2 N)
  (hq:∀ D,H D=none->Q (.ref D) (upd H D (.lst (xs.map f)))):dF (Ov K a) g l7 te σ0 Q H :=
 mP f hn (fun i hi=>⟨xs,xs[i],ha,by simp[hi]⟩) ⟨xs,ha,le_refl _⟩ (fun i x H' y=>⟨y.1,y.2 xs ha⟩) hs hq
structure uD (K:Frag)(mg:Str->Option Value)(x:Str)(C:Addr):Prop where
 m:mg x=some (.ref C)
 x:b5 K C none=true
 k:keepIn K (.ref C)=true
theorem Ru:ao ["land", "rooms"] ["land", "rooms"] (aj gm):=L2.zy
theorem Rv:Ae ["land", "rooms"] (aj gm) (y9 ((aH gm).getD 0 (.Pass ⟨0,0,0,0⟩))) [] []:=L2.Bf
theorem Rx:Ae ["land", "rooms"] (aj gm) (xQ ((aH gm).getD 1 (.Pass ⟨0,0,0,0⟩))) [] []:=L2.Bf
theorem Ry:(["lane"]:List Str).Nodup:=by decide +kernel
theorem Lj:(["room"]:List Str).Nodup:=by decide +kernel
theorem tD {c:Cs}{f fw nr:Addr}{fd dw:FuncData}{t1:Tok}(F:zt K "rooms_of" "rooms_of" gm f fd)(T:eO mg)(L:ku K c)(X:uD K mg "NoRooms" nr)
  (mw:mg "is_within" = some (.ref fw)) (kw:keepIn K (.ref fw)=true) (bw:Binds K dw ["value", "least", "most"] []) (Gw:yX P w K mg base aD 2 fw dw ["value", "least", "most"] fR) (mp:mg "MOST_ROOM" = some (.int 60 t1)) :
  yX P w K mg base (eR P w) 3 f fd ["land", "rooms"] (oP K c nr):=by
 refine F.Ew Ru (fun vs H Q E h=>?_) (fun cdv A outer s H vs Q E hr h=>?_)
 ·obtain⟨lx,zx,lt,n,zg,ps,rv,rfl,_⟩:=h
  rfl
 ·obtain⟨lx,zx,lt,n,zg,ps,rv,rfl,hL,AJ,hh⟩:=h
  refine⟨_,af (aN (ax kS (pv 1) cp (aB _)) (ak (au (bF dO rfl T.tuple PySem.Pv.boot_tuple (aa (bz (own:=["lane"]) (capN:=[]) (cap:=[]) Rv rfl (kO (al (pv 0) rfl))
     (fun C s' H' fp=>⟨av (i:=0) Ry rfl (Or.inl rfl),bJ,ah⟩)) ad)))) aE)
   (af (aN (iI (PW.pt (gP (ax lV (aG ay rfl T.len PySem.boot_len (aa (pv 1) ad)) (aG ay rfl T.len PySem.boot_len (aa (al (pv 0) rfl) ad)) (aB _))
     (eE (bW (bK (aG (j4 rfl) rfl T.all PyProof.Rows.boot_all (aa (bz (own:=["room"]) (capN:=[]) (cap:=[]) Rx rfl (Li (bO (pv 1)) (kO (pv 1)))
      (fun C s' H' fp=>⟨av (i:=0) Lj rfl (Or.inl rfl),bJ,aw Gw hr rfl mw kw bw .nil aq (aa (pv 0) (aa ah (aa (eI (v := .int 60) rfl mp ⟨_,rfl⟩) ad)))⟩)) ad))))))))
    (ak (b8 rfl X.x aP (ce X.x X.k rfl rfl X.m (aa aX ad)))) aE)
   (ak (au (bF dO rfl T.tuple PySem.Pv.boot_tuple (aa (pv 1) ad))))),?_⟩
  have DH:zg.length=ps.length:=Paired.length hL.2.2
  refine⟨_,rfl,rfl,_,rfl,?_⟩
  rcases hh with ⟨rfl,q⟩ | ⟨ra,zk,rfl,hR,EL,Lk,qE,q⟩
  ·refine aK ⟨_,rfl,lx,c.land,zx,_,_,rfl,hL.1,L.cl,L.nl,rfl,lt,rfl,⟨_,zc.of hL.2.1⟩,?_⟩
   refine uu (fun _ => .int 1) (by rw[sizeLine_eq];omega) (zc.of hL.2.1) (fun x N hx h=>h) (fun D hD=>?_)
   have s1:=(yW.refl H).new (o := .lst (zg.map fun _=>V.int 1)) hD
   refine⟨D,_,rfl, .inl ⟨zb.of ac,fun t ht=>q t _ (s1.new ht) ?_⟩⟩
   rw[ac,List.map_const',DH]
  ·refine aI ?_
   have len1:∀ {H:Hp},Sq K H ra zk->(zb K H ra zk∨zc K H ra zk):=fun h=>h
   refine⟨fun b H'=>yW H H'/\b = !pA ps.length zk,?_,?_⟩
   ·refine⟨_,rfl,ra,zk,rfl,hR,_,rfl,lx,c.land,zx,_,_,rfl,hL.1,L.cl,L.nl,rfl,lt,_,rfl, .inr (zc.of hL.2.1),rfl,_,rfl,?_⟩
    rw[bD,DH]
    by_cases Ll:zk.length=ps.length
    rotate_left
    ·rw[decide_eq_false (show ¬ ((zk.length:Nat):Int)=(ps.length:Nat) by omega)]
     refine aK ⟨yW.refl H,?_⟩
     unfold pA
     rw[decide_eq_false Ll];rfl
    rw[decide_eq_true (show((zk.length:Nat):Int)=(ps.length:Nat) by omega)]
    have step:∀ (x:V)(N:V->Hp->Prop),x ∈ zk->N (.bl (jJ x 1 60)) H->rf x:=fun x _ hx _=>Lk x hx
    have fin:∀ D,H D=none->∃ (p:Addr)(bs:List Bool),[V.ref D]=[.ref p]/\zb K (upd H D (.lst (zk.map fun v=>V.bl (jJ v 1 60)))) p (bs.map V.bl)/\∃ cc,V.bl (bs.all id) = .bl cc/\(yW H (upd H D (.lst (zk.map fun v=>V.bl (jJ v 1 60))))/\(!cc) = !pA ps.length zk):=fun D hD=>by
     refine⟨D,zk.map fun v=>jJ v 1 60,rfl,zb.of (by rw[ac,map_map];rfl),_,rfl,(yW.refl H).new hD,?_⟩
     unfold pA
     rw[decide_eq_true Ll,Bool.true_and,all_map];rfl
    refine aI ?_
    rcases hR with hR | hR
    ·refine .inl ⟨_,rfl,ra,rfl,⟨_,hR⟩,?_⟩
     exact yH (fun v => .bl (jJ v 1 60)) (by rw[sizeLine_eq];omega) hR (fun x N hx h=>⟨_,rfl,x,1,60,rfl,Lk x hx,h⟩) fin
    ·refine .inr ⟨_,rfl,ra,rfl,⟨_,hR⟩,?_⟩
     exact uu (fun v => .bl (jJ v 1 60)) (by rw[sizeLine_eq];omega) hR (fun x N hx h=>⟨_,rfl,x,1,60,rfl,Lk x hx,h⟩) fin
   rintro b H' ⟨s',rfl⟩
   cases ze:pA ps.length zk with
   | false=>exact aK ⟨by show 1 <= sizeLine;decide,qE ze H' s'⟩
   | true =>
    refine aI ⟨_,rfl,ra,zk,rfl,?_⟩
    rcases hR with hR | hR
    ·exact .inl ⟨s'.seq hR,fun t ht=>q ze t _ (s'.new ht) (zc.of ac)⟩
    ·exact .inr ⟨b7 s' hR,q ze ra _ s' (b7 s' hR)⟩
theorem Rz:ao ["word"] ["word"] (aj si):=L2.zy
theorem vg {f fh:Addr}{fd dh:FuncData}(F:zt K "is_word" "is_word" si f fd)(T:eO mg)(mh:mg "is_whole" = some (.ref fh))(kh:keepIn K (.ref fh)=true)(bh:Binds K dh ["value"] [])(G:yX P w K mg base aD 1 fh dh ["value"] gG) :
  yX P w K mg base aD 2 f fd ["word"] rC:=by
 refine F.ok Rz (fun vs H Q E h=>?_) (fun cdv A outer s H vs Q E hr h=>?_)
 ·obtain⟨v,rfl,_⟩:=h
  rfl
 ·obtain⟨v,rfl,hv,q⟩:=h
  refine⟨_,ak (au (dJ (aw G hr rfl mh kh bh .nil aq (aa (pv 0) ad)) (dI (c8 p6 (aG uv rfl T.abs PyProof.Rows.boot_abs (aa (pv 0) ad)) (az tp ah ah) (aB _))))),?_⟩
  cases hv with
  | int i=>exact⟨_,rfl,_,rfl, .int i,true,rfl,aK ⟨_,rfl,i,rfl,_,_,rfl,rfl,⟨by decide,by decide,by decide⟩,_,_,rfl,rfl,q⟩⟩
  | bl b=>exact⟨_,rfl,_,rfl, .bl b,false,rfl,aI q⟩
  | zm=>exact⟨_,rfl,_,rfl, .zm,false,rfl,aI q⟩
theorem R0:ao ["self", "start", "goal"] ["self", "start", "goal"] (aj uO):=L2.zy
theorem Ln {f:Addr}{fd:FuncData}(F:zt K "__init__" "NoWay.__init__" uO f fd):yX P w K mg base aD 1 f fd ["self", "start", "goal"] (ww K "start" "goal"):=by
 refine F.ok R0 (fun vs H Q E h=>?_) (fun cdv A outer s H vs Q E hr h=>?_)
 ·obtain⟨e,C,tt,v1,v2,rfl,_⟩:=h
  rfl
 ·obtain⟨e,C,tt,v1,v2,rfl,he,hx,n1,n2,q⟩:=h
  refine⟨_,af (sW (pv 0) (pv 1) rfl) (ak (sV (pv 0) (pv 2) rfl)),?_⟩
  refine⟨_,rfl,_,rfl,e,C,tt,rfl,he,hx,n1,fun d hd=>?_⟩
  have Wq:e ≠ d:=ag he hd
  refine⟨_,rfl,_,rfl,e,C,tt,d,[("start",v1)],rfl,ac,by rw[ae (Ne.symm Wq)];exact ac,by show 1 < 1000;decide,hx,n2,?_⟩
  refine q d _ hd (fun b o nb eb=>?_) (by rw[ae Wq];exact ac) (by rw[ac];rfl)
  have Wr:b ≠ d:=ag eb hd
  rw[ae Wr,ae nb,ae Wr]
  exact eb
noncomputable abbrev Wf:=Nat->Nat->Option Nat->List Nat
noncomputable abbrev TJ:=Hp->Addr->Nat->Wf->Prop
noncomputable def NL:HO->Prop
 | .lst _=>False
 | .ins _ _ []=>False
 | _=>True
noncomputable def zA (H H':Hp):Prop:=∀ b o,H b=some o->NL o->H' b=some o
theorem yW.zu {H H':Hp}(s:yW H H'):zA H H':=fun b o e _=>s b o e
theorem zA.trans {H H1 H2:Hp}(a:zA H H1)(b:zA H1 H2):zA H H2:=fun x o e n=>b x o (a x o e n) n
theorem zA.zO {H H':Hp}(k:zA H H'){vs:List V}{ps:List (Int × Int)}(h:zl H vs ps):zl H' vs ps:=zl.imp (fun _ _ ⟨t,e,q⟩=>⟨t,e,k _ _ q True.intro⟩) h
structure zY (c:Cs)(C:Addr)(J:TJ)(H:Hp)(x lx zx lt:Addr)(n:Nat)(zg:List V)(ps:List (Int × Int))(wy:Wf):Prop where
 j:J H x n wy
 i:∃ dx fs,H x=some (.ins C dx fs)/\fs.lookup ("land":Str)=some (.ref lx)/\fs.lookup ("ways":Str)=none
 l:cr H c lx zx lt (n:Int) zg ps
 R1:n <= 12
 zX:ps.length <= 40
 ok:∀ p g k,p < n->g < n->∀ z ∈ wy p g k,z < ps.length
structure Wy (K:Frag)(C fw:Addr)(dw:FuncData)(J:TJ):Prop where
 cl:BB K C
 nl:zj K C "land"
 m:b6 K C "ways" fw
 b:Binds K dw ["self", "place", "goal", "came"] []
 AY:∀ H H' x n wy,J H x n wy->zA H H'->J H' x n wy
theorem zY.keep {K:Frag}{c:Cs}{C fw:Addr}{dw:FuncData}{J:TJ}{H H':Hp}{x lx zx lt:Addr}{n:Nat}{zg:List V}{ps:List (Int × Int)}{wy:Wf}(W:Wy K C fw dw J)(h:zY c C J H x lx zx lt n zg ps wy)(k:zA H H'):zY c C J H' x lx zx lt n zg ps wy :=
 ⟨W.AY _ _ _ _ _ h.j k,let ⟨dx,fs,h1,h2⟩:=h.i; ⟨dx,fs,k _ _ h1 (by cases fs with | nil=>cases h2.1 | cons _ _=>exact True.intro),h2⟩,⟨k _ _ h.l.1 True.intro,k _ _ h.l.2.1 True.intro,k.zO h.l.2.2⟩,h.R1,h.zX,h.ok⟩
noncomputable def eC (J:TJ):Sp:=fun vs H Q _=>∃ (x:Addr)(n:Nat)(wy:Wf)(p g:Nat)(k:Option Nat),vs=[.ref x, .int p, .int g,cV k]/\J H x n wy/\p < n/\g < n/\∀ (D:Addr)(H':Hp),yW H H'->H D=none->H' D=some (.lst (nV (wy p g k)))->Q (.ref D) H'
structure bV where
 r:Int
 b:Int
 h:Option Int
 qs:List (Int × Int)
structure ci where
 start:Int
 goal:Int
 len:Int
 word:Int
 gone:Int
 way:List Nat
structure YS where
 rooms:List V
 lanes:List bV
 U:List ci
 lies:List (List (Int × Int))
 done:List (List V)
structure Ys where
 yZ:Addr
 zw:Addr
 yY:Addr
 ex:List Addr
noncomputable def Bp (H:Hp)(C:Addr)(ex:List Addr)(v:V)(s:bV):Prop:=∃ x dx pa zf,v = .ref x/\zr H C x dx pa s.r s.b s.h zf s.qs/\pa ∉ ex
noncomputable def oi (s:ci)(wa:Addr):Fs:=[("start", .int s.start),("goal", .int s.goal),("length", .int s.len),("word", .int s.word),("gone", .int s.gone),("way", .ref wa)]
noncomputable def BQ (H:Hp)(C:Addr)(ex:List Addr)(v:V)(s:ci):Prop:=∃ x dx wa,v = .ref x/\H x=some (.ins C dx (oi s wa))/\H wa=some (.lst (nV s.way))/\wa ∉ ex
noncomputable def Az (H:Hp)(v:V)(qs:List (Int × Int)):Prop:=∃ t vs,v = .ref t/\H t=some (.tup vs)/\zl H vs qs
noncomputable def Af (H:Hp)(v:V)(m:List V):Prop:=∃ t,v = .ref t/\H t=some (.tup m)
theorem Paired.mono {α β:Type}{R R':α->β->Prop}(h:∀ a b,R a b->R' a b):∀ {as:List α}{bs:List β},Paired R as bs->Paired R' as bs
 | _,_, .nil => .nil
 | _,_, .cons x r => .cons (h _ _ x) (Paired.mono h r)
theorem Paired.snoc {α β:Type}{R:α->β->Prop}{a:α}{b:β}(h:R a b):∀ {as:List α}{bs:List β},Paired R as bs->Paired R (as ++ [a]) (bs ++ [b])
 | _,_, .nil => .cons h .nil
 | _,_, .cons x r => .cons x (Paired.snoc h r)
theorem Paired.at {α β:Type}{R:α->β->Prop}:∀ {as:List α}{bs:List β}{i:Nat}{a:α},Paired R as bs->as[i]? = some a->∃ b,bs[i]? = some b/\R a b
 | _,_,_,_, .nil,h=>by cases h
 | _,_,0,_, .cons x _,h=>by cases h;exact⟨_,rfl,x⟩
 | _,_,i + 1,_, .cons _ r,h=>Paired.at (i:=i) r h
theorem Paired.at2 {α β:Type}{R:α->β->Prop}:∀ {as:List α}{bs:List β}{i:Nat}{b:β},Paired R as bs->bs[i]? = some b->∃ a,as[i]? = some a/\R a b
 | _,_,_,_, .nil,h=>by cases h
 | _,_,0,_, .cons x _,h=>by cases h;exact⟨_,rfl,x⟩
 | _,_,i + 1,_, .cons _ r,h=>Paired.at2 (i:=i) r h
noncomputable def zh (ex:List Addr)(H H':Hp):Prop:=∀ b o,b ∉ ex->H b=some o->H' b=some o
theorem yW.zE {ex:List Addr}{H H':Hp}(s:yW H H'):zh ex H H':=fun b o _ e=>s b o e
theorem zh.trans {ex:List Addr}{H H1 H2:Hp}(a:zh ex H H1)(b:zh ex H1 H2):zh ex H H2:=fun x o n e=>b x o n (a x o n e)
theorem zl.zE {ex:List Addr}{H H':Hp}(hx:∀ b ∈ ex,∃ xs,H b=some (.lst xs))(o:zh ex H H'){vs:List V}{ps:List (Int × Int)}(h:zl H vs ps):zl H' vs ps :=
 zl.imp (fun _ _ ⟨t,e,q⟩=>⟨t,e,o _ _ (fun z=>by obtain⟨xs,hz⟩:=hx _ z;rw[q]at hz;cases hz) q⟩) h
theorem zh.FH {ex:List Addr}{H H':Hp}(hx:∀ b ∈ ex,∃ o,H b=some o/\¬ NL o)(o:zh ex H H'):zA H H':=fun b u e n=>o b u (fun z=>by obtain⟨o',hz,hn⟩:=hx _ z;rw[e]at hz;cases hz;exact hn n) e
theorem zh.zu {ex:List Addr}{H H':Hp}(hx:∀ b ∈ ex,∃ xs,H b=some (.lst xs))(o:zh ex H H'):zA H H':=o.FH fun b hb=>let ⟨xs,hz⟩:=hx b hb; ⟨_,hz,id⟩
theorem Bp.zE {ex:List Addr}{H H':Hp}{C:Addr}{v:V}{s:bV}(hx:∀ b ∈ ex,∃ xs,H b=some (.lst xs))(o:zh ex H H')(h:Bp H C ex v s):Bp H' C ex v s:=by
 obtain⟨x,dx,pa,zf,e,L,n⟩:=h
 have k:=o.zu hx
 exact⟨x,dx,pa,zf,e,⟨k _ _ L.ins True.intro,o _ _ n L.lst,zl.zE hx o L.Am⟩,n⟩
theorem BQ.zE {ex:List Addr}{H H':Hp}{C:Addr}{v:V}{s:ci}(hx:∀ b ∈ ex,∃ xs,H b=some (.lst xs))(o:zh ex H H')(h:BQ H C ex v s):BQ H' C ex v s:=by
 obtain⟨x,dx,wa,e,h1,h2,n⟩:=h
 exact⟨x,dx,wa,e,o.zu hx _ _ h1 True.intro,o _ _ n h2,n⟩
theorem Az.keep {H H':Hp}{v:V}{qs:List (Int × Int)}(k:zA H H')(h:Az H v qs):Az H' v qs:=by
 obtain⟨t,vs,e,h1,h2⟩:=h
 exact⟨t,vs,e,k _ _ h1 True.intro,k.zO h2⟩
theorem Af.keep {H H':Hp}{v:V}{m:List V}(k:zA H H')(h:Af H v m):Af H' v m:=by
 obtain⟨t,e,h1⟩:=h
 exact⟨t,e,k _ _ h1 True.intro⟩
noncomputable def OG (tb ro la le li dn:Addr):Fs:=[("table", .ref tb),("rooms", .ref ro),("lanes", .ref la),("letters", .ref le),("lies", .ref li),("done", .ref dn)]
structure zd (K:Frag)(ys:Ys)(H:Hp)(y dy tb ro la le li dn:Addr)(s:YS):Prop where
 ins:H y=some (.ins ys.yZ dy (OG tb ro la le li dn))
 Lo:zc K H ro s.rooms
 Au:∃ vs,H la=some (.lst vs)/\Paired (Bp H ys.zw (la :: le :: li :: dn :: ys.ex)) vs s.lanes
 hle:∃ vs,H le=some (.lst vs)/\Paired (BQ H ys.yY (la :: le :: li :: dn :: ys.ex)) vs s.U
 BR:∃ vs,H li=some (.lst vs)/\Paired (Az H) vs s.lies
 B4:∃ vs,H dn=some (.lst vs)/\Paired (Af H) vs s.done
 ne:[la,le,li,dn].Nodup
 hex:∀ b ∈ ys.ex,∃ xs,H b=some (.lst xs)
theorem zd.Cr {K:Frag}{ys:Ys}{H:Hp}{y dy tb ro la le li dn:Addr}{s:YS}(h:zd K ys H y dy tb ro la le li dn s):∀ b ∈ [la,le,li,dn],∃ xs,H b=some (.lst xs):=by
 intro b hb
 obtain⟨v1,h1,_⟩:=h.Au
 obtain⟨v2,h2,_⟩:=h.hle
 obtain⟨v3,h3,_⟩:=h.BR
 obtain⟨v4,h4,_⟩:=h.B4
 simp only[mem_cons,not_mem_nil,or_false]at hb
 rcases hb with rfl | rfl | rfl | rfl
 ·exact⟨_,h1⟩
 ·exact⟨_,h2⟩
 ·exact⟨_,h3⟩
 ·exact⟨_,h4⟩
theorem zd.Dc {K:Frag}{ys:Ys}{H:Hp}{y dy tb ro la le li dn:Addr}{s:YS}(h:zd K ys H y dy tb ro la le li dn s):∀ b ∈ la :: le :: li :: dn :: ys.ex,∃ xs,H b=some (.lst xs):=by
 intro b hb
 have e:la :: le :: li :: dn :: ys.ex=[la,le,li,dn] ++ ys.ex:=rfl
 rw[e]at hb
 rcases mem_append.mp hb with hb | hb
 ·exact h.Cr b hb
 ·exact h.hex b hb
theorem zd.same {K:Frag}{ys:Ys}{H H':Hp}{y dy tb ro la le li dn:Addr}{s:YS}(h:zd K ys H y dy tb ro la le li dn s)(e:yW H H'):zd K ys H' y dy tb ro la le li dn s:=by
 have hx:=h.Dc
 obtain⟨v1,h1,p1⟩:=h.Au
 obtain⟨v2,h2,p2⟩:=h.hle
 obtain⟨v3,h3,p3⟩:=h.BR
 obtain⟨v4,h4,p4⟩:=h.B4
 have o:zh (la :: le :: li :: dn :: ys.ex) H H':=yW.zE e
 exact⟨e _ _ h.ins,b7 e h.Lo,⟨v1,e _ _ h1,Paired.mono (fun _ _ z=>z.zE hx o) p1⟩,⟨v2,e _ _ h2,Paired.mono (fun _ _ z=>z.zE hx o) p2⟩,⟨v3,e _ _ h3,Paired.mono (fun _ _ z=>z.keep (yW.zu e)) p3⟩,⟨v4,e _ _ h4,Paired.mono (fun _ _ z=>z.keep (yW.zu e)) p4⟩,h.ne,fun b hb=>let ⟨xs,hz⟩:=h.hex b hb; ⟨xs,e _ _ hz⟩⟩
structure i5 (K:Frag)(ys:Ys):Prop where
 cl:BB K ys.yZ
 n1:zj K ys.yZ "table"
 n2:zj K ys.yZ "rooms"
 n3:zj K ys.yZ "lanes"
 n4:zj K ys.yZ "letters"
 n5:zj K ys.yZ "lies"
 n6:zj K ys.yZ "done"
 ct:BB K ys.yY
 t1:zj K ys.yY "start"
 t2:zj K ys.yY "goal"
 t3:zj K ys.yY "length"
 t4:zj K ys.yY "word"
 t5:zj K ys.yY "gone"
 t6:zj K ys.yY "way"
 L:wn K ys.zw
noncomputable def rO (C:Addr):Sp:=fun vs H Q _=>∃ (x dx:Addr)(a b l u:Int),vs=[.ref x, .int a, .int b, .int l, .int u]/\H x=some (.ins C dx [])/\∀ (wa:Addr)(H':Hp),H wa=none->(∀ z o,z ≠ x->H z=some o->H' z=some o)->H' x=some (.ins C dx (oi ⟨a,b,l,u,0,[]⟩ wa))->H' wa=some (.lst (nV []))->Q .zm H'
theorem Lp:ao ["self", "start", "goal", "length", "word"] ["self", "start", "goal", "length", "word"] (aj sG):=L2.zy
theorem yh {ys:Ys}{f:Addr}{fd:FuncData}(F:zt K "__init__" "Letter.__init__" sG f fd)(Y:i5 K ys):yX P w K mg base aD 1 f fd ["self", "start", "goal", "length", "word"] (rO ys.yY):=by
 refine F.ok Lp (fun vs H Q E h=>?_) (fun cdv A outer s H vs Q E hr h=>?_)
 ·obtain⟨x,dx,a,b,l,u,rfl,_⟩:=h
  rfl
 ·obtain⟨x,dx,a,b,l,u,rfl,hx,q⟩:=h
  refine⟨_,af (aY (pv 0) (pv 1) rfl) (af (aY (pv 0) (pv 2) rfl) (af (aY (pv 0) (pv 3) rfl) (af (aY (pv 0) (pv 4) rfl) (af (aY (pv 0) ah rfl) (ak (aY (pv 0) (aV ad) rfl)))))),?_⟩
  refine⟨_,rfl,_,rfl,x,ys.yY,dx,_,rfl,hx,Y.ct,Y.t1,by show 0 < 1000;decide,?_⟩
  refine⟨_,rfl,_,rfl,x,ys.yY,dx,_,rfl,ac,Y.ct,Y.t2,by show 1 < 1000;decide,?_⟩
  refine⟨_,rfl,_,rfl,x,ys.yY,dx,_,rfl,ac,Y.ct,Y.t3,by show 2 < 1000;decide,?_⟩
  refine⟨_,rfl,_,rfl,x,ys.yY,dx,_,rfl,ac,Y.ct,Y.t4,by show 3 < 1000;decide,?_⟩
  refine⟨_,rfl,x,ys.yY,dx,_,rfl,ac,Y.ct,Y.t5,by show 4 < 1000;decide,?_⟩
  refine⟨zero_le _,fun wa D1=>?_⟩
  have EM:x ≠ wa:=ag ac D1
  refine⟨_,rfl,x,ys.yY,dx,_,rfl,by rw[ae EM];exact ac,Y.ct,Y.t6,by show 5 < 1000;decide,?_⟩
  have Lq:H wa=none:=by
   rw[ae (Ne.symm EM),ae (Ne.symm EM),ae (Ne.symm EM),ae (Ne.symm EM),ae (Ne.symm EM)]at D1
   exact D1
  refine q wa _ Lq (fun z o nz e=>?_) ac (by rw[ae (Ne.symm EM)];exact ac)
  have nzw:z ≠ wa:=ag e Lq
  rw[ae nz,ae nzw,ae nz,ae nz,ae nz,ae nz,ae nz]
  exact e
noncomputable def vI:V->Int
 | .int i=>i
 | _=>0
noncomputable def qK (v:V):bV:=⟨vI v,0,none,[]⟩
noncomputable def Y0 (rooms:List V)(n:Nat):YS:=⟨rooms,rooms.map qK,[],List.replicate n [],[]⟩
noncomputable def AW (H0 H:Hp)(C:Addr)(v:V)(s:bV):Prop:=∃ x dx pa,v = .ref x/\zr H C x dx pa s.r s.b s.h [] []/\s.qs=[]/\H0 x=none/\H0 pa=none
theorem AW.same {H0 H H':Hp}{C:Addr}{v:V}{s:bV}(h:AW H0 H C v s)(e:yW H H'):AW H0 H' C v s:=by
 obtain⟨x,dx,pa,h1,h2,h3⟩:=h
 exact⟨x,dx,pa,h1,h2.same e,h3⟩
noncomputable def zH (y:Addr)(ex:List Addr)(H:Hp)(C:Addr)(v:V)(s:bV):Prop:=∃ x dx pa,v = .ref x/\zr H C x dx pa s.r s.b s.h [] []/\s.qs=[]/\x ≠ y/\pa ≠ y/\pa ∉ ex
theorem AW.Lr {H0 H:Hp}{C y:Addr}{v:V}{s:bV}{u:HO}(h:AW H0 H C v s)(hy:H0 y=some u):zH y [] H C v s:=by
 obtain⟨x,dx,pa,h1,h2,h3,h4,h5⟩:=h
 exact⟨x,dx,pa,h1,h2,h3,(fun z=>by rw[z,hy]at h4;cases h4),(fun z=>by rw[z,hy]at h5;cases h5),not_mem_nil⟩
theorem zH.same {y:Addr}{ex:List Addr}{H H':Hp}{C:Addr}{v:V}{s:bV}(h:zH y ex H C v s)(e:yW H H'):zH y ex H' C v s:=by
 obtain⟨x,dx,pa,h1,h2,h3⟩:=h
 exact⟨x,dx,pa,h1,h2.same e,h3⟩
theorem zH.upd {y:Addr}{ex:List Addr}{H:Hp}{C:Addr}{v:V}{s:bV}{o:HO}(h:zH y ex H C v s):zH y ex (upd H y o) C v s:=by
 obtain⟨x,dx,pa,h1,h2,h3,h4,h5,h6⟩:=h
 exact⟨x,dx,pa,h1,⟨by rw[ae h4];exact h2.ins,by rw[ae h5];exact h2.lst, .nil⟩,h3,h4,h5,h6⟩
theorem zH.new {y a:Addr}{ex:List Addr}{H:Hp}{C:Addr}{v:V}{s:bV}{o:HO}(h:zH y ex H C v s)(ha:H a=none):zH y (a :: ex) (L2.upd H a o) C v s:=by
 obtain⟨x,dx,pa,h1,h2,h3,h4,h5,h6⟩:=h
 exact⟨x,dx,pa,h1,h2.same ((yW.refl H).new ha),h3,h4,h5,fun z=>(mem_cons.mp z).elim (fun z=>by rw[z]at h2;rw[h2.lst]at ha;cases ha) h6⟩
theorem zH.Ls {y:Addr}{ex IQ:List Addr}{H:Hp}{C:Addr}{v:V}{s:bV}(h:zH y ex H C v s)(hs:∀ a ∈ IQ,a ∈ ex):Bp H C IQ v s:=by
 obtain⟨x,dx,pa,h1,h2,h3,h4,h5,h6⟩:=h
 exact⟨x,dx,pa,[],h1,by rw[h3];exact h2,fun z=>h6 (hs _ z)⟩
theorem oA {K:Frag}{ro C:Addr}{zk:List V}{g:TG}{te:TE}{σ0:St}{H:Hp}{Q:VK}(hn:zk.length < sizeLine)(ha:zc K H ro zk)(hint:∀ v ∈ zk,∃ r,v = .int r)
  (hs:∀ (r:Int)(H1:Hp)(N:V->Hp->Prop),yW H H1->(∀ x dx pa H2,H1 x=none->H1 pa=none->yW H1 H2->zr H2 C x dx pa r 0 none [] []->N (.ref x) H2)->g (.int r) σ0 H1 fun σ2 H2=>te σ2 H2 N)
  (hq:∀ D vs H1,yW H H1->H1 D=none->Paired (AW H H1 C) vs (zk.map qK)->Q (.ref D) (upd H1 D (.lst vs))):dF (Ov K ro) g l7 te σ0 Q H:=by
 refine bI zk.length hn (fun i acc H'=>yW H H'/\Paired (AW H H' C) acc ((zk.take i).map qK)) ⟨yW.refl _, .nil⟩ (fun i acc H' h=>by have:=Paired.length h.2;rw[this,length_map];exact length_take_le _ _) (fun i acc H' hi h=>?_) (fun acc H' h=>?_)
 ·obtain⟨s,hL⟩:=h
  refine⟨⟨zk,zk[i],b7 s ha,by simp[hi]⟩,fun v H2 y=>?_⟩
  obtain⟨e,y⟩:=y
  subst e
  have hv:=y _ (b7 s ha)
  obtain⟨r,rfl⟩:=hint v (mem_of_getElem? hv)
  refine hs r H2 (fun y H4=>yW H H4/\Paired (AW H H4 C) (acc ++ [y]) ((zk.take (i + 1)).map qK)) s fun x dx pa H3 nx EN s3 BO=>⟨s.trans s3,?_⟩
  rw[take_succ,hv,Option.toList_some,map_append]
  exact Paired.snoc (b:=qK (.int r)) ⟨x,dx,pa,rfl,BO,rfl,s.free nx,s.free EN⟩ (Paired.mono (fun _ _ z=>z.same s3) hL)
 ·obtain⟨s,hL⟩:=h
  rw[take_length]at hL
  exact⟨⟨zk,b7 s ha,le_refl _⟩,fun D hD=>hq D acc H' s hD hL⟩
theorem qZ {n:Nat}{g:TG}{te:TE}{σ0:St}{H:Hp}{Q:VK}(hn:n <= 1000)
  (hs:∀ (i:Nat)(H1:Hp)(N:V->Hp->Prop),yW H H1->(∀ t,H1 t=none->N (.ref t) (upd H1 t (.tup [])))->g (.int (0 + i)) σ0 H1 fun σ2 H2=>te σ2 H2 N)
  (hq:∀ D vs H1,yW H H1->H1 D=none->Paired (Az H1) vs (List.replicate n [])->Q (.ref D) (upd H1 D (.lst vs))):dF (u0 0 n) g l7 te σ0 Q H:=by
 refine bI n (by rw[sizeLine_eq];omega) (fun i acc H'=>yW H H'/\Paired (Az H') acc (List.replicate i [])) ⟨yW.refl _, .nil⟩ (fun i acc H' h=>by have:=Paired.length h.2;rw[this,length_replicate];exact le_refl _) (fun i acc H' hi h=>?_) (fun acc H' h=>?_)
 ·obtain⟨s,hL⟩:=h
  refine⟨hi,fun v H2 y=>?_⟩
  obtain⟨e1,e2⟩:=y
  subst e1 e2
  refine hs i H2 (fun y H4=>yW H H4/\Paired (Az H4) (acc ++ [y]) (List.replicate (i + 1) [])) s fun t ht=>⟨s.new ht,?_⟩
  rw[replicate_succ']
  exact Paired.snoc ⟨t,[],rfl,ac, .nil⟩ (Paired.mono (fun _ _ z=>z.keep (yW.zu ((yW.refl H2).new ht))) hL)
 ·obtain⟨s,hL⟩:=h
  exact⟨le_refl n,fun D hD=>hq D acc H' s hD hL⟩
theorem fQ {K:Frag}{H:Hp}{a y C d:Addr}{fs:Fs}{o:HO}{xs:List V}(hy:H y=some (.ins C d fs))(h:zc K H a xs):zc K (upd H y o) a xs:=by
 rcases h with h | h
 ·refine .inl ?_
  rcases h with h | ⟨u,h⟩
  ·exact .inl (by rw[ae (aZ h hy (by intro z;cases z))];exact h)
  ·exact .inr ⟨u,by rw[ae (aZ h hy (by intro z;cases z))];exact h⟩
 ·exact .inr h
theorem uH {K:Frag}{H:Hp}{a y C d:Addr}{fs:Fs}{o:HO}{xs:List V}(hy:H y=some (.ins C d fs))(h:zb K H a xs):zb K (upd H y o) a xs:=by
 rcases h with h | h
 ·refine .inl ?_
  rcases h with h | ⟨u,h⟩
  ·exact .inl (by rw[ae (aZ h hy (by intro z;cases z))];exact h)
  ·exact .inr ⟨u,by rw[ae (aZ h hy (by intro z;cases z))];exact h⟩
 ·exact .inr h
noncomputable def wu (K:Frag)(c:Cs)(TC:Addr)(J:TJ)(ys:Ys)(nr:Addr):Sp:=fun vs H Q E=>∃ (y dy tb lx zx lt:Addr)(n:Nat)(zg:List V)(ps:List (Int × Int))(wy:Wf)(rv:V)(zk:List V),vs=[.ref y, .ref tb,rv]/\H y=some (.ins ys.yZ dy [])/\zY c TC J H tb lx zx lt n zg ps wy /\
 ((rv = .zm/\zk=List.replicate ps.length (.int 1))∨(∃ ra,rv = .ref ra/\Sq K H ra zk/\zk.length <= 1000/\(∀ v ∈ zk,rf v)/\(pA ps.length zk=false->∀ H',zh [y] H H'->E (.ref nr) none H'))) /\
 (pA ps.length zk=true->∀ (ro la le li dn:Addr)(H':Hp),zh [y] H H'->H la=none->H le=none->H li=none->H dn=none->zd K { ys with ex:=[] } H' y dy tb ro la le li dn (Y0 zk n)->Q .zm H')
noncomputable def Lu (s:Stmt):Scope:=match s with
 | .Assign _ (.ListComp _ _ sc _) _=>sc
 | _=>{ kind := .function,names:=[],isGenerator:=false,isCoroutine:=false }
theorem iL {v:V}{a b:Int}(h:jJ v a b=true):∃ r,v = .int r:=by
 cases v<;>first | exact⟨_,rfl⟩ | cases h
theorem R3:ao ["self", "table", "rooms"] ["self", "table", "rooms"] (aj il):=L2.zy
theorem Lv:Ae ["self", "table", "rooms"] (aj il) (Lu ((aH il).getD 2 (.Pass ⟨0,0,0,0⟩))) [] []:=L2.Bf
theorem Lw:Ae ["self", "table", "rooms"] (aj il) (Lu ((aH il).getD 4 (.Pass ⟨0,0,0,0⟩))) [] []:=L2.Bf
theorem Lx:(["place"]:List Str).Nodup:=by decide +kernel
theorem xW {c:Cs}{ys:Ys}{J:TJ}{TC f OH fr fl nr:Addr}{fd OI dr dl:FuncData}(F:Dy K "__init__" "Yard.__init__" il f fd)(T:eO mg)(L:ku K c)(Y:i5 K ys)(W:Wy K TC OH OI J)
  (mr:mg "rooms_of" = some (.ref fr)) (kr:keepIn K (.ref fr)=true) (br:Binds K dr ["land", "rooms"] []) (Gr:yX P w K mg base (eR P w) 3 fr dr ["land", "rooms"] (oP K c nr))
  (ml:mg "Lane" = some (.ref ys.zw)) (Ml:Mk K ys.zw fl) (bl:Binds K dl ["self", "room"] []) (Gl:yX P w K mg base aD 1 fl dl ["self", "room"] (rP ys.zw)) :
  yX P w K mg base (eR P w) 4 f fd ["self", "table", "rooms"] (wu K c TC J ys nr):=by
 refine F.Ew R3 (fun vs H Q E h=>?_) (fun cdv A outer s H vs Q E hr h=>?_)
 ·obtain⟨y,dy,tb,lx,zx,lt,n,zg,ps,wy,rv,zk,rfl,_⟩:=h
  rfl
 ·obtain⟨y,dy,tb,lx,zx,lt,n,zg,ps,wy,rv,zk,rfl,hy,hT,hrv,q⟩:=h
  have Ay:zi 2 _:=hr.mono (by decide)
  refine⟨_,af (aY (pv 0) (pv 1) rfl)
   (af (aY (pv 0) (pj (aw Gr hr rfl mr kr br .nil (AV.passes aP rfl) (aa (al (pv 1) rfl) (aa (pv 2) ad)))) rfl)
   (af (aY (pv 0) (bz (own:=["room"]) (capN:=[]) (cap:=[]) Lv rfl (kO (al (pv 0) rfl)) (fun C s' H' fp=>⟨av (i:=0) Lj rfl (Or.inl rfl),bJ,dD Ml Gl Ay rfl ml bl .nil aq (aa (pv 0) ad)⟩)) rfl)
   (af (aY (pv 0) (aV ad) rfl)
   (af (aY (pv 0) (bz (own:=["place"]) (capN:=[]) (cap:=[]) Lw rfl (aM rfl T.range (aa (al (al (pv 1) rfl) rfl) ad)) (fun C s' H' fp=>⟨av (i:=0) Lx rfl (Or.inl rfl),bJ,aW ad⟩)) rfl)
   (ak (aY (pv 0) (aV ad) rfl)))))),?_⟩
  have hm40:=hT.zX
  have EO:=hT.R1
  obtain⟨BD,fst,B5,zF,_⟩:=hT.i
  have kp:∀ {H':Hp},zh [y] H H'->zA H H':=fun o=>o.FH fun b hb=>by rw[mem_singleton.mp hb];exact⟨_,hy,id⟩
  have R4:tb ≠ y:=aZ B5 hy (fun z=>by injection z with _ _ z3;rw[z3]at zF;cases zF)
  refine⟨_,rfl,_,rfl,y,ys.yZ,dy,_,rfl,hy,Y.cl,Y.n1,by show 0 < 1000;decide,?_⟩
  have o1:zh [y] H (upd H y (.ins ys.yZ dy (aL "table" (.ref tb) []))):=fun b o nb e=>by rw[ae (fun z=>nb (by rw[z];exact mem_singleton.mpr rfl))];exact e
  have g1:(upd H y (.ins ys.yZ dy (aL "table" (.ref tb) []))) y=some (.ins ys.yZ dy [("table", .ref tb)]):=ac
  have Ws:∀ ra,Sq K H ra zk->Sq K (upd H y (.ins ys.yZ dy (aL "table" (.ref tb) []))) ra zk:=fun ra h=>h.elim (fun h => .inl (uH hy h)) fun h => .inr (fQ hy h)
  show _
  generalize upd H y (.ins ys.yZ dy (aL "table" (.ref tb) []))=A1 at o1 g1 Ws ⊢
  have hT1:=hT.keep W (kp o1)
  have Ly:∀ {Ha Hb:Hp}{o:HO},zh [y] Ha Hb->zh [y] Ha (upd Hb y o):=fun {Ha Hb o} h b u nb e=>by rw[ae (fun z=>nb (by rw[z];exact mem_singleton.mpr rfl))];exact h b u nb e
  refine⟨fun v A2=>∃ ro,v = .ref ro/\yW A1 A2/\zc K A2 ro zk/\pA ps.length zk=true,?_,?_⟩
  ·refine⟨_,rfl,tb,TC,BD,fst,_,rfl,o1 _ _ (fun z=>R4 (mem_singleton.mp z)) B5,W.cl,W.nl,zF,_,rfl,lx,zx,lt,(n:Int),zg,ps,rv,rfl,hT1.l,by omega,?_⟩
   rcases hrv with ⟨rfl,rfl⟩ | ⟨ra,rfl,hR,EL,Lk,qE⟩
   ·refine .inl ⟨rfl,fun t A2 s2 ht=>⟨t,rfl,s2,zc.of ht,?_⟩⟩
    unfold pA
    rw[length_replicate,decide_eq_true rfl,Bool.true_and,all_eq_true]
    intro v hv
    rw[eq_of_mem_replicate hv];rfl
   ·have hR1:Sq K A1 ra zk:=Ws ra hR
    exact .inr ⟨ra,zk,rfl,hR1,EL,Lk,fun ze A2 s2=>qE ze A2 (o1.trans (yW.zE s2)),fun ze t A2 s2 ht=>⟨t,rfl,s2,ht,ze⟩⟩
  rintro v A2 ⟨ro,rfl,s2,Lo,ze⟩
  have Ax:zk.length=ps.length/\∀ v ∈ zk,∃ r,v = .int r:=by
   unfold pA at ze
   rw[Bool.and_eq_true,decide_eq_true_eq,all_eq_true]at ze
   exact⟨ze.1,fun v hv=>iL (ze.2 v hv)⟩
  have o2:zh [y] H A2:=o1.trans (yW.zE s2)
  have g2:=s2 _ _ g1
  refine⟨_,rfl,y,ys.yZ,dy,_,rfl,g2,Y.cl,Y.n2,by show 1 < 1000;decide,?_⟩
  have o3:=Ly (o := .ins ys.yZ dy (aL "rooms" (.ref ro) [("table", .ref tb)])) o2
  have g3:(upd A2 y (.ins ys.yZ dy (aL "rooms" (.ref ro) [("table", .ref tb)]))) y=some (.ins ys.yZ dy [("table", .ref tb),("rooms", .ref ro)]):=ac
  have ER:zc K (upd A2 y (.ins ys.yZ dy (aL "rooms" (.ref ro) [("table", .ref tb)]))) ro zk:=fQ g2 Lo
  show _
  generalize upd A2 y (.ins ys.yZ dy (aL "rooms" (.ref ro) [("table", .ref tb)]))=A3 at o3 g3 ER ⊢
  refine⟨_,rfl,y,ys.yZ,dy,_,_,rfl,g3,Y.cl,Y.n2,rfl,ro,rfl,⟨_,ER⟩,?_⟩
  refine oA (C:=ys.zw) (by rw[sizeLine_eq];omega) ER Ax.2 (fun r B N sB hN=>?_) (fun la lvs A4 s4 Au ES=>?_)
  ·refine⟨_,rfl,fun x dx nx Lz L4=>⟨x,dx,r,rfl,ac,fun pa B2 Dz off hL=>⟨rfl,?_⟩⟩⟩
   have Cq:B pa=none:=by
    by_cases e1:pa=x
    ·rw[e1,ac]at Dz;cases Dz
    ·by_cases e2:pa=dx
     ·rw[e2,ae L4,ac]at Dz;cases Dz
     ·rw[ae e1,ae e2]at Dz;exact Dz
   refine hN x dx pa B2 nx Cq (fun b o e=>off b o (ag e nx) ?_) hL
   rw[ae (ag e nx),ae (ag e Lz)]
   exact e
  have o4:zh [y] H A4:=o3.trans (yW.zE s4)
  have g4:=s4 _ _ g3
  have FI:la ≠ y:=Ne.symm (ag g4 Au)
  have la0:H la=none:=by
   cases e:H la with
   | none=>rfl
   | some u=>rw[o4 _ _ (fun z=>FI (mem_singleton.mp z)) e]at Au;cases Au
  have Wt:Paired (zH y [la] (upd A4 la (.lst lvs)) ys.zw) lvs (zk.map qK):=Paired.mono (fun _ _ z=>(z.Lr g3).new Au) ES
  have o5:zh [y] H (upd A4 la (.lst lvs)):=o4.trans (yW.zE ((yW.refl A4).new Au))
  have g5:(upd A4 la (.lst lvs)) y=some (.ins ys.yZ dy [("table", .ref tb),("rooms", .ref ro)]):=by rw[ae (Ne.symm FI)];exact g4
  have L5:(upd A4 la (.lst lvs)) la=some (.lst lvs):=ac
  have L6:zc K (upd A4 la (.lst lvs)) ro zk:=b7 ((yW.refl A4).new Au) (b7 s4 ER)
  refine⟨_,rfl,y,ys.yZ,dy,_,rfl,g5,Y.cl,Y.n3,by show 2 < 1000;decide,?_⟩
  generalize upd A4 la (.lst lvs)=A5 at Wt o5 g5 L5 L6 ⊢
  have Wu:Paired (zH y [la] (upd A5 y (.ins ys.yZ dy (aL "lanes" (.ref la) [("table", .ref tb),("rooms", .ref ro)]))) ys.zw) lvs (zk.map qK):=Paired.mono (fun _ _ z=>z.upd) Wt
  have o6:=Ly (o := .ins ys.yZ dy (aL "lanes" (.ref la) [("table", .ref tb),("rooms", .ref ro)])) o5
  have g6:(upd A5 y (.ins ys.yZ dy (aL "lanes" (.ref la) [("table", .ref tb),("rooms", .ref ro)]))) y=some (.ins ys.yZ dy [("table", .ref tb),("rooms", .ref ro),("lanes", .ref la)]):=ac
  have HD:(upd A5 y (.ins ys.yZ dy (aL "lanes" (.ref la) [("table", .ref tb),("rooms", .ref ro)]))) la=some (.lst lvs):=by rw[ae FI];exact L5
  have L7:=fQ (o := .ins ys.yZ dy (aL "lanes" (.ref la) [("table", .ref tb),("rooms", .ref ro)])) g5 L6
  generalize upd A5 y (.ins ys.yZ dy (aL "lanes" (.ref la) [("table", .ref tb),("rooms", .ref ro)]))=A6 at Wu o6 g6 HD L7 ⊢
  refine⟨zero_le _,fun le hle=>?_⟩
  have HE:le ≠ y:=Ne.symm (ag g6 hle)
  have FJ:la ≠ le:=ag HD hle
  have le0:H le=none:=by
   cases e:H le with
   | none=>rfl
   | some u=>rw[o6 _ _ (fun z=>HE (mem_singleton.mp z)) e]at hle;cases hle
  have Wv:Paired (zH y [le,la] (upd A6 le (.lst [])) ys.zw) lvs (zk.map qK):=Paired.mono (fun _ _ z=>z.new hle) Wu
  have o7:zh [y] H (upd A6 le (.lst [])):=o6.trans (yW.zE ((yW.refl A6).new hle))
  have g7:(upd A6 le (.lst [])) y=some (.ins ys.yZ dy [("table", .ref tb),("rooms", .ref ro),("lanes", .ref la)]):=by rw[ae (Ne.symm HE)];exact g6
  have L8:(upd A6 le (.lst [])) la=some (.lst lvs):=by rw[ae FJ];exact HD
  have L9:(upd A6 le (.lst [])) le=some (.lst []):=ac
  have LA:zc K (upd A6 le (.lst [])) ro zk:=b7 ((yW.refl A6).new hle) L7
  refine⟨_,rfl,y,ys.yZ,dy,_,rfl,g7,Y.cl,Y.n4,by show 3 < 1000;decide,?_⟩
  generalize upd A6 le (.lst [])=A7 at Wv o7 g7 L8 L9 LA ⊢
  have Ww:Paired (zH y [le,la] (upd A7 y (.ins ys.yZ dy (aL "letters" (.ref le) [("table", .ref tb),("rooms", .ref ro),("lanes", .ref la)]))) ys.zw) lvs (zk.map qK):=Paired.mono (fun _ _ z=>z.upd) Wv
  have o8:=Ly (o := .ins ys.yZ dy (aL "letters" (.ref le) [("table", .ref tb),("rooms", .ref ro),("lanes", .ref la)])) o7
  have g8:(upd A7 y (.ins ys.yZ dy (aL "letters" (.ref le) [("table", .ref tb),("rooms", .ref ro),("lanes", .ref la)]))) y=some (.ins ys.yZ dy [("table", .ref tb),("rooms", .ref ro),("lanes", .ref la),("letters", .ref le)]):=ac
  have HF:(upd A7 y (.ins ys.yZ dy (aL "letters" (.ref le) [("table", .ref tb),("rooms", .ref ro),("lanes", .ref la)]))) la=some (.lst lvs):=by rw[ae FI];exact L8
  have HG:(upd A7 y (.ins ys.yZ dy (aL "letters" (.ref le) [("table", .ref tb),("rooms", .ref ro),("lanes", .ref la)]))) le=some (.lst []):=by rw[ae HE];exact L9
  have LB:=fQ (o := .ins ys.yZ dy (aL "letters" (.ref le) [("table", .ref tb),("rooms", .ref ro),("lanes", .ref la)])) g7 LA
  generalize upd A7 y (.ins ys.yZ dy (aL "letters" (.ref le) [("table", .ref tb),("rooms", .ref ro),("lanes", .ref la)]))=A8 at Ww o8 g8 HF HG LB ⊢
  have R5:=hT.keep W (kp o8)
  refine⟨_,rfl,tb,TC,BD,fst,_,rfl,o8 _ _ (fun z=>R4 (mem_singleton.mp z)) B5,W.cl,W.nl,zF,lx,c.land,zx,_,_,rfl,R5.l.1,L.cl,L.np,rfl,(n:Int),rfl,by omega,by omega,?_⟩
  rw[toNat_natCast]
  refine qZ (by omega) (fun i B N sB hN=>⟨zero_le _,fun t ht=>hN t ht⟩) (fun li zZ A9 s9 BR hLi=>?_)
  have g9:=s9 _ _ g8
  have o9:zh [y] H A9:=o8.trans (yW.zE s9)
  have LC:li ≠ y:=Ne.symm (ag g9 BR)
  have LD:la ≠ li:=ag (s9 _ _ HF) BR
  have LF:le ≠ li:=ag (s9 _ _ HG) BR
  have li0:H li=none:=by
   cases e:H li with
   | none=>rfl
   | some u=>rw[o9 _ _ (fun z=>LC (mem_singleton.mp z)) e]at BR;cases BR
  have Jf:=(yW.refl A9).new (o := .lst zZ) BR
  have LG:Paired (zH y [li,le,la] (upd A9 li (.lst zZ)) ys.zw) lvs (zk.map qK):=Paired.mono (fun _ _ z=>(z.same s9).new BR) Ww
  have FK:Paired (Az (upd A9 li (.lst zZ))) zZ (List.replicate n []):=Paired.mono (fun _ _ z=>z.keep (yW.zu Jf)) hLi
  have FL:(upd A9 li (.lst zZ)) li=some (.lst zZ):=ac
  have Wx:zh [y] H (upd A9 li (.lst zZ)):=o9.trans (yW.zE Jf)
  have OJ:=Jf _ _ g9
  have FN:=Jf _ _ (s9 _ _ HF)
  have FO:=Jf _ _ (s9 _ _ HG)
  have FP:=b7 Jf (b7 s9 LB)
  refine⟨_,rfl,y,ys.yZ,dy,_,rfl,OJ,Y.cl,Y.n5,by show 4 < 1000;decide,?_⟩
  generalize upd A9 li (.lst zZ)=HH at LG FK FL Wx OJ FN FO FP ⊢
  have LH:∀ {B:Hp}{o:HO}{C d:Addr}{fs:Fs}{v:V}{qs:List (Int × Int)},B y=some (.ins C d fs)->Az B v qs->Az (upd B y o) v qs:=fun {B o C d fs v qs} hB h=>by
   obtain⟨t,ws,e,h1,h2⟩:=h
   exact⟨t,ws,e,by rw[ae (aZ h1 hB (by intro z;cases z))];exact h1,zl.imp (fun _ _ ⟨t',e',q'⟩=>⟨t',e',by rw[ae (aZ q' hB (by intro z;cases z))];exact q'⟩) h2⟩
  have LJ:Paired (zH y [li,le,la] (upd HH y (.ins ys.yZ dy (aL "lies" (.ref li) [("table", .ref tb),("rooms", .ref ro),("lanes", .ref la),("letters", .ref le)]))) ys.zw) lvs (zk.map qK):=Paired.mono (fun _ _ z=>z.upd) LG
  have FQ:Paired (Az (upd HH y (.ins ys.yZ dy (aL "lies" (.ref li) [("table", .ref tb),("rooms", .ref ro),("lanes", .ref la),("letters", .ref le)])))) zZ (List.replicate n []):=Paired.mono (fun _ _ z=>LH OJ z) FK
  have R6:=Ly (o := .ins ys.yZ dy (aL "lies" (.ref li) [("table", .ref tb),("rooms", .ref ro),("lanes", .ref la),("letters", .ref le)])) Wx
  have R7:(upd HH y (.ins ys.yZ dy (aL "lies" (.ref li) [("table", .ref tb),("rooms", .ref ro),("lanes", .ref la),("letters", .ref le)]))) y=some (.ins ys.yZ dy [("table", .ref tb),("rooms", .ref ro),("lanes", .ref la),("letters", .ref le),("lies", .ref li)]):=ac
  have Ea:(upd HH y (.ins ys.yZ dy (aL "lies" (.ref li) [("table", .ref tb),("rooms", .ref ro),("lanes", .ref la),("letters", .ref le)]))) la=some (.lst lvs):=by rw[ae FI];exact FN
  have Eb:(upd HH y (.ins ys.yZ dy (aL "lies" (.ref li) [("table", .ref tb),("rooms", .ref ro),("lanes", .ref la),("letters", .ref le)]))) le=some (.lst []):=by rw[ae HE];exact FO
  have Ec:(upd HH y (.ins ys.yZ dy (aL "lies" (.ref li) [("table", .ref tb),("rooms", .ref ro),("lanes", .ref la),("letters", .ref le)]))) li=some (.lst zZ):=by rw[ae LC];exact FL
  have FR:=fQ (o := .ins ys.yZ dy (aL "lies" (.ref li) [("table", .ref tb),("rooms", .ref ro),("lanes", .ref la),("letters", .ref le)])) OJ FP
  generalize upd HH y (.ins ys.yZ dy (aL "lies" (.ref li) [("table", .ref tb),("rooms", .ref ro),("lanes", .ref la),("letters", .ref le)]))=A11 at LJ FQ R6 R7 Ea Eb Ec FR ⊢
  refine⟨zero_le _,fun dn B4=>?_⟩
  have OL:dn ≠ y:=Ne.symm (ag R7 B4)
  have LK:la ≠ dn:=ag Ea B4
  have LL:le ≠ dn:=ag Eb B4
  have LM:li ≠ dn:=ag Ec B4
  have dn0:H dn=none:=by
   cases e:H dn with
   | none=>rfl
   | some u=>rw[R6 _ _ (fun z=>OL (mem_singleton.mp z)) e]at B4;cases B4
  have HI:=(yW.refl A11).new (o := .lst []) B4
  have R8:=HI _ _ R7
  refine⟨_,rfl,y,ys.yZ,dy,_,rfl,R8,Y.cl,Y.n6,by show 5 < 1000;decide,?_⟩
  refine q ze ro la le li dn _ (Ly (R6.trans (yW.zE HI))) la0 le0 li0 dn0 ⟨ac,fQ R8 (b7 HI FR),⟨lvs,by rw[ae FI];exact HI _ _ Ea,?_⟩,⟨[],by rw[ae HE];exact HI _ _ Eb, .nil⟩,⟨zZ,by rw[ae LC];exact HI _ _ Ec,Paired.mono (fun _ _ z=>LH R8 (z.keep (yW.zu HI))) FQ⟩,⟨[],by rw[ae OL];exact ac, .nil⟩,?_,(fun b hb=>by cases hb)⟩
  ·refine Paired.mono (fun _ _ z=>((z.new B4).upd).Ls fun a ha=>?_) LJ
   simp only[mem_cons,not_mem_nil,or_false]at ha ⊢
   rcases ha with rfl | rfl | rfl | rfl
   ·exact .inr (.inr (.inr rfl))
   ·exact .inr (.inr (.inl rfl))
   ·exact .inr (.inl rfl)
   ·exact .inl rfl
  ·simp only[nodup_cons,mem_cons,not_mem_nil,or_false,not_or,not_false_eq_true,and_true,nodup_nil]
   exact⟨⟨FJ,LD,LK⟩,⟨LF,LL⟩,LM⟩
theorem zd.off {K:Frag}{ys:Ys}{H H':Hp}{y dy tb ro la le li dn:Addr}{s:YS}(h:zd K ys H y dy tb ro la le li dn s)(o:zh (la :: le :: li :: dn :: ys.ex) H H'):H' y=some (.ins ys.yZ dy (OG tb ro la le li dn))/\zc K H' ro s.rooms/\(∀ vs ss,Paired (Bp H ys.zw (la :: le :: li :: dn :: ys.ex)) vs ss->Paired (Bp H' ys.zw (la :: le :: li :: dn :: ys.ex)) vs ss)/\(∀ vs ss,Paired (BQ H ys.yY (la :: le :: li :: dn :: ys.ex)) vs ss->Paired (BQ H' ys.yY (la :: le :: li :: dn :: ys.ex)) vs ss)/\(∀ vs ss,Paired (Az H) vs ss->Paired (Az H') vs ss)/\∀ vs ss,Paired (Af H) vs ss->Paired (Af H') vs ss:=by
 have hx:=h.Dc
 have k:=o.zu hx
 refine⟨k _ _ h.ins True.intro,?_,fun vs ss=>Paired.mono fun _ _ z=>z.zE hx o,fun vs ss=>Paired.mono fun _ _ z=>z.zE hx o,fun vs ss=>Paired.mono fun _ _ z=>z.keep k,fun vs ss=>Paired.mono fun _ _ z=>z.keep k⟩
 rcases h.Lo with r | r
 ·refine .inl ?_
  rcases r with r | ⟨u,r⟩
  ·exact .inl (k _ _ r True.intro)
  ·exact .inr ⟨u,k _ _ r True.intro⟩
 ·exact .inr r
theorem cj {ex:List Addr}{a:Addr}{H:Hp}{o:HO}(ha:a ∈ ex):zh ex H (upd H a o):=fun b u nb e=>by rw[ae (fun z=>nb (by rw[z];exact ha))];exact e
theorem ld {H:Hp}{x b:Addr}{zs:List V}(h:∃ xs,H b=some (.lst xs)):∃ xs,(upd H x (.lst zs)) b=some (.lst xs):=by
 by_cases e:b=x
 ·exact⟨zs,by rw[e,ac]⟩
 ·obtain⟨xs,hz⟩:=h
  exact⟨xs,by rw[ae e];exact hz⟩
theorem zd.LN {K:Frag}{ys:Ys}{H:Hp}{y dy tb ro la le li dn:Addr}{s:YS}(h:zd K ys H y dy tb ro la le li dn s){vs:List V}{v:V}{t:ci}(hv:H le=some (.lst vs))(hL:BQ H ys.yY (la :: le :: li :: dn :: ys.ex) v t):zd K ys (upd H le (.lst (vs ++ [v]))) y dy tb ro la le li dn { s with U:=s.U ++ [t] }:=by
 obtain⟨h1,h2,f1,f2,f3,f4⟩:=h.off (cj (a:=le) (o := .lst (vs ++ [v])) (by simp))
 obtain⟨v1,a1,p1⟩:=h.Au
 obtain⟨v2,a2,p2⟩:=h.hle
 obtain⟨v3,a3,p3⟩:=h.BR
 obtain⟨v4,a4,p4⟩:=h.B4
 rw[hv]at a2
 cases a2
 have ne:=h.ne
 simp only[nodup_cons,mem_cons,not_mem_nil,or_false,not_or,not_false_eq_true,and_true,nodup_nil]at ne
 have R9:Paired (BQ (upd H le (.lst (vs ++ [v]))) ys.yY (la :: le :: li :: dn :: ys.ex)) [v] [t]:=f2 [v] [t] (.cons hL .nil)
 exact⟨h1,h2,⟨v1,by rw[ae ne.1.1];exact a1,f1 _ _ p1⟩,⟨vs ++ [v],ac,Paired.snoc (by cases R9 with | cons z _=>exact z) (f2 _ _ p2)⟩,⟨v3,by rw[ae (Ne.symm ne.2.1.1)];exact a3,f3 _ _ p3⟩,⟨v4,by rw[ae (Ne.symm ne.2.1.2)];exact a4,f4 _ _ p4⟩,h.ne,fun b hb=>ld (h.hex b hb)⟩
theorem zd.FU {K:Frag}{ys:Ys}{H:Hp}{y dy tb ro la le li dn:Addr}{s:YS}(h:zd K ys H y dy tb ro la le li dn s){vs:List V}{v:V}{t:List V}(hv:H dn=some (.lst vs))(hL:Af H v t):zd K ys (upd H dn (.lst (vs ++ [v]))) y dy tb ro la le li dn { s with done:=s.done ++ [t] }:=by
 obtain⟨h1,h2,f1,f2,f3,f4⟩:=h.off (cj (a:=dn) (o := .lst (vs ++ [v])) (by simp))
 obtain⟨v1,a1,p1⟩:=h.Au
 obtain⟨v2,a2,p2⟩:=h.hle
 obtain⟨v3,a3,p3⟩:=h.BR
 obtain⟨v4,a4,p4⟩:=h.B4
 rw[hv]at a4
 cases a4
 have ne:=h.ne
 simp only[nodup_cons,mem_cons,not_mem_nil,or_false,not_or,not_false_eq_true,and_true,nodup_nil]at ne
 have R9:Paired (Af (upd H dn (.lst (vs ++ [v])))) [v] [t]:=f4 [v] [t] (.cons hL .nil)
 exact⟨h1,h2,⟨v1,by rw[ae ne.1.2.2];exact a1,f1 _ _ p1⟩,⟨v2,by rw[ae ne.2.1.2];exact a2,f2 _ _ p2⟩,⟨v3,by rw[ae ne.2.2];exact a3,f3 _ _ p3⟩,⟨vs ++ [v],ac,Paired.snoc (by cases R9 with | cons z _=>exact z) (f4 _ _ p4)⟩,h.ne,fun b hb=>ld (h.hex b hb)⟩
inductive Pd
 | place | length | word | way | full | good
noncomputable def kP (n:Nat)(wy:Wf)(m:Nat)(sv gv lv wv:V):Pd :=
 if (jJ sv 0 ((n:Int) - 1) && jJ gv 0 ((n:Int) - 1))=false then .place else if jJ lv 1 60=false then .length else if Je wv=false then .word
 else if vI sv=vI gv∨wy (vI sv).toNat (vI gv).toNat none=[] then .way else if 60 <= m then .full else .good
structure Xs where
 place:Addr
 length:Addr
 word:Addr
 way:Addr
 full:Addr
noncomputable def pi (s:YS)(a b l u:Int):YS:={ s with U:=s.U ++ [⟨a,b,l,u,0,[]⟩],done:=s.done ++ [[.str "post", .int a, .int b, .int l, .int u]] }
noncomputable def n0 (K:Frag)(c:Cs)(TC:Addr)(J:TJ)(ys:Ys)(x:Xs):Sp:=fun vs H Q E=>∃ (y dy tb ro la le li dn lx zx lt:Addr)(n:Nat)(zg:List V)(ps:List (Int × Int))(wy:Wf)(s:YS)(sv gv lv wv:V),vs=[.ref y,sv,gv,lv,wv]/\zd K ys H y dy tb ro la le li dn s/\zY c TC J H tb lx zx lt n zg ps wy/\rf sv/\rf gv/\rf lv/\rf wv/\s.U.length <= 900/\s.done.length <= 10000 /\
 (kP n wy s.U.length sv gv lv wv = .place->∀ H',yW H H'->E (.ref x.place) none H') /\
 (kP n wy s.U.length sv gv lv wv = .length->∀ H',yW H H'->E (.ref x.length) none H') /\
 (kP n wy s.U.length sv gv lv wv = .word->∀ H',yW H H'->E (.ref x.word) none H') /\
 (kP n wy s.U.length sv gv lv wv = .way->∀ H' d,yW H H'->H' d=some (.xd [("start",sv),("goal",gv)])->E (.ref x.way) (some d) H') /\
 (kP n wy s.U.length sv gv lv wv = .full->∀ H',yW H H'->E (.ref x.full) none H') /\
 (kP n wy s.U.length sv gv lv wv = .good->∀ H',zh [le,dn] H H'->zd K ys H' y dy tb ro la le li dn (pi s (vI sv) (vI gv) (vI lv) (vI wv))->Q (.int s.U.length) H')
structure Wz (K:Frag)(mg:Str->Option Value)(C f:Addr)(d:FuncData):Prop where
 m:mg "NoWay" = some (.ref C)
 x:b5 K C (some (.ref f))=true
 k:keepIn K (.ref C)=true
 c:gr K C
 n1:findIn K (.ref C) "start" = some none
 n2:findIn K (.ref C) "goal" = some none
 i:isFn K (.ref f)=true
 F:zt K "__init__" "NoWay.__init__" uO f d
 b:Binds K d ["self", "start", "goal"] []
noncomputable abbrev NPo:List Str:=["self", "start", "goal", "length", "word", "last_place"]
noncomputable abbrev LO:List Str:=["self", "start", "goal", "length", "word"]
theorem LP:ao NPo LO (aj gK):=L2.zy
theorem vm {c:Cs}{ys:Ys}{x:Xs}{J:TJ}{TC f OH fw RA fl W0:Addr}{fd OI dw W4 dl W5:FuncData}{t1 t2:Tok}(F:Dy K "post" "Yard.post" gK f fd)(T:eO mg)(L:ku K c)(Y:i5 K ys)(W:Wy K TC OH OI J)(HJ:yX P w K mg base aD 3 OH OI ["self", "place", "goal", "came"] (eC J))
  (mw:mg "is_within" = some (.ref fw)) (kw:keepIn K (.ref fw)=true) (bw:Binds K dw ["value", "least", "most"] []) (Gw:yX P w K mg base aD 2 fw dw ["value", "least", "most"] fR)
  (mwo:mg "is_word" = some (.ref RA)) (kwo:keepIn K (.ref RA)=true) (bwo:Binds K W4 ["word"] []) (RB:yX P w K mg base aD 2 RA W4 ["word"] rC)
  (ml:mg "Letter" = some (.ref ys.yY)) (Ml:Mk K ys.yY fl) (bl:Binds K dl ["self", "start", "goal", "length", "word"] []) (Gl:yX P w K mg base aD 1 fl dl ["self", "start", "goal", "length", "word"] (rO ys.yY))
  (mL:mg "MOST_LENGTH" = some (.int 60 t1)) (mM:mg "MOST_LETTERS" = some (.int 60 t2)) (X1:uD K mg "NoPlace" x.place) (X2:uD K mg "NoLength" x.length) (X3:uD K mg "NoWord" x.word) (X4:Wz K mg x.way W0 W5) (X5:uD K mg "Full" x.full) :
  yX P w K mg base (eR P w) 4 f fd LO (n0 K c TC J ys x):=by
 have Gnw:yX P w K mg base aD 1 W0 W5 ["self", "start", "goal"] (ww K "start" "goal"):=Ln X4.F
 refine F.Ew LP (fun vs H Q E h=>?_) (fun cdv A outer s H vs Q E hr h=>?_)
 ·obtain⟨y,dy,tb,ro,la,le,li,dn,lx,zx,lt,n,zg,ps,wy,s,sv,gv,lv,wv,rfl,_⟩:=h
  rfl
 ·obtain⟨y,dy,tb,ro,la,le,li,dn,lx,zx,lt,n,zg,ps,wy,st,sv,gv,lv,wv,rfl,hY,hT,cs,cg,cl,cw,OM,hd9,e1,e2,e3,e4,e5,q⟩:=h
  have Ay:zi 2 _:=hr.mono (by decide)
  refine⟨_,af (aA (i:=5) LP.nd rfl (Or.inl rfl) (az c5 (al (al (al (pv 0) rfl) rfl) rfl) ah))
   (af (aN (PW.pt (gP (bW (bK (aw Gw Ay rfl mw kw bw .nil aq (aa (pv 1) (aa ah (aa (pv 5) ad)))))) (eE (bW (bK (aw Gw Ay rfl mw kw bw .nil aq (aa (pv 2) (aa ah (aa (pv 5) ad)))))))))
    (ak (b8 rfl X1.x aP (ce X1.x X1.k rfl rfl X1.m (aa aX ad)))) aE)
   (af (aN (bW (bK (aw Gw Ay rfl mw kw bw .nil aq (aa (pv 3) (aa ah (aa (eI (v := .int 60) rfl mL ⟨_,rfl⟩) ad))))))
    (ak (b8 rfl X2.x aP (ce X2.x X2.k rfl rfl X2.m (aa aX ad)))) aE)
   (af (aN (bW (bK (aw RB Ay rfl mwo kwo bwo .nil aq (aa (pv 4) ad))))
    (ak (b8 rfl X3.x aP (ce X3.x X3.k rfl rfl X3.m (aa aX ad)))) aE)
   (af (aN (iI (PW.pt (gP (ax bv (pv 1) (pv 2) (aB _)) (eE (bW (ji (aF (al (pv 0) rfl) W.cl W.m HJ hr W.b .nil aq (aa (pv 1) (aa (pv 2) (aa cp ad)))) (fun _=>rfl)))))))
    (ak (b8 rfl X4.x aP (iH X4.x X4.i X4.k Gnw Ay X4.b rfl X4.m (aa (pv 1) (aa (pv 2) ad))))) aE)
   (af (aN (ax wI (aG ay rfl T.len PySem.boot_len (aa (al (pv 0) rfl) ad)) (eI (v := .int 60) rfl mM ⟨_,rfl⟩) (aB _))
    (ak (b8 rfl X5.x aP (ce X5.x X5.k rfl rfl X5.m (aa aX ad)))) aE)
   (af (aR (cz plainAttrs_list PySem.F.slot_list_append PySem.F.type_list_append bG (al (pv 0) rfl) (aa (dD Ml Gl Ay rfl ml bl .nil aq (aa (pv 1) (aa (pv 2) (aa (pv 3) (aa (pv 4) ad))))) ad)))
   (af (aR (cz plainAttrs_list PySem.F.slot_list_append PySem.F.type_list_append bG (al (pv 0) rfl) (aa (aW (aa aX (aa (pv 1) (aa (pv 2) (aa (pv 3) (aa (pv 4) ad)))))) ad)))
   (ak (au (az c5 (aG ay rfl T.len PySem.boot_len (aa (al (pv 0) rfl) ad)) ah)))))))))),?_⟩
  obtain⟨BD,fst,B5,zF,AG⟩:=hT.i
  unfold kP at e1 e2 e3 e4 e5 q
  refine⟨_,rfl,y,ys.yZ,dy,_,_,rfl,hY.ins,Y.cl,Y.n1,rfl,tb,TC,BD,fst,_,rfl,B5,W.cl,W.nl,zF,lx,c.land,zx,_,_,rfl,hT.l.1,L.cl,L.np,rfl,_,_,rfl,rfl,?_⟩
  refine⟨_,rfl,_,rfl,sv,0,(n:Int) - 1,rfl,cs,_,rfl,?_⟩
  cases h1:jJ sv 0 ((n:Int) - 1) with
  | false =>
   refine aK (aK ⟨by show 1 <= sizeLine;decide,?_⟩)
   exact e1 (by rw[h1,Bool.false_and,if_pos rfl]) H (yW.refl H)
  | true =>
  refine aI ⟨_,rfl,_,rfl,gv,0,(n:Int) - 1,rfl,cg,_,rfl,?_⟩
  cases h2:jJ gv 0 ((n:Int) - 1) with
  | false =>
   refine aK ⟨by show 1 <= sizeLine;decide,?_⟩
   exact e1 (by rw[h1,h2,Bool.and_false,if_pos rfl]) H (yW.refl H)
  | true =>
  rw[h1,h2,Bool.true_and,if_neg (by decide)]at e2 e3 e4 e5 q
  refine aI ⟨_,rfl,lv,1,60,rfl,cl,_,rfl,?_⟩
  cases h3:jJ lv 1 60 with
  | false =>
   refine aK ⟨by show 1 <= sizeLine;decide,?_⟩
   exact e2 (by rw[h3,if_pos rfl]) H (yW.refl H)
  | true =>
  rw[h3,if_neg (by decide)]at e3 e4 e5 q
  refine aI ⟨_,rfl,wv,rfl,cw,_,rfl,?_⟩
  cases h4:Je wv with
  | false =>
   refine aK ⟨by show 1 <= sizeLine;decide,?_⟩
   exact e3 (by rw[h4,if_pos rfl]) H (yW.refl H)
  | true =>
  rw[h4,if_neg (by decide)]at e4 e5 q
  refine aI ?_
  obtain⟨a,rfl⟩:=iL h1
  obtain⟨b,rfl⟩:=iL h2
  obtain⟨l,rfl⟩:=iL h3
  obtain⟨u,rfl⟩:∃ u,wv = .int u:=by
   cases wv<;>first | exact⟨_,rfl⟩ | cases h4
  have ha:0 <= a/\a <= (n:Int) - 1:=of_decide_eq_true h1
  have hb:0 <= b/\b <= (n:Int) - 1:=of_decide_eq_true h2
  obtain⟨a',rfl⟩:∃ a':Nat,a=(a':Int):=⟨a.toNat,by omega⟩
  obtain⟨b',rfl⟩:∃ b':Nat,b=(b':Int):=⟨b.toNat,by omega⟩
  have ev:∀ z:Int,vI (.int z)=z:=fun _=>rfl
  rw[ev,ev,toNat_natCast,toNat_natCast]at e4 e5 q
  refine⟨fun k H1=>yW H H1/\k=decide ((a':Int)=(b':Int)∨wy a' b' none=[]),?_,?_⟩
  ·refine⟨_,rfl,_,rfl,rfl,_,rfl,?_⟩
   rw[bD]
   by_cases FV:(a':Int)=(b':Int)
   ·rw[decide_eq_true FV]
    exact aK ⟨yW.refl H,by rw[decide_eq_true (Or.inl FV)]⟩
   ·rw[decide_eq_false FV]
    refine aI ⟨_,rfl,y,ys.yZ,dy,_,_,rfl,hY.ins,Y.cl,Y.n1,rfl,tb,BD,fst,rfl,B5,AG,_,rfl,_,rfl,tb,n,wy,a',b',none,rfl,hT.j,by omega,by omega,fun D H1 s1 hD gD=>⟨_, .inl ⟨_,zb.of gD,rfl⟩,s1,?_⟩⟩
    cases hw:wy a' b' none with
    | nil=>rw[decide_eq_true (Or.inr rfl)];rfl
    | cons z zs=>rw[decide_eq_false (fun z=>z.elim FV fun z=>by cases z)];rfl
  rintro k H1 ⟨s1,rfl⟩
  have BE:=hY.same s1
  by_cases ET:(a':Int)=(b':Int)∨wy a' b' none=[]
  ·rw[decide_eq_true ET]
   refine aK ⟨_,rfl,_,rfl,by show 2 <= sizeLine;decide,fun e tt he=>⟨e,_,tt,_,_,rfl,ac,X4.c,X4.n1,X4.n2,fun d H2 hd off Ey hd2=>⟨rfl,some d,Ey,?_⟩⟩⟩
   have E2:d ≠ e:=fun z=>by rw[z,ac]at hd;cases hd
   refine e4 (by rw[if_pos ET]) _ d (fun z o ez=>?_) (by rw[dM E2];exact hd2)
   have RC:z ≠ e:=ag (s1 _ _ ez) he
   rw[dM RC]
   exact off z o RC (by rw[ae RC];exact s1 _ _ ez)
  rw[decide_eq_false ET]
  rw[if_neg ET]at e5 q
  refine aI ?_
  obtain⟨D3,Aq,pl⟩:=BE.hle
  have DH:D3.length=st.U.length:=Paired.length pl
  refine⟨_,rfl,y,ys.yZ,dy,_,_,rfl,BE.ins,Y.cl,Y.n4,rfl,le,_,rfl, .inl (zb.of Aq),_,_,rfl,rfl,_,rfl,?_⟩
  by_cases FW:60 <= st.U.length
  ·rw[decide_eq_true (show (60:Int) <= (D3.length:Nat) by omega)]
   refine aK ⟨by show 1 <= sizeLine;decide,?_⟩
   exact e5 (by rw[if_pos FW]) H1 s1
  rw[decide_eq_false (show ¬ (60:Int) <= (D3.length:Nat) by omega)]
  rw[if_neg FW]at q
  refine aI ?_
  refine⟨_,rfl,y,ys.yZ,dy,_,_,rfl,BE.ins,Y.cl,Y.n4,rfl, .inl ⟨rfl,_,zb.of Aq⟩,_,rfl,_,rfl,_,rfl,_,rfl,fun xl Bh nx Lz L4=>⟨xl,Bh,(a':Int),(b':Int),l,u,rfl,ac,fun wa H2 D1 off CY ON=>⟨rfl,?_⟩⟩⟩
  have RD:yW H1 H2:=fun z o ez=>off z o (ag ez nx) (by rw[ae (ag ez nx),ae (ag ez Lz)];exact ez)
  have RE:H1 wa=none:=by
   by_cases z1:wa=xl
   ·rw[z1,ac]at D1;cases D1
   ·by_cases z2:wa=Bh
    ·rw[z2,ae L4,ac]at D1;cases D1
    ·rw[ae z1,ae z2]at D1;exact D1
  have B6:=BE.same RD
  have LQ:=RD _ _ Aq
  have OO:BQ H2 ys.yY (la :: le :: li :: dn :: ys.ex) (.ref xl) ⟨(a':Int),(b':Int),l,u,0,[]⟩:=⟨xl,Bh,wa,rfl,CY,ON,fun z=>by obtain⟨xs,hz⟩:=BE.Dc wa z;rw[RE]at hz;cases hz⟩
  refine⟨le,_,_,rfl,rfl,LQ,by rw[sizeLine_eq];omega,?_⟩
  have BF:=B6.LN LQ OO
  have o3:zh [le,dn] H (upd H2 le (.lst (D3 ++ [.ref xl]))):=(yW.zE (s1.trans RD)).trans (cj (by simp))
  generalize upd H2 le (.lst (D3 ++ [.ref xl]))=H3 at BF o3 ⊢
  obtain⟨zJ,FX,pd⟩:=BF.B4
  have Ht:zJ.length=st.done.length:=Paired.length pd
  refine⟨_,rfl,y,ys.yZ,dy,_,_,rfl,BF.ins,Y.cl,Y.n6,rfl, .inl ⟨rfl,_,zb.of FX⟩,_,rfl,_,rfl,_,rfl,_,rfl,by show 5 <= sizeLine;decide,fun t ht=>?_⟩
  have OP:=(yW.refl H3).new (o := .tup [.str "post", .int (a':Int), .int (b':Int), .int l, .int u]) ht
  have W6:(upd H3 t (.tup [.str "post", .int (a':Int), .int (b':Int), .int l, .int u])) t=some (.tup [.str "post", .int (a':Int), .int (b':Int), .int l, .int u]):=ac
  generalize upd H3 t (.tup [.str "post", .int (a':Int), .int (b':Int), .int l, .int u])=H4 at OP W6 ⊢
  have HK:=BF.same OP
  have LR:=OP _ _ FX
  refine⟨dn,_,_,rfl,rfl,LR,by rw[sizeLine_eq];omega,?_⟩
  have EU:=HK.FU LR ⟨t,rfl,W6⟩
  have o5:zh [le,dn] H (upd H4 dn (.lst (zJ ++ [.ref t]))):=(o3.trans (yW.zE OP)).trans (cj (by simp))
  generalize upd H4 dn (.lst (zJ ++ [.ref t]))=H5 at EU o5 ⊢
  obtain⟨W7,RF,pl5⟩:=EU.hle
  have hl5:W7.length=st.U.length + 1:=by rw[Paired.length pl5,length_append];rfl
  refine⟨_,rfl,y,ys.yZ,dy,_,_,rfl,EU.ins,Y.cl,Y.n4,rfl,le,_,rfl, .inl (zb.of RF),_,_,rfl,rfl,?_⟩
  have er:((W7.length:Nat):Int) - 1=(st.U.length:Int):=by omega
  dsimp only
  rw[er]
  exact q rfl H5 o5 EU
noncomputable def oX (K:Frag)(ys:Ys):Sp:=fun vs H Q _=>∃ (y dy tb ro la le li dn:Addr)(s:YS)(k:Nat)(ln:bV),vs=[.ref y, .int k]/\zd K ys H y dy tb ro la le li dn s/\s.lanes[k]? = some ln/\∀ (t ql:Addr)(zf:List V)(H':Hp),yW H H'->H ql=none->H' t=some (.tup [.int ln.r, .int ln.b,hV ln.h, .ref ql])->H' ql=some (.lst zf)->zl H' zf ln.qs->Q (.ref t) H'
noncomputable def rR (K:Frag)(ys:Ys):Sp:=fun vs H Q _=>∃ (y dy tb ro la le li dn:Addr)(s:YS)(k:Nat)(lt:ci),vs=[.ref y, .int k]/\zd K ys H y dy tb ro la le li dn s/\s.U[k]? = some lt/\∀ (t:Addr)(H':Hp),yW H H'->H' t=some (.tup [.int lt.start, .int lt.goal, .int lt.len, .int lt.word])->Q (.ref t) H'
noncomputable def rD (K:Frag)(ys:Ys):Sp:=fun vs H Q _=>∃ (y dy tb ro la le li dn:Addr)(s:YS)(k:Nat)(lt:ci),vs=[.ref y, .int k]/\zd K ys H y dy tb ro la le li dn s/\s.U[k]? = some lt/\∀ (t:Addr)(H':Hp),yW H H'->H t=none->H' t=some (.lst (nV lt.way))->Q (.ref t) H'
noncomputable def jc (K:Frag)(ys:Ys):Sp:=fun vs H Q _=>∃ (y dy tb ro la le li dn:Addr)(s:YS),vs=[.ref y]/\zd K ys H y dy tb ro la le li dn s/\Q (.int s.U.length) H
noncomputable def rW (K:Frag)(ys:Ys):Sp:=fun vs H Q _=>∃ (y dy tb ro la le li dn:Addr)(s:YS),vs=[.ref y]/\zd K ys H y dy tb ro la le li dn s/\∀ (t:Addr)(vs:List V)(H':Hp),yW H H'->H t=none->H' t=some (.lst vs)->Paired (Af H') vs s.done->Q (.ref t) H'
theorem RG:ao ["self", "lane"] ["self", "lane"] (aj nL):=L2.zy
theorem tK {ys:Ys}{f ft:Addr}{fd dt:FuncData}(F:zt K "lane_told" "Yard.lane_told" nL f fd)(Y:i5 K ys)(mt:b6 K ys.zw "told" ft)(bt:Binds K dt ["self"] [])(Gt:yX P w K mg base aD 1 ft dt ["self"] (wB ys.zw)) :
  yX P w K mg base aD 2 f fd ["self", "lane"] (oX K ys):=by
 refine F.ok RG (fun vs H Q E h=>?_) (fun cdv A outer s H vs Q E hr h=>?_)
 ·obtain⟨y,dy,tb,ro,la,le,li,dn,st,k,ln,rfl,_⟩:=h
  rfl
 ·obtain⟨y,dy,tb,ro,la,le,li,dn,st,k,ln,rfl,hY,hk,q⟩:=h
  refine⟨_,ak (au (b9 (ap aJ (al (pv 0) rfl) (pv 1) (fun _ _=>rfl)) Y.L.cl mt Gt hr bt .nil aq)),?_⟩
  obtain⟨lvs,zU,pl⟩:=hY.Au
  obtain⟨v,hv,x,dx,pa,zf,rfl,hL,_⟩:=Paired.at2 pl hk
  refine⟨_,rfl,y,ys.yZ,dy,_,_,rfl,hY.ins,Y.cl,Y.n3,rfl,_,rfl,la,lvs,(k:Int),_,rfl,rfl,zb.of zU,ai hv,x,dx,_,rfl,hL.ins,rfl,?_⟩
  exact⟨x,dx,pa,ln.r,ln.b,ln.h,zf,ln.qs,rfl,hL,fun t ql H' s' BP gt RH=>q t ql zf H' s' BP gt RH (zl.same s' hL.Am)⟩
theorem LS:ao ["self", "number", "letter"] ["self", "number"] (aj sF):=L2.zy
theorem v8 {ys:Ys}{f:Addr}{fd:FuncData}(F:zt K "letter_told" "Yard.letter_told" sF f fd)(Y:i5 K ys):yX P w K mg base aD 1 f fd ["self", "number"] (rR K ys):=by
 refine F.ok LS (fun vs H Q E h=>?_) (fun cdv A outer s H vs Q E hr h=>?_)
 ·obtain⟨y,dy,tb,ro,la,le,li,dn,st,k,ln,rfl,_⟩:=h
  rfl
 ·obtain⟨y,dy,tb,ro,la,le,li,dn,st,k,lt,rfl,hY,hk,q⟩:=h
  refine⟨_,af (aA (i:=2) LS.nd rfl (Or.inl rfl) (ap aJ (al (pv 0) rfl) (pv 1) (fun _ _=>rfl))) (ak (au (aW (aa (al (pv 2) rfl) (aa (al (pv 2) rfl) (aa (al (pv 2) rfl) (aa (al (pv 2) rfl) ad))))))),?_⟩
  obtain⟨zg,Aq,pl⟩:=hY.hle
  obtain⟨v,hv,x,dx,wa,rfl,hx,_⟩:=Paired.at2 pl hk
  refine⟨_,rfl,y,ys.yZ,dy,_,_,rfl,hY.ins,Y.cl,Y.n4,rfl,_,rfl,le,zg,(k:Int),_,rfl,rfl,zb.of Aq,ai hv,?_⟩
  refine⟨_,rfl,x,ys.yY,dx,_,_,rfl,hx,Y.ct,Y.t1,rfl,_,rfl,x,ys.yY,dx,_,_,rfl,hx,Y.ct,Y.t2,rfl,_,rfl,x,ys.yY,dx,_,_,rfl,hx,Y.ct,Y.t3,rfl,_,rfl,x,ys.yY,dx,_,_,rfl,hx,Y.ct,Y.t4,rfl,by show 4 <= sizeLine;decide,fun t ht=>?_⟩
  exact q t _ ((yW.refl H).new ht) ac
theorem RI:ao ["self", "number"] ["self", "number"] (aj sk):=L2.zy
theorem vh {ys:Ys}{f:Addr}{fd:FuncData}(F:zt K "way_told" "Yard.way_told" sk f fd)(T:eO mg)(Y:i5 K ys):yX P w K mg base aD 1 f fd ["self", "number"] (rD K ys):=by
 refine F.ok RI (fun vs H Q E h=>?_) (fun cdv A outer s H vs Q E hr h=>?_)
 ·obtain⟨y,dy,tb,ro,la,le,li,dn,st,k,ln,rfl,_⟩:=h
  rfl
 ·obtain⟨y,dy,tb,ro,la,le,li,dn,st,k,lt,rfl,hY,hk,q⟩:=h
  refine⟨_,ak (au (bF bA rfl T.list PySem.Pv.boot_list (aa (al (ap aJ (al (pv 0) rfl) (pv 1) (fun _ _=>rfl)) rfl) ad))),?_⟩
  obtain⟨zg,Aq,pl⟩:=hY.hle
  obtain⟨v,hv,x,dx,wa,rfl,hx,hw,_⟩:=Paired.at2 pl hk
  refine⟨_,rfl,y,ys.yZ,dy,_,_,rfl,hY.ins,Y.cl,Y.n4,rfl,_,rfl,le,zg,(k:Int),_,rfl,rfl,zb.of Aq,ai hv,x,ys.yY,dx,_,_,rfl,hx,Y.ct,Y.t6,rfl,wa,_,rfl, .inl (zb.of hw),fun t ht=>?_⟩
  exact q t _ ((yW.refl H).new ht) ht ac
theorem RJ:ao ["self"] ["self"] (aj kG):=L2.zy
theorem qz {ys:Ys}{f:Addr}{fd:FuncData}(F:zt K "posted" "Yard.posted" kG f fd)(T:eO mg)(Y:i5 K ys):yX P w K mg base aD 1 f fd ["self"] (jc K ys):=by
 refine F.ok RJ (fun vs H Q E h=>?_) (fun cdv A outer s H vs Q E hr h=>?_)
 ·obtain⟨y,dy,tb,ro,la,le,li,dn,st,rfl,_⟩:=h
  rfl
 ·obtain⟨y,dy,tb,ro,la,le,li,dn,st,rfl,hY,q⟩:=h
  refine⟨_,ak (au (aG ay rfl T.len PySem.boot_len (aa (al (pv 0) rfl) ad))),?_⟩
  obtain⟨zg,Aq,pl⟩:=hY.hle
  refine⟨_,rfl,y,ys.yZ,dy,_,_,rfl,hY.ins,Y.cl,Y.n4,rfl,le,_,rfl, .inl (zb.of Aq),?_⟩
  rw[Paired.length pl]
  exact q
theorem RK:ao ["self"] ["self"] (aj sJ):=L2.zy
theorem vB {ys:Ys}{f:Addr}{fd:FuncData}(F:zt K "history" "Yard.history" sJ f fd)(T:eO mg)(Y:i5 K ys):yX P w K mg base aD 1 f fd ["self"] (rW K ys):=by
 refine F.ok RK (fun vs H Q E h=>?_) (fun cdv A outer s H vs Q E hr h=>?_)
 ·obtain⟨y,dy,tb,ro,la,le,li,dn,st,rfl,_⟩:=h
  rfl
 ·obtain⟨y,dy,tb,ro,la,le,li,dn,st,rfl,hY,q⟩:=h
  refine⟨_,ak (au (bF bA rfl T.list PySem.Pv.boot_list (aa (al (pv 0) rfl) ad))),?_⟩
  obtain⟨zJ,FX,pd⟩:=hY.B4
  refine⟨_,rfl,y,ys.yZ,dy,_,_,rfl,hY.ins,Y.cl,Y.n6,rfl,dn,_,rfl, .inl (zb.of FX),fun t ht=>?_⟩
  exact q t zJ _ ((yW.refl H).new ht) ht ac (Paired.mono (fun _ _ z=>z.keep (yW.zu ((yW.refl H).new ht))) pd)
theorem oE {K:Frag}{T:Addr}{o:Obj}{n:Nat}{kV doc pm cdv ct:Value}{an:Option Addr}(ho:K.lookup T=some o)(hs:o.data = .seq #[Value.none] n) :
  Binds K (fnOf "__init__" "Yard.__init__" (bL il) (aH il) (aj il) (.ref T) kV doc pm an cdv ct) ["self", "table", "rooms"] []:=fun s us D9 hl=>by
 have hl:us.length=3:=by rw[append_nil]at hl;exact hl
 obtain⟨a,us0,rfl,OQ⟩:=L2.Fz hl
 obtain⟨b,us1,rfl,OR⟩:=L2.Fz OQ
 obtain⟨c,us2,rfl,Et⟩:=L2.Fz OR
 obtain rfl:=List.eq_nil_of_length_eq_zero Et
 exact BindsTo.of_defaults rfl (D9 _ _ ho) hs rfl rfl
theorem mU {K:Frag}{T:Addr}{o:Obj}{n:Nat}{tk:Tok}{kV doc pm cdv ct:Value}{an:Option Addr}(ho:K.lookup T=some o)(hs:o.data = .seq #[Value.int 0 tk] n) :
  Binds K (fnOf "post" "Yard.post" (bL gK) (aH gK) (aj gK) (.ref T) kV doc pm an cdv ct) LO []:=fun s us D9 hl=>by
 have hl:us.length=5:=by rw[append_nil]at hl;exact hl
 obtain⟨a,us0,rfl,OQ⟩:=L2.Fz hl
 obtain⟨b,us1,rfl,OR⟩:=L2.Fz OQ
 obtain⟨c,us2,rfl,Et⟩:=L2.Fz OR
 obtain⟨d,us3,rfl,W8⟩:=L2.Fz Et
 obtain⟨e,us4,rfl,hl4⟩:=L2.Fz W8
 obtain rfl:=List.eq_nil_of_length_eq_zero hl4
 exact BindsTo.of_defaults rfl (D9 _ _ ho) hs rfl rfl
noncomputable def wA (C:Addr):Sp:=fun vs H Q _=>∃ (x dx pa:Addr)(r b:Int)(h:Option Int)(zf:List V)(qs:List (Int × Int)),vs=[.ref x]/\zr H C x dx pa r b h zf qs/\∀ (x' Ds DI:Addr)(H':Hp),yW H H'->H x' = none->H DI = none->zr H' C x' Ds DI r b h zf qs->Q (.ref x') H'
noncomputable def w8 (C:Addr):Sp:=fun vs H Q _=>∃ (x dx wa:Addr)(s:ci),vs=[.ref x]/\H x=some (.ins C dx (oi s wa))/\H wa=some (.lst (nV s.way))/\∀ (x' Ds Dd:Addr)(H':Hp),yW H H'->H x' = none->H Dd = none->H' x' = some (.ins C Ds (oi s Dd))->H' Dd = some (.lst (nV s.way))->Q (.ref x') H'
theorem FY:ao ["self", "other"] ["self"] (aj x8):=L2.zy
theorem yi {C f fl:Addr}{fd dl:FuncData}(F:zt K "twin" "Lane.twin" x8 f fd)(T:eO mg)(L:wn K C)(ml:mg "Lane" = some (.ref C))(Ml:Mk K C fl)(bl:Binds K dl ["self", "room"] [])(Gl:yX P w K mg base aD 1 fl dl ["self", "room"] (rP C)) :
  yX P w K mg base aD 3 f fd ["self"] (wA C):=by
 refine F.ok FY (fun vs H Q E h=>?_) (fun cdv A outer s H vs Q E hr h=>?_)
 ·obtain⟨x,dx,pa,r,b,h,zf,qs,rfl,_⟩:=h
  rfl
 ·obtain⟨x,dx,pa,r,b,h,zf,qs,rfl,hL,q⟩:=h
  refine⟨_,af (aA (i:=1) FY.nd rfl (Or.inl rfl) (dD Ml Gl hr rfl ml bl .nil aq (aa (al (pv 0) rfl) ad)))
   (af (aY (pv 1) (al (pv 0) rfl) rfl)
   (af (aY (pv 1) (al (pv 0) rfl) rfl)
   (af (aY (pv 1) (bF bA rfl T.list PySem.Pv.boot_list (aa (al (pv 0) rfl) ad)) rfl)
   (ak (au (pv 1)))))),?_⟩
  refine⟨_,rfl,x,C,dx,_,_,rfl,hL.ins,L.cl,L.n1,rfl,fun x' d' nx nd ne=>⟨x',d',r,rfl,ac,fun HL H1 EK off HM=>⟨rfl,?_⟩⟩⟩
  have s1:yW H H1:=fun z o ez=>off z o (ag ez nx) (by rw[ae (ag ez nx),ae (ag ez nd)];exact ez)
  have hi1:=HM.ins
  clear EK off HM
  refine⟨_,rfl,x,C,dx,_,_,rfl,s1 _ _ hL.ins,L.cl,L.n2,rfl,_,rfl,x',C,d',_,rfl,hi1,L.cl,L.n2,by show 4 < 1000;decide,?_⟩
  have o2:∀ o',yW H (upd H1 x' o'):=fun o' z o ez=>by rw[ae (ag ez nx)];exact s1 _ _ ez
  refine⟨_,rfl,x,C,dx,_,_,rfl,o2 _ _ _ hL.ins,L.cl,L.n3,rfl,_,rfl,x',C,d',_,rfl,ac,L.cl,L.n3,by show 4 < 1000;decide,?_⟩
  have o3:∀ o' W9,yW H (upd (upd H1 x' o') x' W9):=fun o' W9 z o ez=>by rw[ae (ag ez nx)];exact o2 _ _ _ ez
  have s3:=o3 (.ins C d' (aL "returning" (.int b) (iA r 0 (hV none) HL))) (.ins C d' (aL "holder" (hV h) (aL "returning" (.int b) (iA r 0 (hV none) HL))))
  have HN:(upd (upd H1 x' (.ins C d' (aL "returning" (.int b) (iA r 0 (hV none) HL)))) x' (.ins C d' (aL "holder" (hV h) (aL "returning" (.int b) (iA r 0 (hV none) HL))))) x' = some (.ins C d' (iA r b (hV h) HL)):=ac
  generalize upd (upd H1 x' (.ins C d' (aL "returning" (.int b) (iA r 0 (hV none) HL)))) x' (.ins C d' (aL "holder" (hV h) (aL "returning" (.int b) (iA r 0 (hV none) HL))))=H3 at s3 HN ⊢
  refine⟨_,rfl,x,C,dx,_,_,rfl,s3 _ _ hL.ins,L.cl,L.n4,rfl,pa,_,rfl, .inl (zb.of (s3 _ _ hL.lst)),fun DI HP=>?_⟩
  have Dz:H DI = none:=by
   cases e:H DI with
   | none=>rfl
   | some o=>rw[s3 _ _ e]at HP;cases HP
  have LU:x' ≠ DI:=ag HN HP
  refine⟨_,rfl,x',C,d',_,rfl,by rw[ae LU];exact HN,L.cl,L.n4,by show 4 < 1000;decide,_,rfl,?_⟩
  have s4:∀ o',yW H (upd (upd H3 DI (.lst zf)) x' o'):=fun o' z o ez=>by rw[ae (ag ez nx),ae (ag ez Dz)];exact s3 _ _ ez
  exact q x' d' DI _ (s4 _) nx Dz ⟨ac,by rw[ae (Ne.symm LU)];exact ac,zl.same (s4 _) hL.Am⟩
theorem FZ:ao ["self", "other"] ["self"] (aj sE):=L2.zy
theorem yg {ys:Ys}{f fl:Addr}{fd dl:FuncData}(F:zt K "twin" "Letter.twin" sE f fd)(T:eO mg)(Y:i5 K ys)(ml:mg "Letter" = some (.ref ys.yY))(Ml:Mk K ys.yY fl)(bl:Binds K dl ["self", "start", "goal", "length", "word"] [])(Gl:yX P w K mg base aD 1 fl dl ["self", "start", "goal", "length", "word"] (rO ys.yY)) :
  yX P w K mg base aD 3 f fd ["self"] (w8 ys.yY):=by
 refine F.ok FZ (fun vs H Q E h=>?_) (fun cdv A outer s H vs Q E hr h=>?_)
 ·obtain⟨x,dx,wa,s,rfl,_⟩:=h
  rfl
 ·obtain⟨x,dx,wa,t,rfl,hx,hw,q⟩:=h
  refine⟨_,af (aA (i:=1) FZ.nd rfl (Or.inl rfl) (dD Ml Gl hr rfl ml bl .nil aq (aa (al (pv 0) rfl) (aa (al (pv 0) rfl) (aa (al (pv 0) rfl) (aa (al (pv 0) rfl) ad))))))
   (af (aY (pv 1) (al (pv 0) rfl) rfl)
   (af (aY (pv 1) (bF bA rfl T.list PySem.Pv.boot_list (aa (al (pv 0) rfl) ad)) rfl)
   (ak (au (pv 1))))),?_⟩
  refine⟨_,rfl,x,ys.yY,dx,_,_,rfl,hx,Y.ct,Y.t1,rfl,_,rfl,x,ys.yY,dx,_,_,rfl,hx,Y.ct,Y.t2,rfl,_,rfl,x,ys.yY,dx,_,_,rfl,hx,Y.ct,Y.t3,rfl,_,rfl,x,ys.yY,dx,_,_,rfl,hx,Y.ct,Y.t4,rfl,fun x' d' nx nd ne=>⟨x',d',t.start,t.goal,t.len,t.word,rfl,ac,fun w0 H1 hw0 off AK E3=>⟨rfl,?_⟩⟩⟩
  have s1:yW H H1:=fun z o ez=>off z o (ag ez nx) (by rw[ae (ag ez nx),ae (ag ez nd)];exact ez)
  clear hw0 off E3
  refine⟨_,rfl,x,ys.yY,dx,_,_,rfl,s1 _ _ hx,Y.ct,Y.t5,rfl,_,rfl,x',ys.yY,d',_,rfl,AK,Y.ct,Y.t5,by show 6 < 1000;decide,?_⟩
  have s3:yW H (upd H1 x' (.ins ys.yY d' (aL "gone" (.int t.gone) (oi ⟨t.start,t.goal,t.len,t.word,0,[]⟩ w0)))):=fun z o ez=>by rw[ae (ag ez nx)];exact s1 _ _ ez
  have HN:(upd H1 x' (.ins ys.yY d' (aL "gone" (.int t.gone) (oi ⟨t.start,t.goal,t.len,t.word,0,[]⟩ w0)))) x' = some (.ins ys.yY d' (oi ⟨t.start,t.goal,t.len,t.word,t.gone,[]⟩ w0)):=ac
  show _
  generalize upd H1 x' (.ins ys.yY d' (aL "gone" (.int t.gone) (oi ⟨t.start,t.goal,t.len,t.word,0,[]⟩ w0)))=H3 at s3 HN ⊢
  refine⟨_,rfl,x,ys.yY,dx,_,_,rfl,s3 _ _ hx,Y.ct,Y.t6,rfl,wa,_,rfl, .inl (zb.of (s3 _ _ hw)),fun Dd HQ=>?_⟩
  have D1:H Dd = none:=by
   cases e:H Dd with
   | none=>rfl
   | some o=>rw[s3 _ _ e]at HQ;cases HQ
  have LU:x' ≠ Dd:=ag HN HQ
  refine⟨_,rfl,x',ys.yY,d',_,rfl,by rw[ae LU];exact HN,Y.ct,Y.t6,by show 6 < 1000;decide,_,rfl,?_⟩
  have s4:∀ o',yW H (upd (upd H3 Dd (.lst (nV t.way))) x' o'):=fun o' z o ez=>by rw[ae (ag ez nx),ae (ag ez D1)];exact s3 _ _ ez
  exact q x' d' Dd _ (s4 _) nx D1 ac (by rw[ae (Ne.symm LU)];exact ac)
structure YA where
 y:Addr
 dy:Addr
 tb:Addr
 ro:Addr
 la:Addr
 le:Addr
 li:Addr
 dn:Addr
 lx:Addr
 zx:Addr
 lt:Addr
 n:Nat
 zg:List V
 ps:List (Int × Int)
 wy:Wf
noncomputable abbrev zT (K:Frag)(ys:Ys)(H:Hp)(a:YA)(s:YS):Prop:=zd K ys H a.y a.dy a.tb a.ro a.la a.le a.li a.dn s
noncomputable abbrev uy (c:Cs)(TC:Addr)(J:TJ)(H:Hp)(a:YA):Prop:=zY c TC J H a.tb a.lx a.zx a.lt a.n a.zg a.ps a.wy
noncomputable abbrev YA.four (a:YA):List Addr:=[a.la,a.le,a.li,a.dn]
theorem Paired.set {α β:Type}{R:α->β->Prop}{v:α}{r:β}(h:R v r):∀ {vs:List α}{rs:List β}(i:Nat),Paired R vs rs->Paired R (vs.set i v) (rs.set i r)
 | _,_,_, .nil => .nil
 | _,_,0, .cons _ t => .cons h t
 | _,_,i + 1, .cons x t => .cons x (Paired.set h i t)
theorem zh.mono {ex IQ:List Addr}{H H':Hp}(h:∀ b ∈ ex,b ∈ IQ)(o:zh ex H H'):zh IQ H H':=fun b u nb e=>o b u (fun z=>nb (h b z)) e
theorem c3 {K:Frag}{ys:Ys}{H:Hp}{a:YA}{s:YS}(h:zT K ys H a s){p:Addr}(hp:H p=none):p ∉ a.four:=fun z=>by obtain⟨xs,hz⟩:=h.Cr p z;rw[hp]at hz;cases hz
theorem jM {K:Frag}{ys:Ys}{H:Hp}{a:YA}{s:YS}(h:zT K ys H a s){p:Addr}(hp:H p=none):p ∉ a.la :: a.le :: a.li :: a.dn :: ys.ex:=fun z=>by obtain⟨xs,hz⟩:=zd.Dc h p z;rw[hp]at hz;cases hz
theorem lf {H H2:Hp}{x b:Addr}{zs:List V}(o:zh [x] H H2)(hx:H2 x=some (.lst zs))(h:∃ xs,H b=some (.lst xs)):∃ xs,H2 b=some (.lst xs):=by
 by_cases e:b=x
 ·exact⟨zs,by rw[e];exact hx⟩
 ·obtain⟨xs,hz⟩:=h
  exact⟨xs,o _ _ (by simpa using e) hz⟩
theorem zT.BS {K:Frag}{ys:Ys}{H H2:Hp}{a:YA}{s:YS}(h:zT K ys H a s){vs:List V}(hv:H a.la=some (.lst vs))(o:zh [a.la] H H2){k:Nat}{x dx pa:Addr}(hl:H2 a.la=some (.lst (vs.set k (.ref x)))){ln:bV}{zf:List V}
  (L:zr H2 ys.zw x dx pa ln.r ln.b ln.h zf ln.qs) (np:H pa=none):zT K ys H2 a { s with lanes:=s.lanes.set k ln }:=by
 obtain⟨h1,h2,f1,f2,f3,f4⟩:=zd.off h (o.mono (by simp))
 obtain⟨v1,a1,p1⟩:=h.Au
 obtain⟨v2,a2,p2⟩:=h.hle
 obtain⟨v3,a3,p3⟩:=h.BR
 obtain⟨v4,a4,p4⟩:=h.B4
 rw[hv]at a1
 cases a1
 have ne:=h.ne
 simp only[nodup_cons,mem_cons,not_mem_nil,or_false,not_or,not_false_eq_true,and_true,nodup_nil]at ne
 exact⟨h1,h2,⟨_,hl,Paired.set ⟨x,dx,pa,zf,rfl,L,jM h np⟩ k (f1 _ _ p1)⟩,⟨v2,o _ _ (by simp;exact Ne.symm ne.1.1) a2,f2 _ _ p2⟩,⟨v3,o _ _ (by simp;exact Ne.symm ne.1.2.1) a3,f3 _ _ p3⟩,⟨v4,o _ _ (by simp;exact Ne.symm ne.1.2.2) a4,f4 _ _ p4⟩,h.ne,fun b hb=>lf o hl (h.hex b hb)⟩
theorem zT.Ed {K:Frag}{ys:Ys}{H H2:Hp}{a:YA}{s:YS}(h:zT K ys H a s){vs:List V}(hv:H a.le=some (.lst vs))(o:zh [a.le] H H2){k:Nat}{x dx wa:Addr}(hl:H2 a.le=some (.lst (vs.set k (.ref x)))){t:ci}
  (hx:H2 x=some (.ins ys.yY dx (oi t wa))) (hw:H2 wa=some (.lst (nV t.way))) (np:H wa=none):zT K ys H2 a { s with U:=s.U.set k t }:=by
 obtain⟨h1,h2,f1,f2,f3,f4⟩:=zd.off h (o.mono (by simp))
 obtain⟨v1,a1,p1⟩:=h.Au
 obtain⟨v2,a2,p2⟩:=h.hle
 obtain⟨v3,a3,p3⟩:=h.BR
 obtain⟨v4,a4,p4⟩:=h.B4
 rw[hv]at a2
 cases a2
 have ne:=h.ne
 simp only[nodup_cons,mem_cons,not_mem_nil,or_false,not_or,not_false_eq_true,and_true,nodup_nil]at ne
 exact⟨h1,h2,⟨v1,o _ _ (by simp;exact ne.1.1) a1,f1 _ _ p1⟩,⟨_,hl,Paired.set ⟨x,dx,wa,rfl,hx,hw,jM h np⟩ k (f2 _ _ p2)⟩,⟨v3,o _ _ (by simp;exact Ne.symm ne.2.1.1) a3,f3 _ _ p3⟩,⟨v4,o _ _ (by simp;exact Ne.symm ne.2.1.2) a4,f4 _ _ p4⟩,h.ne,fun b hb=>lf o hl (h.hex b hb)⟩
theorem zT.HR {K:Frag}{ys:Ys}{H H2:Hp}{a:YA}{s:YS}(h:zT K ys H a s){vs:List V}(hv:H a.li=some (.lst vs))(o:zh [a.li] H H2){k:Nat}{v:V}(hl:H2 a.li=some (.lst (vs.set k v))){qs:List (Int × Int)}
  (L:Az H2 v qs):zT K ys H2 a { s with lies:=s.lies.set k qs }:=by
 obtain⟨h1,h2,f1,f2,f3,f4⟩:=zd.off h (o.mono (by simp))
 obtain⟨v1,a1,p1⟩:=h.Au
 obtain⟨v2,a2,p2⟩:=h.hle
 obtain⟨v3,a3,p3⟩:=h.BR
 obtain⟨v4,a4,p4⟩:=h.B4
 rw[hv]at a3
 cases a3
 have ne:=h.ne
 simp only[nodup_cons,mem_cons,not_mem_nil,or_false,not_or,not_false_eq_true,and_true,nodup_nil]at ne
 exact⟨h1,h2,⟨v1,o _ _ (by simp;exact ne.1.2.1) a1,f1 _ _ p1⟩,⟨v2,o _ _ (by simp;exact ne.2.1.1) a2,f2 _ _ p2⟩,⟨_,hl,Paired.set L k (f3 _ _ p3)⟩,⟨v4,o _ _ (by simp;exact Ne.symm ne.2.2) a4,f4 _ _ p4⟩,h.ne,fun b hb=>lf o hl (h.hex b hb)⟩
noncomputable def rL (K:Frag)(ys:Ys):Sp:=fun vs H Q _=>∃ (a:YA)(s:YS)(k:Nat)(ln:bV)(lvs:List V),vs=[.ref a.y, .int k]/\zT K ys H a s/\s.lanes[k]? = some ln/\H a.la=some (.lst lvs) /\
 ∀ (x dx pa:Addr)(zf:List V)(H':Hp),zh [a.la] H H'->H x=none->H pa=none->H' a.la=some (.lst (lvs.set k (.ref x)))->zr H' ys.zw x dx pa ln.r ln.b ln.h zf ln.qs->Q (.ref x) H'
noncomputable def rK (K:Frag)(ys:Ys):Sp:=fun vs H Q _=>∃ (a:YA)(s:YS)(k:Nat)(t:ci)(zg:List V),vs=[.ref a.y, .int k]/\zT K ys H a s/\s.U[k]? = some t/\H a.le=some (.lst zg) /\
 ∀ (x dx wa:Addr)(H':Hp),zh [a.le] H H'->H x=none->H wa=none->H' a.le=some (.lst (zg.set k (.ref x)))->H' x=some (.ins ys.yY dx (oi t wa))->H' wa=some (.lst (nV t.way))->Q (.ref x) H'
noncomputable def wC (K:Frag)(ys:Ys):Sp:=fun vs H Q _=>∃ (a:YA)(s:YS)(v:V)(q:Int × Int)(p:Nat)(qs:List (Int × Int)),vs=[.ref a.y,v, .int p]/\zT K ys H a s/\wo H v q/\s.lies[p]? = some qs/\qs.length <= 100000 /\
 ∀ H',zh [a.li] H H'->zT K ys H' a { s with lies:=s.lies.set p (qs ++ [q]) }->Q .zm H'
noncomputable def oU (K:Frag)(ys:Ys):Sp:=fun vs H Q _=>∃ (a:YA)(s:YS)(p:Nat)(qs:List (Int × Int)),vs=[.ref a.y, .int p]/\zT K ys H a s/\s.lies[p]? = some qs /\
 ∀ (D:Addr)(zf:List V)(H':Hp),yW H H'->H D=none->H' D=some (.lst zf)->zl H' zf qs->Q (.ref D) H'
theorem xo:ao ["self", "lane"] ["self", "lane"] (aj su):=L2.zy
theorem vo {ys:Ys}{f ft:Addr}{fd dt:FuncData}(F:zt K "own_lane" "Yard.own_lane" su f fd)(Y:i5 K ys)(mt:b6 K ys.zw "twin" ft)(bt:Binds K dt ["self"] [])(Gt:yX P w K mg base aD 3 ft dt ["self"] (wA ys.zw)) :
  yX P w K mg base aD 4 f fd ["self", "lane"] (rL K ys):=by
 refine F.ok xo (fun vs H Q E h=>?_) (fun cdv A outer s H vs Q E hr h=>?_)
 ·obtain⟨a,s,k,ln,lvs,rfl,_⟩:=h
  rfl
 ·obtain⟨a,st,k,ln,lvs,rfl,hY,hk,zU,q⟩:=h
  refine⟨_,af (dH (b9 (ap aJ (al (pv 0) rfl) (pv 1) (fun _ _=>rfl)) Y.L.cl mt Gt hr bt .nil aq) (im (al (pv 0) rfl) (pv 1) dS))
   (ak (au (ap aJ (al (pv 0) rfl) (pv 1) (fun _ _=>rfl)))),?_⟩
  obtain⟨LV,LW,pl⟩:=hY.Au
  rw[zU]at LW
  cases LW
  obtain⟨v,hv,x,dx,pa,zf,rfl,hL,_⟩:=Paired.at2 pl hk
  have AO:k < lvs.length:=(List.getElem?_eq_some_iff.mp hv).1
  refine⟨_,rfl,a.y,ys.yZ,a.dy,_,_,rfl,hY.ins,Y.cl,Y.n3,rfl,_,rfl,a.la,lvs,(k:Int),_,rfl,rfl,zb.of zU,ai hv,x,dx,_,rfl,hL.ins,rfl,?_⟩
  refine⟨x,dx,pa,ln.r,ln.b,ln.h,zf,ln.qs,rfl,hL,fun x' Ds DI H1 s1 nx EN HM=>?_⟩
  refine⟨_,rfl,a.y,ys.yZ,a.dy,_,_,rfl,s1 _ _ hY.ins,Y.cl,Y.n3,rfl,_,rfl,a.la,lvs,(k:Int),k,rfl,rfl,s1 _ _ zU,eL AO,?_⟩
  have o1:zh [a.la] H (upd H1 a.la (.lst (lvs.set k (.ref x')))):=(yW.zE s1).trans (cj (by simp))
  have g1:(upd H1 a.la (.lst (lvs.set k (.ref x')))) a.la=some (.lst (lvs.set k (.ref x'))):=ac
  have Bq:zr (upd H1 a.la (.lst (lvs.set k (.ref x')))) ys.zw x' Ds DI ln.r ln.b ln.h zf ln.qs:=by
   have n1:x' ≠ a.la:=aZ HM.ins (s1 _ _ zU) (by intro z;cases z)
   have n2:DI ≠ a.la:=fun z=>by rw[z,zU]at EN;cases EN
   exact⟨by rw[ae n1];exact HM.ins,by rw[ae n2];exact HM.lst,zl.zE (ex:=[a.la]) (fun b hb=>by simp at hb;subst hb;exact⟨_,s1 _ _ zU⟩) (cj (by simp)) HM.Am⟩
  generalize upd H1 a.la (.lst (lvs.set k (.ref x')))=H2 at o1 g1 Bq ⊢
  have RL:H2 a.y=some (.ins ys.yZ a.dy (OG a.tb a.ro a.la a.le a.li a.dn)):=o1 _ _ (by simp;exact aZ hY.ins zU (by intro z;cases z)) hY.ins
  exact⟨_,rfl,a.y,ys.yZ,a.dy,_,_,rfl,RL,Y.cl,Y.n3,rfl,_,rfl,a.la,_,(k:Int), .ref x',rfl,rfl,zb.of g1,ai (by simp[AO]),q x' Ds DI zf H2 o1 nx EN g1 Bq⟩
theorem xn:ao ["self", "number"] ["self", "number"] (aj sr):=L2.zy
theorem vn {ys:Ys}{f ft:Addr}{fd dt:FuncData}(F:zt K "own_letter" "Yard.own_letter" sr f fd)(Y:i5 K ys)(mt:b6 K ys.yY "twin" ft)(bt:Binds K dt ["self"] [])(Gt:yX P w K mg base aD 3 ft dt ["self"] (w8 ys.yY)) :
  yX P w K mg base aD 4 f fd ["self", "number"] (rK K ys):=by
 refine F.ok xn (fun vs H Q E h=>?_) (fun cdv A outer s H vs Q E hr h=>?_)
 ·obtain⟨a,s,k,ln,lvs,rfl,_⟩:=h
  rfl
 ·obtain⟨a,st,k,t,zg,rfl,hY,hk,Aq,q⟩:=h
  refine⟨_,af (dH (b9 (ap aJ (al (pv 0) rfl) (pv 1) (fun _ _=>rfl)) Y.ct mt Gt hr bt .nil aq) (im (al (pv 0) rfl) (pv 1) dS))
   (ak (au (ap aJ (al (pv 0) rfl) (pv 1) (fun _ _=>rfl)))),?_⟩
  obtain⟨D3,LX,pl⟩:=hY.hle
  rw[Aq]at LX
  cases LX
  obtain⟨v,hv,x,dx,wa,rfl,hx,hw,_⟩:=Paired.at2 pl hk
  have AO:k < zg.length:=(List.getElem?_eq_some_iff.mp hv).1
  refine⟨_,rfl,a.y,ys.yZ,a.dy,_,_,rfl,hY.ins,Y.cl,Y.n4,rfl,_,rfl,a.le,zg,(k:Int),_,rfl,rfl,zb.of Aq,ai hv,x,dx,_,rfl,hx,rfl,?_⟩
  refine⟨x,dx,wa,t,rfl,hx,hw,fun x' Ds Dd H1 s1 nx EN AK E3=>?_⟩
  refine⟨_,rfl,a.y,ys.yZ,a.dy,_,_,rfl,s1 _ _ hY.ins,Y.cl,Y.n4,rfl,_,rfl,a.le,zg,(k:Int),k,rfl,rfl,s1 _ _ Aq,eL AO,?_⟩
  have o1:zh [a.le] H (upd H1 a.le (.lst (zg.set k (.ref x')))):=(yW.zE s1).trans (cj (by simp))
  have g1:(upd H1 a.le (.lst (zg.set k (.ref x')))) a.le=some (.lst (zg.set k (.ref x'))):=ac
  have n1:x' ≠ a.le:=aZ AK (s1 _ _ Aq) (by intro z;cases z)
  have n2:Dd ≠ a.le:=fun z=>by rw[z,Aq]at EN;cases EN
  have CY:(upd H1 a.le (.lst (zg.set k (.ref x')))) x' = some (.ins ys.yY Ds (oi t Dd)):=by rw[ae n1];exact AK
  have ON:(upd H1 a.le (.lst (zg.set k (.ref x')))) Dd = some (.lst (nV t.way)):=by rw[ae n2];exact E3
  generalize upd H1 a.le (.lst (zg.set k (.ref x')))=H2 at o1 g1 CY ON ⊢
  have RL:H2 a.y=some (.ins ys.yZ a.dy (OG a.tb a.ro a.la a.le a.li a.dn)):=o1 _ _ (by simp;exact aZ hY.ins Aq (by intro z;cases z)) hY.ins
  exact⟨_,rfl,a.y,ys.yZ,a.dy,_,_,rfl,RL,Y.cl,Y.n4,rfl,_,rfl,a.le,_,(k:Int), .ref x',rfl,rfl,zb.of g1,ai (by simp[AO]),q x' Ds Dd H2 o1 nx EN g1 CY ON⟩
theorem LY:ao ["self", "piece", "place"] ["self", "piece", "place"] (aj xB):=L2.zy
theorem yl {ys:Ys}{f:Addr}{fd:FuncData}(F:zt K "lay" "Yard.lay" xB f fd)(Y:i5 K ys):yX P w K mg base aD 1 f fd ["self", "piece", "place"] (wC K ys):=by
 refine F.ok LY (fun vs H Q E h=>?_) (fun cdv A outer s H vs Q E hr h=>?_)
 ·obtain⟨a,s,v,q,p,qs,rfl,_⟩:=h
  rfl
 ·obtain⟨a,st,v,qp,p,qs,rfl,hY,hv,hp,hlen,q⟩:=h
  refine⟨_,ak (dH (az ve (ap aJ (al (pv 0) rfl) (pv 2) (fun _ _=>rfl)) (aW (aa (pv 1) ad))) (im (al (pv 0) rfl) (pv 2) dS)),?_⟩
  obtain⟨lvs,Gj,pl⟩:=hY.BR
  obtain⟨v0,OS,t0,DF,rfl,Ct,LZ⟩:=Paired.at2 pl hp
  have AO:p < lvs.length:=(List.getElem?_eq_some_iff.mp OS).1
  have OQ:DF.length=qs.length:=Paired.length LZ
  refine⟨_,rfl,a.y,ys.yZ,a.dy,_,_,rfl,hY.ins,Y.cl,Y.n5,rfl,_,rfl,a.li,lvs,(p:Int),_,rfl,rfl,zb.of Gj,ai OS,_,rfl,by show 1 <= sizeLine;decide,fun t ht=>?_⟩
  have s1:=(yW.refl H).new (o := .tup [v]) ht
  have g1:(upd H t (.tup [v])) t=some (.tup [v]):=ac
  generalize upd H t (.tup [v])=H1 at s1 g1 ⊢
  have fin:∀ (z:Addr)(H2:Hp),yW H H2->Az H2 (.ref z) (qs ++ [qp])->Q .zm (upd H2 a.li (.lst (lvs.set p (.ref z)))):=fun z H2 s2 hz=>by
   have o2:zh [a.li] H (upd H2 a.li (.lst (lvs.set p (.ref z)))):=(yW.zE s2).trans (cj (by simp))
   refine q _ o2 (zT.HR hY Gj o2 ac ?_)
   obtain⟨tz,vz,ez,WA,hz2⟩:=hz
   cases ez
   have nz:z ≠ a.li:=aZ WA (s2 _ _ Gj) (by intro y;cases y)
   exact⟨z,vz,rfl,by rw[ae nz];exact WA,zl.zE (ex:=[a.li]) (fun b hb=>by simp at hb;subst hb;exact⟨_,s2 _ _ Gj⟩) (cj (by simp)) hz2⟩
  refine⟨t0,t,DF,[v],rfl,rfl,zc.of (s1 _ _ Ct),zc.of g1,by simp,by rw[sizeLine_eq];simp;omega,fun e0=>?_,fun e0 p2 K6=>?_⟩
  ·subst e0
   cases LZ
   refine⟨_,rfl,a.y,ys.yZ,a.dy,_,_,rfl,s1 _ _ hY.ins,Y.cl,Y.n5,rfl,_,rfl,a.li,lvs,(p:Int),p,rfl,rfl,s1 _ _ Gj,eL AO,?_⟩
   exact fin t H1 s1 ⟨t,[v],rfl,g1, .cons (let ⟨u,e,hu⟩:=hv; ⟨u,e,s1 _ _ hu⟩) .nil⟩
  ·have s2:=s1.new (o := .tup (DF ++ [v])) K6
   have g2:(upd H1 p2 (.tup (DF ++ [v]))) p2=some (.tup (DF ++ [v])):=ac
   generalize upd H1 p2 (.tup (DF ++ [v]))=H2 at s2 g2 ⊢
   refine⟨_,rfl,a.y,ys.yZ,a.dy,_,_,rfl,s2 _ _ hY.ins,Y.cl,Y.n5,rfl,_,rfl,a.li,lvs,(p:Int),p,rfl,rfl,s2 _ _ Gj,eL AO,?_⟩
   exact fin p2 H2 s2 ⟨p2,_,rfl,g2,zl.snoc (let ⟨u,e,hu⟩:=hv; ⟨u,e,s2 _ _ hu⟩) (zl.same s2 LZ)⟩
theorem Mb:ao ["self", "place"] ["self", "place"] (aj nJ):=L2.zy
theorem tH {ys:Ys}{f:Addr}{fd:FuncData}(F:zt K "lying" "Yard.lying" nJ f fd)(T:eO mg)(Y:i5 K ys):yX P w K mg base aD 1 f fd ["self", "place"] (oU K ys):=by
 refine F.ok Mb (fun vs H Q E h=>?_) (fun cdv A outer s H vs Q E hr h=>?_)
 ·obtain⟨a,s,p,qs,rfl,_⟩:=h
  rfl
 ·obtain⟨a,st,p,qs,rfl,hY,hp,q⟩:=h
  refine⟨_,ak (au (bF bA rfl T.list PySem.Pv.boot_list (aa (ap aJ (al (pv 0) rfl) (pv 1) (fun _ _=>rfl)) ad))),?_⟩
  obtain⟨lvs,Gj,pl⟩:=hY.BR
  obtain⟨v0,OS,t0,DF,rfl,Ct,LZ⟩:=Paired.at2 pl hp
  refine⟨_,rfl,a.y,ys.yZ,a.dy,_,_,rfl,hY.ins,Y.cl,Y.n5,rfl,_,rfl,a.li,lvs,(p:Int),_,rfl,rfl,zb.of Gj,ai OS,t0,_,rfl, .inr (zc.of Ct),fun D hD=>?_⟩
  have s1:=(yW.refl H).new (o := .lst DF) hD
  exact q D DF _ s1 hD ac (zl.same s1 LZ)
noncomputable def fK (ln:bV)(m c len:Int):bV:={ ln with r:=ln.r - 1,h:=if decide (c=len - 1)=true then none else some m,qs:=ln.qs ++ [(m,c)] }
noncomputable def dz (s:YS)(m:Nat)(c:Int)(l:Nat)(t:ci)(ln:bV):YS:={ s with U:=if c=0 then s.U.set m { t with way:=t.way ++ [l] } else s.U,lanes:=s.lanes.set l (fK ln m c t.len) }
noncomputable def kA (K:Frag)(ys:Ys):Sp:=fun vs H Q _=>∃ (a:YA)(s:YS)(v:V)(m:Nat)(c:Int)(l:Nat)(t:ci)(ln:bV),vs=[.ref a.y,v, .int l]/\zT K ys H a s/\wo H v ((m:Int),c)/\s.U[m]? = some t/\s.lanes[l]? = some ln/\cu ln.r ln.h m c=true/\t.way.length <= 1000/\ln.qs.length < 100000 /\
 ∀ H',zh [a.la,a.le] H H'->zT K ys H' a (dz s m c l t ln)->Q .zm H'
noncomputable def el (s:YS)(m:Nat)(t:ci):YS:={ s with U:=s.U.set m { t with gone:=t.gone + 1 } }
noncomputable def rX (K:Frag)(ys:Ys):Sp:=fun vs H Q _=>∃ (a:YA)(s:YS)(m l:Nat)(t:ci)(ln:bV),vs=[.ref a.y, .int m, .int l]/\zT K ys H a s/\s.U[m]? = some t/\s.lanes[l]? = some ln/\cu ln.r ln.h m t.gone=true/\t.way.length <= 1000/\ln.qs.length < 100000 /\
 ∀ H',zh [a.la,a.le] H H'->zT K ys H' a (dz (el s m t) m t.gone l { t with gone:=t.gone + 1 } ln)->Q .zm H'
structure Own (P:Program)(w:World)(K:Frag)(mg:Str->Option Value)(base:Heap)(ys:Ys)(nm:Addr)(fl ft fp:Addr)(dl dt dp:FuncData):Prop where
 ml:b6 K ys.yZ "own_lane" fl
 bl:Binds K dl ["self", "lane"] []
 Gl:yX P w K mg base aD 4 fl dl ["self", "lane"] (rL K ys)
 mt:b6 K ys.yZ "own_letter" ft
 bt:Binds K dt ["self", "number"] []
 Gt:yX P w K mg base aD 4 ft dt ["self", "number"] (rK K ys)
 mp:b6 K ys.zw "put" fp
 bp:Binds K dp ["self", "letter", "count", "last"] []
 Gp:yX P w K mg base (eR P w) 2 fp dp ["self", "letter", "count", "last"] (wx ys.zw nm)
noncomputable abbrev WB:List Str:=["self", "piece", "lane", "last"]
noncomputable abbrev NGi:List Str:=["self", "number", "lane", "letter"]
theorem Mc:ao WB ["self", "piece", "lane"] (aj nP):=L2.zy
theorem tM {ys:Ys}{nm f fl ft fp:Addr}{fd dl dt dp:FuncData}(F:zt K "enter" "Yard.enter" nP f fd)(Y:i5 K ys)(O:Own P w K mg base ys nm fl ft fp dl dt dp) :
  yX P w K mg base aD 5 f fd ["self", "piece", "lane"] (kA K ys):=by
 refine F.ok Mc (fun vs H Q E h=>?_) (fun cdv A outer s H vs Q E hr h=>?_)
 ·obtain⟨a,s,v,m,c,l,t,ln,rfl,_⟩:=h
  rfl
 ·obtain⟨a,st,v,m,c,l,t,ln,rfl,hY,⟨pt,rfl,Av⟩,hm,hl,JW,CO,BP,q⟩:=h
  have Ay:zi 2 _:=hr.mono (by decide)
  refine⟨_,af (gQ (aN (ax bv (ap ar (pv 1) ah (fun _ _=>rfl)) ah (aB _))
    (ak (aR (cz plainAttrs_list PySem.F.slot_list_append PySem.F.type_list_append bG (al (aF (pv 0) Y.cl O.mt O.Gt hr O.bt .nil aq (aa (ap ar (pv 1) ah (fun _ _=>rfl)) ad)) rfl) (aa (pv 2) ad)))) aE))
   (af (aA (i:=3) Mc.nd rfl (Or.inl rfl) (c8 bv (ap ar (pv 1) ah (fun _ _=>rfl)) (az c5 (al (ap aJ (al (pv 0) rfl) (ap ar (pv 1) ah (fun _ _=>rfl)) (fun _ _=>rfl)) rfl) ah) (aB _)))
   (ak (aR (aF (aF (pv 0) Y.cl O.ml O.Gl hr O.bl .nil aq (aa (pv 2) ad)) Y.L.cl O.mp O.Gp Ay O.bp .nil io (aa (ap ar (pv 1) ah (fun _ _=>rfl)) (aa (ap ar (pv 1) ah (fun _ _=>rfl)) (aa (pv 3) ad))))))),?_⟩
  refine⟨fun σ' H'=>σ' = start WB [.ref a.y, .ref pt, .int l]/\zh [a.le] H H'/\∃ t1:ci,t1.len=t.len/\zT K ys H' a { st with U:=if c=0 then st.U.set m { t with way:=t.way ++ [l] } else st.U }/\(if c=0 then st.U.set m { t with way:=t.way ++ [l] } else st.U)[m]? = some t1,?_,?_⟩
  ·refine⟨_,rfl,pt,_,1,_,rfl,rfl,zc.of Av,ai (j:=1) rfl,rfl,_,rfl,?_⟩
   rw[bD]
   by_cases hc:c=0
   ·rw[decide_eq_true hc]
    obtain⟨zg,Aq,pl⟩:=hY.hle
    refine aK ⟨_,rfl,a.y,a.dy,_,rfl,hY.ins,rfl,_,rfl,pt,_,0,_,rfl,rfl,zc.of Av,ai (j:=0) rfl,a,st,m,t,zg,rfl,hY,hm,Aq,fun x dx wa H1 o1 nx nw g1 AK E3=>?_⟩
    refine⟨x,ys.yY,dx,_,_,rfl,AK,Y.ct,Y.t6,rfl, .inl ⟨rfl,_,zb.of E3⟩,_,rfl,wa,_,_,rfl,rfl,E3,by rw[cU,sizeLine_eq];omega,?_⟩
    have nxw:x ≠ wa:=aZ AK E3 (by intro z;cases z)
    have nlw:a.le ≠ wa:=ag Aq nw
    have o2:zh [a.le] H (upd H1 wa (.lst (nV t.way ++ [.int l]))):=fun b o nb e=>by rw[ae (ag e nw)];exact o1 b o nb e
    have B6:=zT.Ed hY Aq o2 (k:=m) (x:=x) (dx:=dx) (wa:=wa) (by rw[ae nlw];exact g1) (t:={ t with way:=t.way ++ [l] }) (by rw[ae nxw];exact AK) (by rw[ac,nU];rfl) nw
    have OT:m < st.U.length:=(List.getElem?_eq_some_iff.mp hm).1
    refine⟨rfl,o2,{ t with way:=t.way ++ [l] },rfl,?_,?_⟩
    ·rw[if_pos hc];exact B6
    ·rw[if_pos hc];simp[OT]
   ·rw[decide_eq_false hc]
    refine aI ⟨rfl,yW.zE (yW.refl H),t,rfl,?_,?_⟩
    ·rw[if_neg hc];exact hY
    ·rw[if_neg hc];exact hm
  ·rintro σ' H1 ⟨rfl,o1,t1,hlen,BE,hm1⟩
   have EV:H1 pt=some (.tup [.int m, .int c]):=by
    obtain⟨zg,Aq,_⟩:=hY.hle
    exact o1 _ _ (by simp;exact aZ Av Aq (by intro z;cases z)) Av
   obtain⟨RM,RN,RO⟩:=BE.hle
   obtain⟨v1,hv1,x1,dx1,wa1,rfl,AK,_⟩:=Paired.at2 RO hm1
   refine⟨_,rfl,pt,_,1,_,rfl,rfl,zc.of EV,ai (j:=1) rfl,_,rfl,a.y,ys.yZ,a.dy,_,_,rfl,BE.ins,Y.cl,Y.n4,rfl,_,rfl,pt,_,0,_,rfl,rfl,zc.of EV,ai (j:=0) rfl,a.le,RM,(m:Int),_,rfl,rfl,zb.of RN,ai hv1,x1,ys.yY,dx1,_,_,rfl,AK,Y.ct,Y.t3,rfl,_,_,rfl,rfl,rfl,?_⟩
   obtain⟨lvs,zU,DJ⟩:=BE.Au
   refine⟨_,rfl,a.y,a.dy,_,rfl,BE.ins,rfl,_,rfl,a,_,l,ln,lvs,rfl,BE,hl,zU,fun x dx pa zf H2 o2 nx np g2 Bq=>?_⟩
   have Ee:H2 pt=some (.tup [.int m, .int c]):=o2 _ _ (by simp;exact aZ EV zU (by intro z;cases z)) EV
   have AJ:zf.length=ln.qs.length:=Paired.length Bq.Am
   refine⟨x,dx,_,rfl,Bq.ins,rfl,_,rfl,pt,_,0,_,rfl,rfl,zc.of Ee,ai (j:=0) rfl,_,rfl,pt,_,1,_,rfl,rfl,zc.of Ee,ai (j:=1) rfl,_,rfl,x,dx,pa,ln.r,ln.b,ln.h,zf,ln.qs,(m:Int),c,decide (c=t.len - 1),?_,Bq,by omega,(fun ho=>by rw[JW]at ho;cases ho),fun _ t3 H3 o3 BO=>?_⟩
   ·rw[bD,hlen];rfl
   have nxl:a.la ≠ x:=ag zU nx
   have npl:a.la ≠ pa:=ag zU np
   have o4:zh [a.la] H1 H3:=fun b o nb e=>o3 b o (ag e nx) (ag e np) (o2 b o nb e)
   have BF:=zT.BS BE zU o4 (k:=l) (x:=x) (dx:=dx) (pa:=pa) (o3 _ _ nxl npl g2) (ln:=fK ln m c t.len) BO np
   exact q H3 ((o1.mono (by simp)).trans (o4.mono (by simp))) BF
theorem Md:ao NGi ["self", "number", "lane"] (aj sK):=L2.zy
theorem vC {ys:Ys}{nm f fl ft fp fe:Addr}{fd dl dt dp de:FuncData}(F:zt K "go_in" "Yard.go_in" sK f fd)(Y:i5 K ys)(O:Own P w K mg base ys nm fl ft fp dl dt dp)(me:b6 K ys.yZ "enter" fe)(be:Binds K de ["self", "piece", "lane"] [])(Ge:yX P w K mg base aD 5 fe de ["self", "piece", "lane"] (kA K ys)) :
  yX P w K mg base aD 6 f fd ["self", "number", "lane"] (rX K ys):=by
 refine F.ok Md (fun vs H Q E h=>?_) (fun cdv A outer s H vs Q E hr h=>?_)
 ·obtain⟨a,s,m,l,t,ln,rfl,_⟩:=h
  rfl
 ·obtain⟨a,st,m,l,t,ln,rfl,hY,hm,hl,JW,CO,BP,q⟩:=h
  have Cp:zi 4 _:=hr.mono (by decide)
  refine⟨_,af (aA (i:=3) Md.nd rfl (Or.inl rfl) (aF (pv 0) Y.cl O.mt O.Gt Cp O.bt .nil aq (aa (pv 1) ad)))
   (af (dU (pv 3) ah kZ)
   (ak (aR (aF (pv 0) Y.cl me Ge hr be .nil aq (aa (aW (aa (pv 1) (aa (az c5 (al (pv 3) rfl) ah) ad))) (aa (pv 2) ad)))))),?_⟩
  obtain⟨zg,Aq,pl⟩:=hY.hle
  refine⟨_,rfl,a.y,a.dy,_,rfl,hY.ins,rfl,_,rfl,a,st,m,t,zg,rfl,hY,hm,Aq,fun x dx wa H1 o1 nx nw g1 AK E3=>?_⟩
  refine⟨_,rfl,x,ys.yY,dx,_,_,rfl,AK,Y.ct,Y.t5,rfl,_,_,rfl,rfl,dx,_,AK,by show 6 < 1000;decide,?_⟩
  have nlx:a.le ≠ x:=ag Aq nx
  have EM:wa ≠ x:=aZ E3 AK (by intro z;cases z)
  have o2:zh [a.le] H (upd H1 x (.ins ys.yY dx (aL "gone" (.int (t.gone + 1)) (oi t wa)))):=fun b o nb e=>by rw[ae (ag e nx)];exact o1 b o nb e
  have CY:(upd H1 x (.ins ys.yY dx (aL "gone" (.int (t.gone + 1)) (oi t wa)))) x=some (.ins ys.yY dx (oi { t with gone:=t.gone + 1 } wa)):=ac
  have B6:=zT.Ed hY Aq o2 (k:=m) (x:=x) (dx:=dx) (wa:=wa) (by rw[ae nlx];exact g1) (t:={ t with gone:=t.gone + 1 }) CY (by rw[ae EM];exact E3) nw
  show _
  generalize upd H1 x (.ins ys.yY dx (aL "gone" (.int (t.gone + 1)) (oi t wa)))=H2 at o2 CY B6 ⊢
  refine⟨_,rfl,a.y,a.dy,_,rfl,B6.ins,rfl,_,rfl,_,rfl,x,ys.yY,dx,_,_,rfl,CY,Y.ct,Y.t5,rfl,_,_,rfl,rfl,by show 2 <= sizeLine;decide,fun pt Av=>?_⟩
  have eg:t.gone + 1 - 1=t.gone:=by omega
  have s3:=(yW.refl H2).new (o := .tup [.int m, .int t.gone]) Av
  have g3:(upd H2 pt (.tup [.int m, .int t.gone])) pt=some (.tup [.int m, .int t.gone]):=ac
  dsimp only
  rw[eg]
  generalize upd H2 pt (.tup [.int m, .int t.gone])=H3 at s3 g3 ⊢
  have OT:m < st.U.length:=(List.getElem?_eq_some_iff.mp hm).1
  refine⟨_,rfl,a,el st m t,_,m,t.gone,l,{ t with gone:=t.gone + 1 },ln,rfl,zd.same B6 s3,⟨pt,rfl,g3⟩,by unfold el;simp[OT],hl,JW,CO,BP,fun H' o' HS=>?_⟩
  exact q H' ((o2.mono (by simp)).trans ((yW.zE s3).trans o')) HS
theorem yG (us:List Nat)(i:Nat):fM (nV us) none (some (i:Int))=nV (us.take i):=by
 unfold fM
 have e0:HT.Bi (nV us).length 0 none=0:=rfl
 rw[e0,show HT.Bi (nV us).length (nV us).length (some (i:Int))=min i (nV us).length from HT.AE _ _ i,List.drop_zero,Nat.sub_zero]
 unfold nV
 rw[List.map_take,length_map]
 refine List.ext_getElem? fun j=>?_
 simp only[List.getElem?_take,List.getElem?_map]
 by_cases h1:j < i
 ·by_cases h2:j < us.length
  ·rw[if_pos (by omega),if_pos h1]
  ·rw[if_neg (by omega),if_pos h1,List.getElem?_eq_none (by omega)];rfl
 ·rw[if_neg (by omega),if_neg h1]
theorem wc (us:List Nat)(i:Nat):fM (nV us) (some (i:Int)) (some ((i:Int) + 1))=nV ((us.drop i).take 1):=by
 unfold fM
 rw[show HT.Bi (nV us).length 0 (some (i:Int))=min i (nV us).length from HT.AE _ _ i,show((i:Int) + 1)=((i + 1:Nat):Int) by omega,show HT.Bi (nV us).length (nV us).length (some ((i + 1:Nat):Int))=min (i + 1) (nV us).length from HT.AE _ _ (i + 1),cU]
 by_cases h:i < us.length
 ·rw[min_eq_left (by omega),min_eq_left (by omega),show i + 1 - i=1 by omega]
  unfold nV
  rw[List.map_take,List.map_drop]
 ·rw[min_eq_right (by omega),min_eq_right (by omega),Nat.sub_self,List.take_zero,List.drop_eq_nil_of_le (by omega)];rfl
theorem pE (us:List Nat):nV us=(iz us).map V.int:=(vR us).symm
theorem ua (k:Nat):∀ us:List Nat,(iz us).idxOf (k:Int)=us.idxOf k
 | []=>rfl
 | u :: us=>by
  have ih:=ua k us
  unfold iz at ih ⊢
  rw[map_cons,List.idxOf_cons,List.idxOf_cons,ih]
  by_cases h:u=k
  ·subst h;simp
  ·have h':((u:Int) == (k:Int))=false:=by simp;omega
   have h2:(u == k)=false:=by simp;exact h
   rw[h',h2]
inductive Mv
 | Ag (k l:Nat) | on (k l:Nat) | Br (k:Nat) | back (k:Nat)
noncomputable def eT:Mv->List V
 | .Ag k l=>[.str "in", .int k, .int l]
 | .on k l=>[.str "on", .int k, .int l]
 | .Br k=>[.str "lie", .int k]
 | .back k=>[.str "back", .int k]
noncomputable def fZ (s:YS)(l:Nat)(m c:Int):Bool:=match s.lanes[l]? with
 | some ln=>cu ln.r ln.h m c
 | none=>false
noncomputable def bY (s:YS)(k:Nat):Option (Int × Int):=match s.lanes[k]? with
 | some ln=>ln.qs.head?
 | none=>none
noncomputable def rh (a:YA)(l g:Nat):List Nat:=if (a.ps.getD l (0,0)).2=(g:Int) then [] else a.wy (a.ps.getD l (0,0)).2.toNat g (some l)
noncomputable def dA (a:YA)(s:YS)(k:Nat):List Nat:=match bY s k with
 | none=>[]
 | some q=>match s.U[q.1.toNat]? with
  | none=>[]
  | some t=>if q.2=0 then (rh a k t.goal.toNat).filter fun l=>!decide (l ∈ t.way) else (t.way.drop (t.way.idxOf k + 1)).take 1
noncomputable def dj (a:YA)(t:ci):List Nat:=if t.gone=0 then a.wy t.start.toNat t.goal.toNat none else t.way.take 1
noncomputable def gS (a:YA)(s:YS)(k:Nat):List Mv:=match s.U[k]? with
 | none=>[]
 | some t=>if t.gone=t.len then [] else ((dj a t).filter fun l=>fZ s l k t.gone).map (Mv.Ag k)
noncomputable def ir (a:YA)(s:YS)(k:Nat):List Mv:=match bY s k with
 | none=>[]
 | some q=>((dA a s k).filter fun l=>fZ s l q.1 q.2).map (Mv.on k)
noncomputable def eU (a:YA)(s:YS)(k:Nat):List Mv:=match bY s k with
 | none=>[]
 | some q=>match s.U[q.1.toNat]? with
  | none=>[]
  | some t=>if t.goal=(a.ps.getD k (0,0)).2 then [.Br k] else []
noncomputable def cX (s:YS)(k:Nat):List Mv:=match s.lanes[k]? with
 | some ln=>if 0 < ln.b then [.back k] else []
 | none=>[]
structure wO (a:YA):Prop where
 ends:∀ (l:Nat)(pr:Int × Int),a.ps[l]? = some pr->∃ e:Nat,pr.2=(e:Int)/\e < a.n
 zX:∀ p g k,(a.wy p g k).length <= 400
structure RP (a:YA)(s:YS):Prop where
 lanes:s.lanes.length=a.ps.length
 lies:s.lies.length=a.n
 lets:∀ (m:Nat)(t:ci),s.U[m]? = some t->∃ x y:Nat,t.start=(x:Int)/\t.goal=(y:Int)/\x < a.n/\y < a.n
 An:∀ (m:Nat)(t:ci),s.U[m]? = some t->(∀ l ∈ t.way,l < a.ps.length)/\t.way.length <= 1000
 Am:∀ (k:Nat)(ln:bV),s.lanes[k]? = some ln->∀ q ∈ ln.qs,∃ (m:Nat)(t:ci),q.1=(m:Int)/\s.U[m]? = some t/\k ∈ t.way
 zX:s.U.length <= 60
structure D4 (K:Frag)(c:Cs)(TC:Addr)(J:TJ)(ys:Ys)(H:Hp)(a:YA)(s:YS):Prop where
 Y:zT K ys H a s
 T:uy c TC J H a
 O:wO a
 G:RP a s
theorem D4.same {K:Frag}{c:Cs}{TC fw:Addr}{dw:FuncData}{J:TJ}{ys:Ys}{H H':Hp}{a:YA}{s:YS}(W:Wy K TC fw dw J)(h:D4 K c TC J ys H a s)(e:yW H H'):D4 K c TC J ys H' a s:=⟨zd.same h.Y e,zY.keep W h.T (yW.zu e),h.O,h.G⟩
noncomputable abbrev oQ (K:Frag)(c:Cs)(TC:Addr)(J:TJ)(ys:Ys)(f:YA->YS->Nat->List Mv)(len:YS->Nat):Sp:=fun vs H Q _=>∃ (a:YA)(s:YS)(k:Nat),vs=[.ref a.y, .int k]/\D4 K c TC J ys H a s/\k < len s /\
 ∀ (D:Addr)(zG:List V)(H':Hp),yW H H'->H D=none->H' D=some (.lst zG)->Paired (Af H') zG ((f a s k).map eT)->Q (.ref D) H'
noncomputable def n9 (K:Frag)(c:Cs)(TC:Addr)(J:TJ)(ys:Ys):Sp:=oQ K c TC J ys gS (fun s=>s.U.length)
noncomputable def n8 (K:Frag)(c:Cs)(TC:Addr)(J:TJ)(ys:Ys):Sp:=oQ K c TC J ys ir (fun s=>s.lanes.length)
noncomputable def oR (K:Frag)(c:Cs)(TC:Addr)(J:TJ)(ys:Ys):Sp:=oQ K c TC J ys eU (fun s=>s.lanes.length)
noncomputable def jd (K:Frag)(c:Cs)(TC:Addr)(J:TJ)(ys:Ys):Sp:=oQ K c TC J ys (fun _ s k=>cX s k) (fun s=>s.lanes.length)
noncomputable def jb (K:Frag)(c:Cs)(TC:Addr)(J:TJ)(ys:Ys):Sp:=fun vs H Q _=>∃ (a:YA)(s:YS)(k:Nat),vs=[.ref a.y, .int k]/\D4 K c TC J ys H a s/\k < s.lanes.length /\
 ∀ (D:Addr)(H':Hp),yW H H'->H D=none->H' D=some (.lst (nV (dA a s k)))->Q (.ref D) H'
noncomputable def w6 (c:Cs)(C:Addr)(J:TJ):Sp:=fun vs H Q _=>∃ (a:YA)(l g:Nat),vs=[.ref a.tb, .int l, .int g]/\uy c C J H a/\wO a/\l < a.ps.length/\g < a.n /\
 ∀ (D:Addr)(H':Hp),yW H H'->H D=none->H' D=some (.lst (nV (rh a l g)))->Q (.ref D) H'
theorem lr {K:Frag}{p:Addr}{us:List Nat}{g:TG}{tt:TT}{te:TE}{σ0:St}{H:Hp}{Q:VK}(b:Nat->Bool)(f:Nat->Mv)(hn:us.length < sizeLine)(ha:H p=some (.lst (nV us)))
  (hs:∀ (u:Nat)(H1:Hp)(acc:List V)(N:List V->Hp->Prop),u ∈ us->yW H H1->(b u=true->∀ v H2,yW H1 H2->Af H2 v (eT (f u))->N (acc ++ [v]) H2)->(b u=false->N acc H1) ->
   g (.int u) σ0 H1 fun σ2 H2=>tt σ2 H2 fun b H3=>if b=true then te σ2 H3 fun y H4=>N (acc ++ [y]) H4 else N acc H3)
  (hq:∀ D vs H1,yW H H1->H1 D=none->Paired (Af H1) vs (((us.filter b).map f).map eT)->Q (.ref D) (upd H1 D (.lst vs))):dF (uC K p) g tt te σ0 Q H:=by
 refine bI us.length hn (fun i acc H'=>yW H H'/\Paired (Af H') acc ((((us.take i).filter b).map f).map eT)) ⟨yW.refl _, .nil⟩ (fun i acc H' h=>by
   rw[Paired.length h.2,length_map,length_map]
   have h1:=length_filter_le b (us.take i)
   have h2:=length_take_le i us
   omega) (fun i acc H' hi h=>?_) (fun acc H' h=>?_)
 ·obtain⟨s,hL⟩:=h
  have hu:us[i]? = some us[i]:=List.getElem?_eq_getElem hi
  refine⟨⟨_,_,zb.of (s _ _ ha),kT hu⟩,fun v H2 y=>?_⟩
  obtain⟨rfl,y⟩:=y
  have hv:=y _ (zb.of (s _ _ ha))
  rw[kT hu]at hv
  cases hv
  refine hs us[i] H2 acc (fun zV H4=>yW H H4/\Paired (Af H4) zV ((((us.take (i + 1)).filter b).map f).map eT)) (getElem_mem hi) s (fun hb v H3 s3 hv=>⟨s.trans s3,?_⟩) (fun hb=>⟨s,?_⟩)
  ·rw[take_succ,hu,filter_append]
   have e:(some us[i]).toList.filter b=[us[i]]:=by simp[hb]
   rw[e,map_append,map_append]
   exact Paired.snoc hv (Paired.mono (fun _ _ z=>z.keep (yW.zu s3)) hL)
  ·rw[take_succ,hu,filter_append]
   have e:(some us[i]).toList.filter b=[]:=by simp[hb]
   rw[e,append_nil]
   exact hL
 ·obtain⟨s,hL⟩:=h
  rw[take_length]at hL
  exact⟨⟨_,zb.of (s _ _ ha),by rw[cU];exact le_refl _⟩,fun D hD=>hq D acc H' s hD hL⟩
noncomputable def uS (s:Stmt):Scope:=match s with
 | .Return (some (.ListComp _ _ sc _)) _=>sc
 | _=>{ kind := .function,names:=[],isGenerator:=false,isCoroutine:=false }
noncomputable def y8 (s:Stmt):Scope:=match s with
 | .If _ [s'] _ _=>uS s'
 | _=>{ kind := .function,names:=[],isGenerator:=false,isCoroutine:=false }
noncomputable abbrev WC:List Str:=["self", "number", "letter", "wanted"]
noncomputable abbrev WD:List Str:=["self", "lane", "piece", "letter", "behind"]
noncomputable abbrev WE:List Str:=["self", "lane", "piece", "wanted"]
theorem HU:ao WC ["self", "number"] (aj lJ):=L2.zy
theorem RQ:Ae WC (aj lJ) (uS ((aH lJ).getD 3 (.Pass ⟨0,0,0,0⟩))) ["self", "number", "letter"] [0,1,2]:=L2.Bf
theorem RS:(["lane", "self", "number", "letter"]:List Str).Nodup:=by decide +kernel
theorem vy {c:Cs}{ys:Ys}{J:TJ}{TC f fw fo:Addr}{fd dw BZ:FuncData}(F:zt K "moves_in" "Yard.moves_in" lJ f fd)(Y:i5 K ys)(W:Wy K TC fw dw J)(HJ:yX P w K mg base aD 3 fw dw ["self", "place", "goal", "came"] (eC J))
  (mo:b6 K ys.zw "open_to" fo) (bo:Binds K BZ ["self", "letter", "count"] []) (Go:yX P w K mg base aD 1 fo BZ ["self", "letter", "count"] (k9 ys.zw)) :
  yX P w K mg base aD 4 f fd ["self", "number"] (n9 K c TC J ys):=by
 refine F.ok HU (fun vs H Q E h=>?_) (fun cdv A outer s H vs Q E hr h=>?_)
 ·obtain⟨a,s,k,rfl,_⟩:=h
  rfl
 ·obtain⟨a,st,k,rfl,hI,hk,q⟩:=h
  have zL:zi 1 _:=hr.mono (by decide)
  refine⟨_,af (aA (i:=2) HU.nd rfl (Or.inr rfl) (ap aJ (al (pv 0) rfl) (pv 1) (fun _ _=>rfl)))
   (af (aN (ax bv (al (pv 2) rfl) (al (pv 2) rfl) (aB _)) (ak (au (aV ad))) aE)
   (af (aA (i:=3) HU.nd rfl (Or.inl rfl) (pj (cK (ax bv (al (pv 2) rfl) ah (aB _)) (aF (al (pv 0) rfl) W.cl W.m HJ hr W.b .nil aq (aa (al (pv 2) rfl) (aa (al (pv 2) rfl) (aa cp ad)))) (cn c6 (al (pv 2) rfl) dB (cy ah)))))
   (ak (au (bz (own:=["lane"]) (capN:=["self", "number", "letter"]) (cap:=[0,1,2]) RQ rfl (bO (pv 3)) (fun C s' H' fp=>⟨av (i:=0) RS rfl (Or.inl rfl),cx (bK (aF (ap (show oG _ (sP K) from aJ) (show PE _ _ (rA K (qe 1) "lanes") from al (pv 1) rfl) (pv 0) (fun _ _=>rfl)) Y.L.cl mo Go zL bo .nil aq (aa (pv 2) (aa (show PE _ _ (rA K (qe 3) "gone") from al (pv 3) rfl) ad)))),aW (aa aX (aa (pv 2) (aa (pv 0) ad)))⟩)))))),?_⟩
  have hY:=hI.Y
  obtain⟨zg,Aq,pl⟩:=hY.hle
  obtain⟨t,ht⟩:∃ t,st.U[k]? = some t:=⟨_,List.getElem?_eq_getElem hk⟩
  obtain⟨v,hv,x,dx,wa,rfl,hx,hw,_⟩:=Paired.at2 pl ht
  obtain⟨x0,y0,e1,e2,OU,Jg⟩:=hI.G.lets k t ht
  obtain⟨CO,hw9⟩:=hI.G.An k t ht
  unfold gS at q
  rw[ht]at q
  refine⟨_,rfl,a.y,ys.yZ,a.dy,_,_,rfl,hY.ins,Y.cl,Y.n4,rfl,_,rfl,a.le,zg,(k:Int),_,rfl,rfl,zb.of Aq,ai hv,?_⟩
  refine⟨_,rfl,x,ys.yY,dx,_,_,rfl,hx,Y.ct,Y.t5,rfl,_,rfl,x,ys.yY,dx,_,_,rfl,hx,Y.ct,Y.t3,rfl,rfl,_,rfl,?_⟩
  rw[bD]
  by_cases hg:t.gone=t.len
  ·rw[decide_eq_true hg]
   dsimp only at q
   rw[if_pos hg]at q
   exact aK ⟨zero_le _,fun D hD=>q D [] _ ((yW.refl H).new hD) hD ac .nil⟩
  rw[decide_eq_false hg]
  dsimp only at q
  rw[if_neg hg]at q
  refine aI ⟨fun v H1=>∃ D,v = .ref D/\yW H H1/\H1 D=some (.lst (nV (dj a t))),?_,?_⟩
  ·refine⟨_,rfl,x,ys.yY,dx,_,_,rfl,hx,Y.ct,Y.t5,rfl,rfl,_,rfl,?_⟩
   rw[bD]
   unfold dj
   by_cases h0:t.gone=0
   ·rw[decide_eq_true h0,if_pos h0]
    obtain⟨BD,fst,B5,zF,AG⟩:=hI.T.i
    refine aK ⟨_,rfl,a.y,ys.yZ,a.dy,_,_,rfl,hY.ins,Y.cl,Y.n1,rfl,a.tb,BD,fst,rfl,B5,AG,_,rfl,x,ys.yY,dx,_,_,rfl,hx,Y.ct,Y.t1,rfl,_,rfl,x,ys.yY,dx,_,_,rfl,hx,Y.ct,Y.t2,rfl,?_⟩
    rw[e1,e2,toNat_natCast,toNat_natCast]
    exact⟨a.tb,a.n,a.wy,x0,y0,none,rfl,hI.T.j,OU,Jg,fun D H1 s1 hD gD=>⟨D,rfl,s1,gD⟩⟩
   ·rw[decide_eq_false h0,if_neg h0]
    refine aI ⟨_,rfl,x,ys.yY,dx,_,_,rfl,hx,Y.ct,Y.t6,rfl,_,rfl,wa,_,rfl,zb.of hw,fun D hD=>⟨D,rfl,(yW.refl H).new hD,?_⟩⟩
    rw[ac,show((1:Int))=((1:Nat):Int) from rfl,yG]
  rintro v H1 ⟨D,rfl,s1,gD⟩
  have D5:=hI.same W s1
  have BE:=D5.Y
  have AK:=s1 _ _ hx
  obtain⟨lvs,zU,DJ⟩:=BE.Au
  have hfl:(dj a t).length <= 1000:=by
   unfold dj
   by_cases h0:t.gone=0
   ·rw[if_pos h0];exact le_trans (hI.O.zX _ _ _) (by decide)
   ·rw[if_neg h0];rw[length_take];omega
  have Mf:∀ u ∈ dj a t,u < a.ps.length:=fun u hu=>by
   unfold dj at hu
   by_cases h0:t.gone=0
   ·rw[if_pos h0,e1,e2,toNat_natCast,toNat_natCast]at hu;exact hI.T.ok _ _ _ OU Jg u hu
   ·rw[if_neg h0]at hu;exact CO u (mem_of_mem_take hu)
  refine⟨_,rfl,D,rfl,⟨_,zb.of gD⟩,?_⟩
  refine lr (fun l=>fZ st l k t.gone) (Mv.Ag k) (by rw[sizeLine_eq];omega) gD (fun u H2 acc N hu s2 EW OV=>?_) (fun D2 HV H2 s2 Bk hp=>?_)
  ·have Cu:=D5.same W s2
   obtain⟨EX,HW,HX⟩:=Cu.Y.Au
   have RT:u < st.lanes.length:=by rw[hI.G.lanes];exact Mf u hu
   obtain⟨ln,zB⟩:∃ ln,st.lanes[u]? = some ln:=⟨_,List.getElem?_eq_getElem RT⟩
   obtain⟨vl,EY,xl,Bh,Gu,HY,rfl,hL,_⟩:=Paired.at2 HX zB
   refine⟨_,rfl,a.y,ys.yZ,a.dy,_,_,rfl,Cu.Y.ins,Y.cl,Y.n3,rfl,_,rfl,a.la,EX,(u:Int),_,rfl,rfl,zb.of HW,ai EY,xl,Bh,_,rfl,hL.ins,rfl,_,rfl,_,rfl,x,ys.yY,dx,_,_,rfl,s2 _ _ AK,Y.ct,Y.t5,rfl,xl,Bh,Gu,ln.r,ln.b,ln.h,(k:Int),t.gone,rfl,hL.ins,_,rfl,?_⟩
   have eo:fZ st u k t.gone=cu ln.r ln.h k t.gone:=by unfold fZ;rw[zB]
   cases ho:cu ln.r ln.h k t.gone with
   | false=>exact aI (OV (by rw[eo,ho]))
   | true=>exact aK ⟨_,rfl,_,rfl,by show 3 <= sizeLine;decide,fun z hz=>EW (by rw[eo,ho]) _ _ ((yW.refl H2).new hz) ⟨z,rfl,ac⟩⟩
  ·exact q D2 HV _ ((s1.trans s2).new Bk) (s1.free (s2.free Bk)) ac (Paired.mono (fun _ _ z=>z.keep (yW.zu ((yW.refl H2).new Bk))) hp)
theorem jz {H:Hp}{zf:List V}{qs:List (Int × Int)}(h:zl H zf qs):(qs.head? = none/\oy zf = .zm)∨∃ q pt,qs.head? = some q/\oy zf = .ref pt/\H pt=some (.tup [.int q.1, .int q.2]):=by
 cases h with
 | nil=>exact .inl ⟨rfl,rfl⟩
 | cons x r=>obtain⟨t,rfl,ht⟩:=x;exact .inr ⟨_,t,rfl,rfl,ht⟩
theorem Mg:ao ["table", "lane", "goal", "end"] ["table", "lane", "goal"] (aj Rj):=L2.zy
theorem yd {c:Cs}{J:TJ}{C f fw fe:Addr}{fd dw de:FuncData}(F:zt K "onward" "onward" Rj f fd)(L:ku K c)(W:Wy K C fw dw J)(Gw:yX P w K mg base aD 3 fw dw ["self", "place", "goal", "came"] (eC J))
  (M:u8 K c fe de) (Ge:yX P w K mg base aD 1 fe de ["self", "lane"] (lD c Prod.snd)):yX P w K mg base aD 4 f fd ["table", "lane", "goal"] (w6 c C J):=by
 refine F.ok Mg (fun vs H Q E h=>?_) (fun cdv A outer s H vs Q E hr h=>?_)
 ·obtain⟨a,l,g,rfl,_⟩:=h
  rfl
 ·obtain⟨a,l,g,rfl,hT,hO,hl,hg,q⟩:=h
  have zL:zi 1 _:=hr.mono (by decide)
  refine⟨_,af (aA (i:=3) Mg.nd rfl (Or.inl rfl) (aF (al (pv 0) rfl) L.cl M.m Ge zL M.b .nil aq (aa (pv 1) ad)))
   (ak (au (cK (ax bv (pv 3) (pv 2) (aB _)) (aV ad) (aF (pv 0) W.cl W.m Gw hr W.b .nil aq (aa (pv 3) (aa (pv 2) (aa (pv 1) ad))))))),?_⟩
  obtain⟨dx,fs,hx,hf,hw'⟩:=hT.i
  have he:=List.getElem?_eq_getElem hl
  have D6:a.ps.getD l (0,0)=a.ps[l]:=by rw[getD_eq_getElem?_getD,he];rfl
  unfold rh at q
  rw[D6]at q
  obtain⟨e,ee,HZ⟩:=hO.ends l _ he
  refine⟨_,rfl,a.tb,C,dx,fs,_,rfl,hx,W.cl,W.nl,hf,a.lx,a.zx,_,rfl,hT.l.1,rfl,_,rfl,a.lx,a.zx,a.lt,(a.n:Int),a.zg,a.ps,l,_,rfl,hT.l,he,?_⟩
  rw[ee]at q ⊢
  rw[toNat_natCast]at q
  refine⟨_,rfl,_,rfl,rfl,_,rfl,?_⟩
  rw[bD]
  by_cases h1:(e:Int)=(g:Int)
  ·rw[decide_eq_true h1]
   rw[if_pos h1]at q
   exact aK ⟨zero_le _,fun D hD=>q D _ ((yW.refl H).new hD) hD ac⟩
  ·rw[decide_eq_false h1]
   rw[if_neg h1]at q
   exact aI ⟨_,rfl,a.tb,dx,fs,rfl,hx,hw',_,rfl,_,rfl,_,rfl,a.tb,a.n,a.wy,e,g,some l,rfl,hT.j,HZ,hg,fun D H' s' hD gD=>q D _ s' hD gD⟩
theorem EZ:ao WD ["self", "lane"] (aj gJ):=L2.zy
theorem RU:Ae WD (aj gJ) (y8 ((aH gJ).getD 3 (.Pass ⟨0,0,0,0⟩))) ["letter"] [3]:=L2.Bf
theorem RV:(["way", "letter"]:List Str).Nodup:=by decide +kernel
theorem qx {c:Cs}{ys:Ys}{J:TJ}{TC f fw ff fo:Addr}{fd dw df BZ:FuncData}(F:zt K "wanted" "Yard.wanted" gJ f fd)(Y:i5 K ys)(W:Wy K TC fw dw J)
  (mf:b6 K ys.zw "front" ff) (bf:Binds K df ["self"] []) (Gf:yX P w K mg base aD 1 ff df ["self"] (iE ys.zw))
  (mo:mg "onward" = some (.ref fo)) (ko:keepIn K (.ref fo)=true) (bo:Binds K BZ ["table", "lane", "goal"] []) (Go:yX P w K mg base aD 4 fo BZ ["table", "lane", "goal"] (w6 c TC J)) :
  yX P w K mg base aD 5 f fd ["self", "lane"] (jb K c TC J ys):=by
 refine F.ok EZ (fun vs H Q E h=>?_) (fun cdv A outer s H vs Q E hr h=>?_)
 ·obtain⟨a,s,k,rfl,_⟩:=h
  rfl
 ·obtain⟨a,st,k,rfl,hI,hk,q⟩:=h
  have zL:zi 1 _:=hr.mono (by decide)
  refine⟨_,af (aA (i:=2) EZ.nd rfl (Or.inl rfl) (b9 (ap aJ (al (pv 0) rfl) (pv 1) (fun _ _=>rfl)) Y.L.cl mf Gf zL bf .nil aq))
   (af (aN (ax kS (pv 2) cp (aB _)) (ak (au (aV ad))) aE)
   (af (aA (i:=3) EZ.nd rfl (Or.inr rfl) (ap aJ (al (pv 0) rfl) (ap ar (pv 2) ah (fun _ _=>rfl)) (fun _ _=>rfl)))
   (af (aN (ax bv (ap ar (pv 2) ah (fun _ _=>rfl)) ah (aB _))
    (ak (au (bz (own:=["way"]) (capN:=["letter"]) (cap:=[3]) RU rfl (bO (aw Go hr rfl mo ko bo .nil aq (aa (al (pv 0) rfl) (aa (pv 1) (aa (al (pv 3) rfl) ad))))) (fun C s' H' fp=>⟨av (i:=0) RV rfl (Or.inl rfl),cx (ax (show eP _ (compareOp .NotIn) (Q8 K true) from kR) (pv 0) (show PE _ _ (rA K (qe 1) "way") from al (pv 1) rfl) (by with_unfolding_all rfl)),pv 0⟩)))) aE)
   (af (aA (i:=4) EZ.nd rfl (Or.inl rfl) (az bB (cz plainAttrs_list PySem.F.slot_list_index PySem.F.type_list_index qH (al (pv 3) rfl) (aa (pv 1) ad)) ah))
   (ak (au (cn c6 (al (pv 3) rfl) (cy (pv 4)) (cy (az bB (pv 4) ah))))))))),?_⟩
  have hY:=hI.Y
  obtain⟨lvs,zU,DJ⟩:=hY.Au
  obtain⟨ln,zB⟩:∃ ln,st.lanes[k]? = some ln:=⟨_,List.getElem?_eq_getElem hk⟩
  obtain⟨vl,EY,xl,Bh,Gu,HY,rfl,hL,_⟩:=Paired.at2 DJ zB
  refine⟨_,rfl,a.y,ys.yZ,a.dy,_,_,rfl,hY.ins,Y.cl,Y.n3,rfl,_,rfl,a.la,lvs,(k:Int),_,rfl,rfl,zb.of zU,ai EY,xl,Bh,_,rfl,hL.ins,rfl,xl,Bh,Gu,ln.r,ln.b,ln.h,HY,ln.qs,rfl,hL,?_⟩
  unfold dA bY at q
  rw[zB]at q
  dsimp only at q
  rcases jz hL.Am with ⟨hf,ef⟩ | ⟨pq,pt,hf,ef,Av⟩
  ·rw[hf]at q
   rw[ef]
   exact⟨_,rfl,rfl,_,rfl,aK ⟨zero_le _,fun D hD=>q D _ ((yW.refl H).new hD) hD ac⟩⟩
  rw[hf]at q
  rw[ef]
  have hqm:pq ∈ ln.qs:=mem_of_head? hf
  obtain⟨m,t,em,hm,Ib⟩:=hI.G.Am k ln zB pq hqm
  obtain⟨x0,y0,e1,e2,OU,Jg⟩:=hI.G.lets m t hm
  obtain⟨CO,hw9⟩:=hI.G.An m t hm
  rw[em]at Av
  dsimp only at q
  rw[em,toNat_natCast,hm]at q
  dsimp only at q
  refine⟨_,rfl,rfl,_,rfl,aI ?_⟩
  obtain⟨zg,Aq,pl⟩:=hY.hle
  obtain⟨v,hv,x,dx,wa,rfl,hx,hw,_⟩:=Paired.at2 pl hm
  refine⟨_,rfl,a.y,ys.yZ,a.dy,_,_,rfl,hY.ins,Y.cl,Y.n4,rfl,_,rfl,pt,_,0,_,rfl,rfl,zc.of Av,ai (j:=0) rfl,a.le,zg,(m:Int),_,rfl,rfl,zb.of Aq,ai hv,?_⟩
  refine⟨_,rfl,pt,_,1,_,rfl,rfl,zc.of Av,ai (j:=1) rfl,rfl,_,rfl,?_⟩
  rw[bD]
  by_cases h0:pq.2=0
  ·rw[decide_eq_true h0]
   rw[if_pos h0,e2,toNat_natCast]at q
   refine aK ⟨_,rfl,a.y,ys.yZ,a.dy,_,_,rfl,hY.ins,Y.cl,Y.n1,rfl,_,rfl,_,rfl,x,ys.yY,dx,_,_,rfl,hx,Y.ct,Y.t2,rfl,?_⟩
   rw[e2]
   refine⟨a,k,y0,rfl,hI.T,hI.O,by rw[← hI.G.lanes];exact hk,Jg,fun D H1 s1 hD gD=>⟨D,rfl,⟨_,zb.of gD⟩,?_⟩⟩
   have Hs:(rh a k y0).length <= 400:=by
    unfold rh
    by_cases z:(a.ps.getD k (0,0)).2=(y0:Int)
    ·rw[if_pos z];exact zero_le _
    ·rw[if_neg z];exact hI.O.zX _ _ _
   refine fN (fun v=>match v with | .int i=>!decide (i ∈ iz t.way) | _=>false) (fun v=>v) (by rw[cU,sizeLine_eq];omega) (zb.of gD) (fun y acc N hy h=>?_) (fun D2 Bk=>?_)
   ·obtain⟨u,hu,rfl⟩:=tR hy
    refine⟨_,rfl,_,rfl,x,ys.yY,dx,_,_,rfl,s1 _ _ hx,Y.ct,Y.t6,rfl,wa,_,rfl, .inl (zb.of (s1 _ _ hw)),rfl,by rw[pE];exact i0 _,_,rfl,?_⟩
    rw[pE,lb]
    have h:N (if (!decide ((u:Int) ∈ iz t.way))=true then acc ++ [V.int u] else acc) H1:=h
    cases hb:decide ((u:Int) ∈ iz t.way) with
    | true =>
     rw[hb]at h
     exact aI h
    | false =>
     rw[hb]at h
     exact aK ⟨_,rfl,h⟩
   ·have e:((nV (rh a k y0)).filter (fun v=>match v with | .int i=>!decide (i ∈ iz t.way) | _=>false)).map (fun v=>v)=nV ((rh a k y0).filter fun l=>!decide (l ∈ t.way)):=by
     rw[List.map_id']
     unfold nV
     rw[List.filter_map]
     congr 1
     refine filter_congr fun u _=>?_
     show(!decide ((u:Int) ∈ iz t.way))=_
     rw[oq]
    rw[e]
    exact q D2 _ (s1.new Bk) (s1.free Bk) ac
  ·rw[decide_eq_false h0]
   rw[if_neg h0]at q
   refine aI ⟨_,rfl,x,ys.yY,dx,_,_,rfl,hx,Y.ct,Y.t6,rfl, .inl ⟨rfl,_,zb.of hw⟩,_,rfl,wa,iz t.way,(k:Int),rfl,rfl,by rw[← pE];exact hw,Al.mpr ⟨k,Ib,rfl⟩,by unfold iz;rw[length_map];omega,_,_,rfl,rfl,?_⟩
   rw[ua]
   refine⟨_,rfl,x,ys.yY,dx,_,_,rfl,hx,Y.ct,Y.t6,rfl,_,rfl,_,rfl,_,rfl,_,_,rfl,rfl,_,rfl,wa,_,rfl,zb.of hw,fun D hD=>?_⟩
   have e:fM (nV t.way) (some (((t.way.idxOf k:Nat):Int) + 1)) (some (((t.way.idxOf k:Nat):Int) + 1 + 1))=nV ((t.way.drop (t.way.idxOf k + 1)).take 1):=by
    have:=wc t.way (t.way.idxOf k + 1)
    rw[← this]
    rfl
   dsimp only
   rw[e]
   exact q D _ ((yW.refl H).new hD) hD ac
theorem Ic:ao WE ["self", "lane"] (aj lI):=L2.zy
theorem RW:Ae WE (aj lI) (uS ((aH lI).getD 2 (.Pass ⟨0,0,0,0⟩))) ["self", "lane", "piece"] [0,1,2]:=L2.Bf
theorem RX:(["other", "self", "lane", "piece"]:List Str).Nodup:=by decide +kernel
theorem vw {c:Cs}{ys:Ys}{J:TJ}{TC f fw ff fa fo:Addr}{fd dw df da BZ:FuncData}(F:zt K "moves_on" "Yard.moves_on" lI f fd)(Y:i5 K ys)(W:Wy K TC fw dw J)
  (mf:b6 K ys.zw "front" ff) (bf:Binds K df ["self"] []) (Gf:yX P w K mg base aD 1 ff df ["self"] (iE ys.zw))
  (ma:b6 K ys.yZ "wanted" fa) (ba:Binds K da ["self", "lane"] []) (Ga:yX P w K mg base aD 5 fa da ["self", "lane"] (jb K c TC J ys))
  (mo:b6 K ys.zw "open_to" fo) (bo:Binds K BZ ["self", "letter", "count"] []) (Go:yX P w K mg base aD 1 fo BZ ["self", "letter", "count"] (k9 ys.zw)) :
  yX P w K mg base aD 6 f fd ["self", "lane"] (n8 K c TC J ys):=by
 refine F.ok Ic (fun vs H Q E h=>?_) (fun cdv A outer s H vs Q E hr h=>?_)
 ·obtain⟨a,s,k,rfl,_⟩:=h
  rfl
 ·obtain⟨a,st,k,rfl,hI,hk,q⟩:=h
  have zL:zi 1 _:=hr.mono (by decide)
  refine⟨_,af (aA (i:=2) Ic.nd rfl (Or.inr rfl) (b9 (ap aJ (al (pv 0) rfl) (pv 1) (fun _ _=>rfl)) Y.L.cl mf Gf zL bf .nil aq))
   (af (aA (i:=3) Ic.nd rfl (Or.inl rfl) (aF (pv 0) Y.cl ma Ga hr ba .nil aq (aa (pv 1) ad)))
   (ak (au (bz (own:=["other"]) (capN:=["self", "lane", "piece"]) (cap:=[0,1,2]) RW rfl (bO (pv 3)) (fun C s' H' fp=>⟨av (i:=0) RX rfl (Or.inl rfl),cx (bK (aF (ap (show oG _ (sP K) from aJ) (show PE _ _ (rA K (qe 1) "lanes") from al (pv 1) rfl) (pv 0) (fun _ _=>rfl)) Y.L.cl mo Go zL bo .nil aq (aa (ap (show oG _ (kM K) from ar) (pv 3) ah (fun _ _=>rfl)) (aa (ap (show oG _ (kM K) from ar) (pv 3) ah (fun _ _=>rfl)) ad)))),aW (aa aX (aa (pv 2) (aa (pv 0) ad)))⟩))))),?_⟩
  have hY:=hI.Y
  obtain⟨lvs,zU,DJ⟩:=hY.Au
  obtain⟨ln,zB⟩:∃ ln,st.lanes[k]? = some ln:=⟨_,List.getElem?_eq_getElem hk⟩
  obtain⟨vl,EY,xl,Bh,Gu,HY,rfl,hL,_⟩:=Paired.at2 DJ zB
  refine⟨_,rfl,a.y,ys.yZ,a.dy,_,_,rfl,hY.ins,Y.cl,Y.n3,rfl,_,rfl,a.la,lvs,(k:Int),_,rfl,rfl,zb.of zU,ai EY,xl,Bh,_,rfl,hL.ins,rfl,xl,Bh,Gu,ln.r,ln.b,ln.h,HY,ln.qs,rfl,hL,?_⟩
  refine⟨_,rfl,a.y,a.dy,_,rfl,hY.ins,rfl,_,rfl,a,st,k,rfl,hI,hk,fun D H1 s1 hD gD=>?_⟩
  refine⟨_,rfl,D,rfl,⟨_,zb.of gD⟩,?_⟩
  have D5:=hI.same W s1
  have eF:bY st k=ln.qs.head?:=by unfold bY;rw[zB]
  have Mf:∀ u ∈ dA a st k,u < a.ps.length:=fun u hu=>by
   unfold dA at hu
   rw[eF]at hu
   cases hq:ln.qs.head? with
   | none=>rw[hq]at hu;cases hu
   | some pq =>
    rw[hq]at hu
    obtain⟨m,t,em,hm,Ib⟩:=hI.G.Am k ln zB pq (mem_of_head? hq)
    obtain⟨x0,y0,e1,e2,OU,Jg⟩:=hI.G.lets m t hm
    dsimp only at hu
    rw[em,toNat_natCast,hm]at hu
    dsimp only at hu
    by_cases h0:pq.2=0
    ·rw[if_pos h0,e2,toNat_natCast]at hu
     have hu:=(mem_filter.mp hu).1
     unfold rh at hu
     by_cases z:(a.ps.getD k (0,0)).2=(y0:Int)
     ·rw[if_pos z]at hu;cases hu
     ·rw[if_neg z]at hu
      have E4:k < a.ps.length:=by rw[← hI.G.lanes];exact hk
      obtain⟨e,ee,HZ⟩:=hI.O.ends k _ (List.getElem?_eq_getElem E4)
      have D6:a.ps.getD k (0,0)=a.ps[k]:=by rw[getD_eq_getElem?_getD,List.getElem?_eq_getElem E4];rfl
      rw[D6,ee,toNat_natCast]at hu
      exact hI.T.ok _ _ _ HZ Jg u hu
    ·rw[if_neg h0]at hu
     exact(hI.G.An m t hm).1 u (List.mem_of_mem_drop (mem_of_mem_take hu))
  have CO:(dA a st k).length <= 1000:=by
   unfold dA
   cases bY st k with
   | none=>exact zero_le _
   | some pq =>
    dsimp only
    cases st.U[pq.1.toNat]? with
    | none=>exact zero_le _
    | some t =>
     dsimp only
     by_cases h0:pq.2=0
     ·rw[if_pos h0]
      refine le_trans (length_filter_le _ _) ?_
      unfold rh
      by_cases z:(a.ps.getD k (0,0)).2=((t.goal.toNat:Nat):Int)
      ·rw[if_pos z];exact zero_le _
      ·rw[if_neg z];exact le_trans (hI.O.zX _ _ _) (by decide)
     ·rw[if_neg h0,length_take];omega
  unfold ir at q
  rw[eF]at q
  rcases jz hL.Am with ⟨hf,ef⟩ | ⟨pq,pt,hf,ef,Av⟩
  ·have e0:dA a st k=[]:=by unfold dA;rw[eF,hf]
   rw[hf]at q
   rw[e0]at gD
   refine lr (fun l=>false) (Mv.on k) (by rw[sizeLine_eq];decide) gD (fun u H2 acc N hu s2 EW OV=>by cases hu) (fun D2 HV H2 s2 Bk hp=>?_)
   exact q D2 HV _ ((s1.trans s2).new Bk) (s1.free (s2.free Bk)) ac (Paired.mono (fun _ _ z=>z.keep (yW.zu ((yW.refl H2).new Bk))) hp)
  rw[hf]at q
  dsimp only at q
  rw[ef]
  refine lr (fun l=>fZ st l pq.1 pq.2) (Mv.on k) (by rw[sizeLine_eq];omega) gD (fun u H2 acc N hu s2 EW OV=>?_) (fun D2 HV H2 s2 Bk hp=>?_)
  ·have Cu:=D5.same W s2
   obtain⟨EX,HW,HX⟩:=Cu.Y.Au
   have RT:u < st.lanes.length:=by rw[hI.G.lanes];exact Mf u hu
   obtain⟨Ar,Bs⟩:∃ ln,st.lanes[u]? = some ln:=⟨_,List.getElem?_eq_getElem RT⟩
   obtain⟨vu,hvu,xu,WH,pau,pvu,rfl,WI,_⟩:=Paired.at2 HX Bs
   have Ee:=s2 _ _ (s1 _ _ Av)
   refine⟨_,rfl,a.y,ys.yZ,a.dy,_,_,rfl,Cu.Y.ins,Y.cl,Y.n3,rfl,_,rfl,a.la,EX,(u:Int),_,rfl,rfl,zb.of HW,ai hvu,xu,WH,_,rfl,WI.ins,rfl,_,rfl,pt,_,0,_,rfl,rfl,zc.of Ee,ai (j:=0) rfl,_,rfl,pt,_,1,_,rfl,rfl,zc.of Ee,ai (j:=1) rfl,xu,WH,pau,Ar.r,Ar.b,Ar.h,pq.1,pq.2,rfl,WI.ins,_,rfl,?_⟩
   have eo:fZ st u pq.1 pq.2=cu Ar.r Ar.h pq.1 pq.2:=by unfold fZ;rw[Bs]
   cases ho:cu Ar.r Ar.h pq.1 pq.2 with
   | false=>exact aI (OV (by rw[eo,ho]))
   | true=>exact aK ⟨_,rfl,_,rfl,by show 3 <= sizeLine;decide,fun z hz=>EW (by rw[eo,ho]) _ _ ((yW.refl H2).new hz) ⟨z,rfl,ac⟩⟩
  ·exact q D2 HV _ ((s1.trans s2).new Bk) (s1.free (s2.free Bk)) ac (Paired.mono (fun _ _ z=>z.keep (yW.zu ((yW.refl H2).new Bk))) hp)
theorem Mj:ao ["self", "lane", "piece"] ["self", "lane"] (aj nH):=L2.zy
theorem tF {c:Cs}{ys:Ys}{J:TJ}{TC f fw ff fe:Addr}{fd dw df de:FuncData}(F:zt K "moves_lie" "Yard.moves_lie" nH f fd)(Y:i5 K ys)(L:ku K c)(W:Wy K TC fw dw J)
  (mf:b6 K ys.zw "front" ff) (bf:Binds K df ["self"] []) (Gf:yX P w K mg base aD 1 ff df ["self"] (iE ys.zw)) (M:u8 K c fe de) (Ge:yX P w K mg base aD 1 fe de ["self", "lane"] (lD c Prod.snd)) :
  yX P w K mg base aD 2 f fd ["self", "lane"] (oR K c TC J ys):=by
 refine F.ok Mj (fun vs H Q E h=>?_) (fun cdv A outer s H vs Q E hr h=>?_)
 ·obtain⟨a,s,k,rfl,_⟩:=h
  rfl
 ·obtain⟨a,st,k,rfl,hI,hk,q⟩:=h
  refine⟨_,af (aA (i:=2) Mj.nd rfl (Or.inl rfl) (b9 (ap aJ (al (pv 0) rfl) (pv 1) (fun _ _=>rfl)) Y.L.cl mf Gf hr bf .nil aq))
   (af (aN (PW.pt (gP (ax kS (pv 2) cp (aB _)) (eE (ax lV (al (ap aJ (al (pv 0) rfl) (ap ar (pv 2) ah (fun _ _=>rfl)) (fun _ _=>rfl)) rfl) (aF (al (al (pv 0) rfl) rfl) L.cl M.m Ge hr M.b .nil aq (aa (pv 1) ad)) (aB _))))) (ak (au (aV ad))) aE)
   (ak (au (aV (aa (aW (aa aX (aa (pv 1) ad))) ad))))),?_⟩
  have hY:=hI.Y
  obtain⟨lvs,zU,DJ⟩:=hY.Au
  obtain⟨ln,zB⟩:∃ ln,st.lanes[k]? = some ln:=⟨_,List.getElem?_eq_getElem hk⟩
  obtain⟨vl,EY,xl,Bh,Gu,HY,rfl,hL,_⟩:=Paired.at2 DJ zB
  refine⟨_,rfl,a.y,ys.yZ,a.dy,_,_,rfl,hY.ins,Y.cl,Y.n3,rfl,_,rfl,a.la,lvs,(k:Int),_,rfl,rfl,zb.of zU,ai EY,xl,Bh,_,rfl,hL.ins,rfl,xl,Bh,Gu,ln.r,ln.b,ln.h,HY,ln.qs,rfl,hL,?_⟩
  have eF:bY st k=ln.qs.head?:=by unfold bY;rw[zB]
  unfold eU at q
  rw[eF]at q
  rcases jz hL.Am with ⟨hf,ef⟩ | ⟨pq,pt,hf,ef,Av⟩
  ·rw[hf]at q
   rw[ef]
   exact⟨_,rfl,rfl,_,rfl,aK (aK ⟨zero_le _,fun D hD=>q D [] _ ((yW.refl H).new hD) hD ac .nil⟩)⟩
  rw[hf]at q
  rw[ef]
  obtain⟨m,t,em,hm,Ib⟩:=hI.G.Am k ln zB pq (mem_of_head? hf)
  rw[em]at Av
  dsimp only at q
  rw[em,toNat_natCast,hm]at q
  dsimp only at q
  obtain⟨zg,Aq,pl⟩:=hY.hle
  obtain⟨v,hv,x,dx,wa,rfl,hx,hw,_⟩:=Paired.at2 pl hm
  obtain⟨BD,fst,B5,zF,AG⟩:=hI.T.i
  have E4:k < a.ps.length:=by rw[← hI.G.lanes];exact hk
  have he:=List.getElem?_eq_getElem E4
  have D6:a.ps.getD k (0,0)=a.ps[k]:=by rw[getD_eq_getElem?_getD,he];rfl
  rw[D6]at q
  refine⟨_,rfl,rfl,_,rfl,aI ⟨_,rfl,a.y,ys.yZ,a.dy,_,_,rfl,hY.ins,Y.cl,Y.n4,rfl,_,rfl,pt,_,0,_,rfl,rfl,zc.of Av,ai (j:=0) rfl,a.le,zg,(m:Int),_,rfl,rfl,zb.of Aq,ai hv,x,ys.yY,dx,_,_,rfl,hx,Y.ct,Y.t2,rfl,_,rfl,a.y,ys.yZ,a.dy,_,_,rfl,hY.ins,Y.cl,Y.n1,rfl,a.tb,TC,BD,fst,_,rfl,B5,W.cl,W.nl,zF,a.lx,a.zx,_,rfl,hI.T.l.1,rfl,_,rfl,a.lx,a.zx,a.lt,(a.n:Int),a.zg,a.ps,k,_,rfl,hI.T.l,he,rfl,_,rfl,?_⟩⟩
  rw[bD]
  by_cases hg:t.goal=a.ps[k].2
  ·rw[decide_eq_true hg]
   rw[if_pos hg]at q
   refine aI ⟨_,rfl,by show 2 <= sizeLine;decide,fun z hz=>⟨by show 1 <= sizeLine;decide,fun D hD=>?_⟩⟩
   have s2:=(yW.refl H).new (o := .tup [.str "lie", .int k]) hz
   have gz:(upd H z (.tup [.str "lie", .int k])) z=some (.tup [.str "lie", .int k]):=ac
   exact q D [.ref z] _ (s2.new hD) (s2.free hD) ac (.cons ⟨z,rfl,by rw[ae (ag gz hD)];exact gz⟩ .nil)
  ·rw[decide_eq_false hg]
   rw[if_neg hg]at q
   exact aK ⟨zero_le _,fun D hD=>q D [] _ ((yW.refl H).new hD) hD ac .nil⟩
theorem RY:ao ["self", "lane"] ["self", "lane"] (aj kH):=L2.zy
theorem q5 {c:Cs}{ys:Ys}{J:TJ}{TC f:Addr}{fd:FuncData}(F:zt K "moves_back" "Yard.moves_back" kH f fd)(Y:i5 K ys):yX P w K mg base aD 1 f fd ["self", "lane"] (jd K c TC J ys):=by
 refine F.ok RY (fun vs H Q E h=>?_) (fun cdv A outer s H vs Q E hr h=>?_)
 ·obtain⟨a,s,k,rfl,_⟩:=h
  rfl
 ·obtain⟨a,st,k,rfl,hI,hk,q⟩:=h
  refine⟨_,ak (au (cK (ax wH (al (ap aJ (al (pv 0) rfl) (pv 1) (fun _ _=>rfl)) rfl) ah (aB _)) (aV (aa (aW (aa aX (aa (pv 1) ad))) ad)) (aV ad))),?_⟩
  have hY:=hI.Y
  obtain⟨lvs,zU,DJ⟩:=hY.Au
  obtain⟨ln,zB⟩:∃ ln,st.lanes[k]? = some ln:=⟨_,List.getElem?_eq_getElem hk⟩
  obtain⟨vl,EY,xl,Bh,Gu,HY,rfl,hL,_⟩:=Paired.at2 DJ zB
  unfold cX at q
  dsimp only at q
  rw[zB]at q
  dsimp only at q
  refine⟨_,rfl,a.y,ys.yZ,a.dy,_,_,rfl,hY.ins,Y.cl,Y.n3,rfl,_,rfl,a.la,lvs,(k:Int),_,rfl,rfl,zb.of zU,ai EY,xl,ys.zw,Bh,_,_,rfl,hL.ins,Y.L.cl,Y.L.n2,rfl,_,_,rfl,rfl,_,rfl,?_⟩
  by_cases hb:0 < ln.b
  ·rw[decide_eq_true hb]
   rw[if_pos hb]at q
   refine aK ⟨_,rfl,by show 2 <= sizeLine;decide,fun z hz=>⟨by show 1 <= sizeLine;decide,fun D hD=>?_⟩⟩
   have s2:=(yW.refl H).new (o := .tup [.str "back", .int k]) hz
   have gz:(upd H z (.tup [.str "back", .int k])) z=some (.tup [.str "back", .int k]):=ac
   exact q D [.ref z] _ (s2.new hD) (s2.free hD) ac (.cons ⟨z,rfl,by rw[ae (ag gz hD)];exact gz⟩ .nil)
  ·rw[decide_eq_false hb]
   rw[if_neg hb]at q
   exact aI ⟨zero_le _,fun D hD=>q D [] _ ((yW.refl H).new hD) hD ac .nil⟩
theorem fG {H:Hp}{F:Addr}{xs:List V}{o:HO}(h:H F=some (.lst xs)):zA H (upd H F o):=fun b u e n=>by
 have nb:b ≠ F:=fun z=>by rw[z,h]at e;cases e;exact n
 rw[ae nb];exact e
theorem e8 {α:Type}(f:Nat->List α)(i:Nat):(List.range (i + 1)).flatMap f=(List.range i).flatMap f ++ f i:=by
 rw[range_succ,List.flatMap_append];simp
theorem bu {α:Type}{f:Nat->List α}(h:∀ i,(f i).length <= 1000):∀ i,((List.range i).flatMap f).length <= 1000 * i
 | 0=>by simp
 | i + 1=>by rw[e8,length_append];have:=bu h i;have:=h i;omega
theorem dY {a:YA}{s:YS}(O:wO a)(G:RP a s)(k:Nat):(gS a s k).length <= 1000:=by
 unfold gS
 cases ht:s.U[k]? with
 | none=>exact zero_le _
 | some t =>
  dsimp only
  by_cases hg:t.gone=t.len
  ·rw[if_pos hg];exact zero_le _
  rw[if_neg hg,length_map]
  refine le_trans (length_filter_le _ _) ?_
  unfold dj
  by_cases h0:t.gone=0
  ·rw[if_pos h0];exact le_trans (O.zX _ _ _) (by decide)
  ·rw[if_neg h0,length_take];omega
theorem dX {a:YA}{s:YS}(O:wO a)(k:Nat):(ir a s k).length <= 1000:=by
 unfold ir
 cases hq:bY s k with
 | none=>exact zero_le _
 | some pq =>
  dsimp only
  rw[length_map]
  refine le_trans (length_filter_le _ _) ?_
  unfold dA
  rw[hq]
  dsimp only
  cases s.U[pq.1.toNat]? with
  | none=>exact zero_le _
  | some t =>
   dsimp only
   by_cases h0:pq.2=0
   ·rw[if_pos h0]
    refine le_trans (length_filter_le _ _) ?_
    unfold rh
    by_cases z:(a.ps.getD k (0,0)).2=((t.goal.toNat:Nat):Int)
    ·rw[if_pos z];exact zero_le _
    ·rw[if_neg z];exact le_trans (O.zX _ _ _) (by decide)
   ·rw[if_neg h0,length_take];omega
theorem cC (a:YA)(s:YS)(k:Nat):(eU a s k).length <= 1000:=by
 unfold eU
 cases bY s k with
 | none=>exact zero_le _
 | some pq =>
  dsimp only
  cases s.U[pq.1.toNat]? with
  | none=>exact zero_le _
  | some t =>
   dsimp only
   by_cases h0:t.goal=(a.ps.getD k (0,0)).2
   ·rw[if_pos h0];show 1 <= 1000;decide
   ·rw[if_neg h0];exact zero_le _
theorem jn (s:YS)(k:Nat):(cX s k).length <= 1000:=by
 unfold cX
 cases s.lanes[k]? with
 | none=>exact zero_le _
 | some ln =>
  dsimp only
  by_cases h0:0 < ln.b
  ·rw[if_pos h0];show 1 <= 1000;decide
  ·rw[if_neg h0];exact zero_le _
noncomputable def cY (a:YA)(s:YS):List Mv:=(List.range s.U.length).flatMap (gS a s) ++ (List.range s.lanes.length).flatMap (ir a s) ++ (List.range s.lanes.length).flatMap (eU a s) ++ (List.range s.lanes.length).flatMap (cX s)
noncomputable def oS (K:Frag)(c:Cs)(TC:Addr)(J:TJ)(ys:Ys):Sp:=fun vs H Q _=>∃ (a:YA)(s:YS),vs=[.ref a.y]/\D4 K c TC J ys H a s /\
 ∀ (D:Addr)(zG:List V)(H':Hp),yW H H'->H D=none->H' D=some (.lst zG)->Paired (Af H') zG ((cY a s).map eT)->Q (.ref D) H'
theorem Paired.app {α β:Type}{R:α->β->Prop}{cs:List α}{ds:List β}(h:Paired R cs ds):∀ {as:List α}{bs:List β},Paired R as bs->Paired R (as ++ cs) (bs ++ ds)
 | _,_, .nil=>h
 | _,_, .cons x r => .cons x (Paired.app h r)
theorem iM {H H2 H3:Hp}{F:Addr}{vs zG:List V}{xs ys:List Mv}(nF:H F=none)(s2:yW H H2)(g2:H2 F=some (.lst vs))(p2:Paired (Af H2) vs (xs.map eT))(s3:yW H2 H3)(p3:Paired (Af H3) zG (ys.map eT)) :
  yW H (upd H3 F (.lst (vs ++ zG)))/\(upd H3 F (.lst (vs ++ zG))) F=some (.lst (vs ++ zG))/\Paired (Af (upd H3 F (.lst (vs ++ zG)))) (vs ++ zG) ((xs ++ ys).map eT):=by
 refine⟨fun b o e=>by rw[ae (ag e nF)];exact s3 _ _ (s2 _ _ e),ac,?_⟩
 have kk:zA H3 (upd H3 F (.lst (vs ++ zG))):=fG (s3 _ _ g2)
 rw[map_append]
 have q2:=Paired.mono (fun _ _ z=>z.keep (zA.trans (yW.zu s3) kk)) p2
 have q3:=Paired.mono (fun _ _ z=>z.keep kk) p3
 exact Paired.app q3 q2
noncomputable abbrev NMs:List Str:=["self", "found", "number", "lane"]
theorem D7:ao NMs ["self"] (aj nI):=L2.zy
structure RZ (P:Program)(w:World)(K:Frag)(mg:Str->Option Value)(base:Heap)(c:Cs)(TC:Addr)(J:TJ)(ys:Ys)(fi fo fl fb:Addr)(di BZ dl db:FuncData):Prop where
 mi:b6 K ys.yZ "moves_in" fi
 bi:Binds K di ["self", "number"] []
 Gi:yX P w K mg base aD 4 fi di ["self", "number"] (n9 K c TC J ys)
 mo:b6 K ys.yZ "moves_on" fo
 bo:Binds K BZ ["self", "lane"] []
 Go:yX P w K mg base aD 6 fo BZ ["self", "lane"] (n8 K c TC J ys)
 ml:b6 K ys.yZ "moves_lie" fl
 bl:Binds K dl ["self", "lane"] []
 Gl:yX P w K mg base aD 2 fl dl ["self", "lane"] (oR K c TC J ys)
 mb:b6 K ys.yZ "moves_back" fb
 bb:Binds K db ["self", "lane"] []
 Gb:yX P w K mg base aD 1 fb db ["self", "lane"] (jd K c TC J ys)
theorem tG {c:Cs}{ys:Ys}{J:TJ}{TC f fw fi fo fl fb:Addr}{fd dw di BZ dl db:FuncData}(F:zt K "moves" "Yard.moves" nI f fd)(T:eO mg)(Y:i5 K ys)(W:Wy K TC fw dw J)(M:RZ P w K mg base c TC J ys fi fo fl fb di BZ dl db) :
  yX P w K mg base aD 7 f fd ["self"] (oS K c TC J ys):=by
 refine F.ok D7 (fun vs H Q E h=>?_) (fun cdv A outer s H vs Q E hr h=>?_)
 ·obtain⟨a,s,rfl,_⟩:=h
  rfl
 ·obtain⟨a,st,rfl,hI,q⟩:=h
  have zL:zi 1 _:=hr.mono (by decide)
  have Ay:zi 2 _:=hr.mono (by decide)
  have Cp:zi 4 _:=hr.mono (by decide)
  refine⟨_,af (aA (i:=1) D7.nd rfl (Or.inl rfl) (aV ad))
   (af (bN PassesOwn.never rfl (aM rfl T.range (aa (aG ay rfl T.len PySem.boot_len (aa (al (pv 0) rfl) ad)) ad)) (av (i:=2) D7.nd rfl (Or.inl rfl)) (ak (aR (cz plainAttrs_list slot_list_extend type_list_extend fU (pv 1) (aa (aF (pv 0) Y.cl M.mi M.Gi Cp M.bi .nil aq (aa (pv 2) ad)) ad)))))
   (af (bN PassesOwn.never rfl (aM rfl T.range (aa (aG ay rfl T.len PySem.boot_len (aa (al (pv 0) rfl) ad)) ad)) (av (i:=3) D7.nd rfl (Or.inl rfl)) (ak (aR (cz plainAttrs_list slot_list_extend type_list_extend fU (pv 1) (aa (aF (pv 0) Y.cl M.mo M.Go hr M.bo .nil aq (aa (pv 3) ad)) ad)))))
   (af (bN PassesOwn.never rfl (aM rfl T.range (aa (aG ay rfl T.len PySem.boot_len (aa (al (pv 0) rfl) ad)) ad)) (av (i:=3) D7.nd rfl (Or.inl rfl)) (ak (aR (cz plainAttrs_list slot_list_extend type_list_extend fU (pv 1) (aa (aF (pv 0) Y.cl M.ml M.Gl Ay M.bl .nil aq (aa (pv 3) ad)) ad)))))
   (af (bN PassesOwn.never rfl (aM rfl T.range (aa (aG ay rfl T.len PySem.boot_len (aa (al (pv 0) rfl) ad)) ad)) (av (i:=3) D7.nd rfl (Or.inl rfl)) (ak (aR (cz plainAttrs_list slot_list_extend type_list_extend fU (pv 1) (aa (aF (pv 0) Y.cl M.mb M.Gb zL M.bb .nil aq (aa (pv 3) ad)) ad)))))
   (ak (au (pv 1))))))),?_⟩
  have hlet:=hI.G.zX
  have Fb:st.lanes.length <= 40:=by rw[hI.G.lanes];exact hI.T.zX
  refine⟨zero_le _,fun Fd Jh=>?_⟩
  have s0:=(yW.refl H).new (o := .lst []) Jh
  have g0:(upd H Fd (.lst [])) Fd=some (.lst []):=ac
  show c4 1 (V.ref Fd) _ _ _
  generalize upd H Fd (.lst [])=H0 at s0 g0 ⊢
  have Sb:∃ vs,yW H H0/\H0 Fd=some (.lst vs)/\Paired (Af H0) vs (([]:List Mv).map eT):=⟨[],s0,g0, .nil⟩
  obtain⟨DF,WJ,g0',p0'⟩:=Sb
  have WK:=(hI.same W WJ).Y
  obtain⟨WL,gl0,pl0⟩:=WK.hle
  have Sd:WL.length=st.U.length:=Paired.length pl0
  refine⟨_,rfl,a.y,ys.yZ,a.dy,_,_,rfl,WK.ins,Y.cl,Y.n4,rfl,a.le,_,rfl, .inl (zb.of gl0),((WL.length:Nat):Int),rfl,by omega,by omega,?_⟩
  rw[toNat_natCast,Sd]
  refine bH (n:=st.U.length) (fun i σ H2=>∃ a2 a3:Option V,(∃ vs,yW H H2/\H2 Fd=some (.lst vs)/\Paired (Af H2) vs (((List.range i).flatMap (gS a st)).map eT))/\σ=[some (.ref a.y),some (.ref Fd),a2,a3]) ?_ ?_ ?_
  ·exact⟨_,_,⟨DF,WJ,g0',by simpa using p0'⟩,rfl⟩
  ·rintro i σ H2 hi ⟨a2,a3,⟨vs,s2,g2,p2⟩,rfl⟩
   rw[zero_add]
   have Cu:=hI.same W s2
   refine⟨_,rfl, .inl ⟨rfl,_,zb.of g2⟩,_,rfl,a.y,a.dy,_,rfl,Cu.Y.ins,rfl,_,rfl,a,st,i,rfl,Cu,hi,fun D zG H3 s3 hD gD hp=>?_⟩
   have l1:vs.length <= 1000000:=by
    rw[Paired.length p2,length_map]
    have h0:=bu (dY hI.O hI.G) st.U.length
    have h1:=bu (dX (s:=st) hI.O) st.lanes.length
    have h2:=bu (cC a st) st.lanes.length
    have hh:=bu (dY hI.O hI.G) i
    try simp only[length_append]
    omega
   have l2:zG.length <= 1000:=by rw[Paired.length hp,length_map];exact(dY hI.O hI.G) i
   obtain⟨q1,q2,q3⟩:=iM Jh s2 g2 p2 s3 hp
   refine⟨Fd,D,vs,zG,rfl,rfl,s3 _ _ g2,gD,by rw[sizeLine_eq];omega,?_⟩
   refine⟨_,_,⟨vs ++ zG,q1,q2,?_⟩,rfl⟩
   rw[e8]
   exact q3
  rintro σ0 H1 ⟨a20,a30,inv1,rfl⟩
  obtain⟨vs1,WM,g1',p1'⟩:=inv1
  have BE:=(hI.same W WM).Y
  obtain⟨WN,OW,RO⟩:=BE.Au
  have Sf:WN.length=st.lanes.length:=Paired.length RO
  refine⟨_,rfl,a.y,ys.yZ,a.dy,_,_,rfl,BE.ins,Y.cl,Y.n3,rfl,a.la,_,rfl, .inl (zb.of OW),((WN.length:Nat):Int),rfl,by omega,by omega,?_⟩
  rw[toNat_natCast,Sf]
  refine bH (n:=st.lanes.length) (fun i σ H2=>∃ a2 a3:Option V,(∃ vs,yW H H2/\H2 Fd=some (.lst vs)/\Paired (Af H2) vs ((((List.range st.U.length).flatMap (gS a st)) ++ (List.range i).flatMap (ir a st)).map eT))/\σ=[some (.ref a.y),some (.ref Fd),a2,a3]) ?_ ?_ ?_
  ·exact⟨_,_,⟨vs1,WM,g1',by simpa using p1'⟩,rfl⟩
  ·rintro i σ H2 hi ⟨a2,a3,⟨vs,s2,g2,p2⟩,rfl⟩
   rw[zero_add]
   have Cu:=hI.same W s2
   refine⟨_,rfl, .inl ⟨rfl,_,zb.of g2⟩,_,rfl,a.y,a.dy,_,rfl,Cu.Y.ins,rfl,_,rfl,a,st,i,rfl,Cu,hi,fun D zG H3 s3 hD gD hp=>?_⟩
   have l1:vs.length <= 1000000:=by
    rw[Paired.length p2,length_map]
    have h0:=bu (dY hI.O hI.G) st.U.length
    have h1:=bu (dX (s:=st) hI.O) st.lanes.length
    have h2:=bu (cC a st) st.lanes.length
    have hh:=bu (dX (s:=st) hI.O) i
    try simp only[length_append]
    omega
   have l2:zG.length <= 1000:=by rw[Paired.length hp,length_map];exact(dX (s:=st) hI.O) i
   obtain⟨q1,q2,q3⟩:=iM Jh s2 g2 p2 s3 hp
   refine⟨Fd,D,vs,zG,rfl,rfl,s3 _ _ g2,gD,by rw[sizeLine_eq];omega,?_⟩
   refine⟨_,_,⟨vs ++ zG,q1,q2,?_⟩,rfl⟩
   rw[e8]
   rw[← append_assoc];exact q3
  rintro σ1 H2 ⟨a21,a31,inv2,rfl⟩
  obtain⟨HV,WO,g2',p2'⟩:=inv2
  have B6:=(hI.same W WO).Y
  obtain⟨WQ,gl2,pl2⟩:=B6.Au
  have Sg:WQ.length=st.lanes.length:=Paired.length pl2
  refine⟨_,rfl,a.y,ys.yZ,a.dy,_,_,rfl,B6.ins,Y.cl,Y.n3,rfl,a.la,_,rfl, .inl (zb.of gl2),((WQ.length:Nat):Int),rfl,by omega,by omega,?_⟩
  rw[toNat_natCast,Sg]
  refine bH (n:=st.lanes.length) (fun i σ H2=>∃ a2 a3:Option V,(∃ vs,yW H H2/\H2 Fd=some (.lst vs)/\Paired (Af H2) vs ((((List.range st.U.length).flatMap (gS a st) ++ (List.range st.lanes.length).flatMap (ir a st)) ++ (List.range i).flatMap (eU a st)).map eT))/\σ=[some (.ref a.y),some (.ref Fd),a2,a3]) ?_ ?_ ?_
  ·exact⟨_,_,⟨HV,WO,g2',by simpa using p2'⟩,rfl⟩
  ·rintro i σ H2 hi ⟨a2,a3,⟨vs,s2,g2,p2⟩,rfl⟩
   rw[zero_add]
   have Cu:=hI.same W s2
   refine⟨_,rfl, .inl ⟨rfl,_,zb.of g2⟩,_,rfl,a.y,a.dy,_,rfl,Cu.Y.ins,rfl,_,rfl,a,st,i,rfl,Cu,hi,fun D zG H3 s3 hD gD hp=>?_⟩
   have l1:vs.length <= 1000000:=by
    rw[Paired.length p2,length_map]
    have h0:=bu (dY hI.O hI.G) st.U.length
    have h1:=bu (dX (s:=st) hI.O) st.lanes.length
    have h2:=bu (cC a st) st.lanes.length
    have hh:=bu (cC a st) i
    try simp only[length_append]
    omega
   have l2:zG.length <= 1000:=by rw[Paired.length hp,length_map];exact(cC a st) i
   obtain⟨q1,q2,q3⟩:=iM Jh s2 g2 p2 s3 hp
   refine⟨Fd,D,vs,zG,rfl,rfl,s3 _ _ g2,gD,by rw[sizeLine_eq];omega,?_⟩
   refine⟨_,_,⟨vs ++ zG,q1,q2,?_⟩,rfl⟩
   rw[e8]
   rw[← append_assoc];exact q3
  rintro σ2 H3 ⟨a22,a32,Sh,rfl⟩
  obtain⟨vs3,WR,g3',p3'⟩:=Sh
  have BF:=(hI.same W WR).Y
  obtain⟨WS,gl3,pl3⟩:=BF.Au
  have Si:WS.length=st.lanes.length:=Paired.length pl3
  refine⟨_,rfl,a.y,ys.yZ,a.dy,_,_,rfl,BF.ins,Y.cl,Y.n3,rfl,a.la,_,rfl, .inl (zb.of gl3),((WS.length:Nat):Int),rfl,by omega,by omega,?_⟩
  rw[toNat_natCast,Si]
  refine bH (n:=st.lanes.length) (fun i σ H2=>∃ a2 a3:Option V,(∃ vs,yW H H2/\H2 Fd=some (.lst vs)/\Paired (Af H2) vs ((((List.range st.U.length).flatMap (gS a st) ++ (List.range st.lanes.length).flatMap (ir a st) ++ (List.range st.lanes.length).flatMap (eU a st)) ++ (List.range i).flatMap (cX st)).map eT))/\σ=[some (.ref a.y),some (.ref Fd),a2,a3]) ?_ ?_ ?_
  ·exact⟨_,_,⟨vs3,WR,g3',by simpa using p3'⟩,rfl⟩
  ·rintro i σ H2 hi ⟨a2,a3,⟨vs,s2,g2,p2⟩,rfl⟩
   rw[zero_add]
   have Cu:=hI.same W s2
   refine⟨_,rfl, .inl ⟨rfl,_,zb.of g2⟩,_,rfl,a.y,a.dy,_,rfl,Cu.Y.ins,rfl,_,rfl,a,st,i,rfl,Cu,hi,fun D zG H3 s3 hD gD hp=>?_⟩
   have l1:vs.length <= 1000000:=by
    rw[Paired.length p2,length_map]
    have h0:=bu (dY hI.O hI.G) st.U.length
    have h1:=bu (dX (s:=st) hI.O) st.lanes.length
    have h2:=bu (cC a st) st.lanes.length
    have hh:=bu (jn st) i
    try simp only[length_append]
    omega
   have l2:zG.length <= 1000:=by rw[Paired.length hp,length_map];exact(jn st) i
   obtain⟨q1,q2,q3⟩:=iM Jh s2 g2 p2 s3 hp
   refine⟨Fd,D,vs,zG,rfl,rfl,s3 _ _ g2,gD,by rw[sizeLine_eq];omega,?_⟩
   refine⟨_,_,⟨vs ++ zG,q1,q2,?_⟩,rfl⟩
   rw[e8]
   rw[← append_assoc];exact q3
  rintro σ3 H4 ⟨a23,a33,Sj,rfl⟩
  obtain⟨vs,s2,g2,p2⟩:=Sj
  exact⟨_,rfl,q Fd vs _ s2 Jh g2 p2⟩
structure Mm (K:Frag):Prop where
 ss:kitOne K (.type "str") (.type "str")=some true
 ns:kitOne K (.type "int") (.type "str")=some false
 tt:kitOne K (.type "tuple") (.type "tuple")=some true
theorem dG {a b:Str}(h:a ≠ b):decide (V.str a=V.str b)=false:=decide_eq_false fun z=>h (by injection z)
theorem fj (a:Str):decide (V.str a=V.str a)=true:=decide_eq_true rfl
noncomputable def rU:Sp:=fun vs H Q _=>∃ (p:Addr)(xs:List V),vs=[.ref p]/\H p=some (.tup xs)/\xs.length <= 100/\(∀ x ∈ xs,(∃ t,x = .str t)∨∃ i,x = .int i)/\∀ H',yW H H'->Q (.bl true) H'
noncomputable def wg (s:Stmt):Scope:=match s with
 | .Return (some (.BoolOp _ [_, .Call _ [.ListComp _ _ sc _] _ _] _)) _=>sc
 | _=>{ kind := .function,names:=[],isGenerator:=false,isCoroutine:=false }
theorem lZ (m:Mv):(eT m).length <= 100/\∀ x ∈ eT m,(∃ t,x=V.str t)∨∃ i,x=V.int i:=by
 cases m<;>refine⟨by simp[eT],fun x hx=>?_⟩<;>simp only[eT,mem_cons,not_mem_nil,or_false]at hx
 ·rcases hx with rfl | rfl | rfl
  ·exact .inl ⟨_,rfl⟩
  ·exact .inr ⟨_,rfl⟩
  ·exact .inr ⟨_,rfl⟩
 ·rcases hx with rfl | rfl | rfl
  ·exact .inl ⟨_,rfl⟩
  ·exact .inr ⟨_,rfl⟩
  ·exact .inr ⟨_,rfl⟩
 ·rcases hx with rfl | rfl
  ·exact .inl ⟨_,rfl⟩
  ·exact .inr ⟨_,rfl⟩
 ·rcases hx with rfl | rfl
  ·exact .inl ⟨_,rfl⟩
  ·exact .inr ⟨_,rfl⟩
noncomputable def pG (a:YA)(s:YS):Mv->List Mv
 | .Ag k _=>gS a s k
 | .on k _=>ir a s k
 | .Br k=>eU a s k
 | .back k=>cX s k
noncomputable def wM (s:YS):Mv->Prop
 | .Ag k _=>k < s.U.length
 | .on k _=>k < s.lanes.length
 | .Br k=>k < s.lanes.length
 | .back k=>k < s.lanes.length
noncomputable def rQ (K:Frag)(c:Cs)(TC:Addr)(J:TJ)(ys:Ys):Sp:=fun vs H Q _=>∃ (a:YA)(s:YS)(p:Addr)(m:Mv),vs=[.ref a.y, .ref p]/\D4 K c TC J ys H a s/\H p=some (.tup (eT m))/\wM s m /\
 ∀ (D:Addr)(zG:List V)(H':Hp),yW H H'->H D=none->H' D=some (.lst zG)->Paired (Af H') zG ((pG a s m).map eT)->Q (.ref D) H'
theorem Sk:ao ["move"] ["move"] (aj lK):=L2.zy
theorem Sl:Ae ["move"] (aj lK) (wg ((aH lK).getD 0 (.Pass ⟨0,0,0,0⟩))) [] []:=L2.Bf
theorem Sm:(["thing"]:List Str).Nodup:=by decide +kernel
theorem v9 {f fh:Addr}{fd dh:FuncData}(F:zt K "is_move" "is_move" lK f fd)(T:eO mg)(Z:Mm K)(mh:mg "is_whole" = some (.ref fh))(kh:keepIn K (.ref fh)=true)(bh:Binds K dh ["value"] [])(G:yX P w K mg base aD 1 fh dh ["value"] gG) :
  yX P w K mg base aD 2 f fd ["move"] rU:=by
 refine F.ok Sk (fun vs H Q E h=>?_) (fun cdv A outer s H vs Q E hr h=>?_)
 ·obtain⟨p,xs,rfl,_⟩:=h
  rfl
 ·obtain⟨p,xs,rfl,hp,hl,hx,q⟩:=h
  refine⟨_,ak (au (dJ (aG fO rfl T.Hz PyProof.Rows.boot_isinstance (aa (pv 0) (aa (eJ (v := .ty "tuple") rfl T.tuple PySem.Pv.boot_tuple rfl) ad)))
   (dI (aG (j4 rfl) rfl T.all PyProof.Rows.boot_all (aa (bz (own:=["thing"]) (capN:=[]) (cap:=[]) Sl rfl (kO (pv 0)) (fun C s' H' fp=>⟨av (i:=0) Sm rfl (Or.inl rfl),bJ,
    JE (aG (show fP _ (.builtin "isinstance") (K4 K) from fO) rfl T.Hz PyProof.Rows.boot_isinstance (aa (pv 0) (aa (eJ (v := .ty "str") rfl T.str PySem.Pv.boot_str rfl) ad))) (dI (aw G hr rfl mh kh bh .nil aq (aa (pv 0) ad)))⟩)) ad))))),?_⟩
  refine⟨_,rfl, .ref p,_, "tuple",true,rfl, .tup hp,Z.tt,true,rfl,aK ⟨_,rfl,p,rfl,⟨_,zc.of hp⟩,?_⟩⟩
  refine bI xs.length (by rw[sizeLine_eq];omega) (fun i acc H'=>H' = H/\acc=(List.replicate i true).map V.bl) ⟨rfl,rfl⟩ (fun i acc H' h=>by rw[h.2];simp) (fun i acc H' hi h=>?_) (fun acc H' h=>?_)
  ·obtain⟨rfl,rfl⟩:=h
   refine⟨⟨xs,xs[i],zc.of hp,List.getElem?_eq_getElem hi⟩,fun v H2 y=>?_⟩
   obtain⟨rfl,y⟩:=y
   have hv:=y xs (zc.of hp)
   have e:(List.replicate i true).map V.bl ++ [V.bl true]=(List.replicate (i + 1) true).map V.bl:=by rw[replicate_succ',map_append];rfl
   rcases hx v (mem_of_getElem? hv) with ⟨t,rfl⟩ | ⟨z,rfl⟩
   ·exact⟨_,rfl, .str t,_, "str",true,rfl, .str t,Z.ss,true,rfl,aK ⟨rfl,e⟩⟩
   ·exact⟨_,rfl, .int z,_, "str",false,rfl, .int z,Z.ns,false,rfl,aI ⟨_,rfl, .int z,rfl, .int z,rfl,e⟩⟩
  ·obtain⟨rfl,rfl⟩:=h
   refine⟨⟨xs,zc.of hp,le_refl _⟩,fun D hD=>⟨D,List.replicate xs.length true,rfl,zb.of ac,?_⟩⟩
   have e:(List.replicate xs.length true).all id=true:=by rw[all_eq_true];intro b hb;rw[eq_of_mem_replicate hb];rfl
   rw[e]
   exact q _ ((yW.refl H').new hD)
theorem Sn:ao ["self", "move"] ["self", "move"] (aj sD):=L2.zy
theorem v7 {c:Cs}{ys:Ys}{J:TJ}{TC f fw fi fo fl fb fm fn:Addr}{fd dw di BZ dl db dm dn:FuncData}(F:zt K "moves_like" "Yard.moves_like" sD f fd)(T:eO mg)(Y:i5 K ys)(W:Wy K TC fw dw J)(M:RZ P w K mg base c TC J ys fi fo fl fb di BZ dl db)
  (mm:mg "is_move" = some (.ref fm)) (km:keepIn K (.ref fm)=true) (bm:Binds K dm ["move"] []) (Gm:yX P w K mg base aD 2 fm dm ["move"] rU)
  (mn:mg "is_within" = some (.ref fn)) (kn:keepIn K (.ref fn)=true) (bn:Binds K dn ["value", "least", "most"] []) (Gn:yX P w K mg base aD 2 fn dn ["value", "least", "most"] fR) :
  yX P w K mg base aD 7 f fd ["self", "move"] (rQ K c TC J ys):=by
 refine F.ok Sn (fun vs H Q E h=>?_) (fun cdv A outer s H vs Q E hr h=>?_)
 ·obtain⟨a,s,p,m,rfl,_⟩:=h
  rfl
 ·obtain⟨a,st,p,m,rfl,hI,hp,ze,q⟩:=h
  have zL:zi 1 _:=hr.mono (by decide)
  have Ay:zi 2 _:=hr.mono (by decide)
  have Cp:zi 4 _:=hr.mono (by decide)
  refine⟨_,af (aN (iI (PW.pt (gP (bW (bK (aw Gm Ay rfl mm km bm .nil aq (aa (pv 1) ad)))) (eE (ax p6 (aG ay rfl T.len PySem.boot_len (aa (pv 1) ad)) ah (aB _)))))) (ak (au (aV ad))) aE)
   (af (aN (ax bv (ap ar (pv 1) ah (fun _ _=>rfl)) aX (aB _))
    (ak (au (cK (bK (aw Gn Ay rfl mn kn bn .nil aq (aa (ap ar (pv 1) ah (fun _ _=>rfl)) (aa ah (aa (az c5 (aG ay rfl T.len PySem.boot_len (aa (al (pv 0) rfl) ad)) ah) ad)))))
     (aF (pv 0) Y.cl M.mi M.Gi Cp M.bi .nil aq (aa (ap ar (pv 1) ah (fun _ _=>rfl)) ad)) (aV ad)))) aE)
   (af (aN (bW (bK (aw Gn Ay rfl mn kn bn .nil aq (aa (ap ar (pv 1) ah (fun _ _=>rfl)) (aa ah (aa (az c5 (aG ay rfl T.len PySem.boot_len (aa (al (pv 0) rfl) ad)) ah) ad)))))) (ak (au (aV ad))) aE)
   (af (aN (ax bv (ap ar (pv 1) ah (fun _ _=>rfl)) aX (aB _)) (ak (au (aF (pv 0) Y.cl M.mo M.Go hr M.bo .nil aq (aa (ap ar (pv 1) ah (fun _ _=>rfl)) ad)))) aE)
   (af (aN (ax bv (ap ar (pv 1) ah (fun _ _=>rfl)) aX (aB _)) (ak (au (aF (pv 0) Y.cl M.ml M.Gl Ay M.bl .nil aq (aa (ap ar (pv 1) ah (fun _ _=>rfl)) ad)))) aE)
   (ak (au (cK (ax bv (ap ar (pv 1) ah (fun _ _=>rfl)) aX (aB _)) (aF (pv 0) Y.cl M.mb M.Gb zL M.bb .nil aq (aa (ap ar (pv 1) ah (fun _ _=>rfl)) ad)) (aV ad)))))))),?_⟩
  refine⟨fun b H1=>b=false/\yW H H1,?_,?_⟩
  ·refine⟨_,rfl,p,eT m,rfl,hp,(lZ m).1,(lZ m).2,fun H1 s1=>⟨_,rfl,aI ?_⟩⟩
   refine⟨_,rfl,p,_,rfl, .inr (zc.of (s1 _ _ hp)),_,_,rfl,rfl,_,rfl,?_,s1⟩
   cases m<;>rfl
  rintro b H1 ⟨rfl,s1⟩
  refine aI ?_
  have D5:=hI.same W s1
  have zC:=s1 _ _ hp
  have q1:∀ (D:Addr)(zG:List V)(H':Hp),yW H1 H'->H1 D=none->H' D=some (.lst zG)->Paired (Af H') zG ((pG a st m).map eT)->Q (.ref D) H':=fun D zG H' s' hD g' CS=>q D zG H' (s1.trans s') (s1.free hD) g' CS
  have hY:=D5.Y
  obtain⟨zg,Aq,ple⟩:=hY.hle
  have hle:zg.length=st.U.length:=Paired.length ple
  obtain⟨lvs,zU,DJ⟩:=hY.Au
  have Au:lvs.length=st.lanes.length:=Paired.length DJ
  clear s1 q hp hI
  have inl:∀ k:Nat,k < st.lanes.length->jJ (.int k) 0 (((lvs.length:Nat):Int) - 1)=true:=fun k hk=>decide_eq_true (by omega)
  cases m with
  | Ag k l =>
   have zC:H1 p=some (.tup [.str "in", .int k, .int l]):=zC
   have ze:k < st.U.length:=ze
   refine⟨_,rfl,p,_,0,_,rfl,rfl,zc.of zC,ai (j:=0) rfl,rfl,_,rfl,?_⟩
   rw[fj]
   refine aK ⟨_,rfl,p,_,1,_,rfl,rfl,zc.of zC,ai (j:=1) rfl,_,rfl,a.y,ys.yZ,a.dy,_,_,rfl,hY.ins,Y.cl,Y.n4,rfl,a.le,_,rfl, .inl (zb.of Aq),_,_,rfl,rfl, .int k,0,((zg.length:Nat):Int) - 1,rfl, .int _,_,rfl,?_⟩
   rw[show jJ (.int k) 0 (((zg.length:Nat):Int) - 1)=true from decide_eq_true (by omega)]
   exact aK ⟨_,rfl,a.y,a.dy,_,rfl,hY.ins,rfl,_,rfl,p,_,1,_,rfl,rfl,zc.of zC,ai (j:=1) rfl,a,st,k,rfl,D5,ze,fun D zG H' s' hD g' CS=>q1 D zG H' s' hD g' CS⟩
  | on k l =>
   have zC:H1 p=some (.tup [.str "on", .int k, .int l]):=zC
   have ze:k < st.lanes.length:=ze
   refine⟨_,rfl,p,_,0,_,rfl,rfl,zc.of zC,ai (j:=0) rfl,rfl,_,rfl,?_⟩
   rw[dG (by decide +kernel)]
   refine aI ⟨_,rfl,p,_,1,_,rfl,rfl,zc.of zC,ai (j:=1) rfl,_,rfl,a.y,ys.yZ,a.dy,_,_,rfl,hY.ins,Y.cl,Y.n3,rfl,a.la,_,rfl, .inl (zb.of zU),_,_,rfl,rfl, .int k,0,((lvs.length:Nat):Int) - 1,rfl, .int _,_,rfl,?_⟩
   rw[inl k ze]
   refine aI ⟨_,rfl,p,_,0,_,rfl,rfl,zc.of zC,ai (j:=0) rfl,rfl,_,rfl,?_⟩
   rw[fj]
   exact aK ⟨_,rfl,a.y,a.dy,_,rfl,hY.ins,rfl,_,rfl,p,_,1,_,rfl,rfl,zc.of zC,ai (j:=1) rfl,a,st,k,rfl,D5,ze,fun D zG H' s' hD g' CS=>q1 D zG H' s' hD g' CS⟩
  | Br k =>
   have zC:H1 p=some (.tup [.str "lie", .int k]):=zC
   have ze:k < st.lanes.length:=ze
   refine⟨_,rfl,p,_,0,_,rfl,rfl,zc.of zC,ai (j:=0) rfl,rfl,_,rfl,?_⟩
   rw[dG (by decide +kernel)]
   refine aI ⟨_,rfl,p,_,1,_,rfl,rfl,zc.of zC,ai (j:=1) rfl,_,rfl,a.y,ys.yZ,a.dy,_,_,rfl,hY.ins,Y.cl,Y.n3,rfl,a.la,_,rfl, .inl (zb.of zU),_,_,rfl,rfl, .int k,0,((lvs.length:Nat):Int) - 1,rfl, .int _,_,rfl,?_⟩
   rw[inl k ze]
   refine aI ⟨_,rfl,p,_,0,_,rfl,rfl,zc.of zC,ai (j:=0) rfl,rfl,_,rfl,?_⟩
   rw[dG (by decide +kernel)]
   refine aI ⟨_,rfl,p,_,0,_,rfl,rfl,zc.of zC,ai (j:=0) rfl,rfl,_,rfl,?_⟩
   rw[fj]
   exact aK ⟨_,rfl,a.y,a.dy,_,rfl,hY.ins,rfl,_,rfl,p,_,1,_,rfl,rfl,zc.of zC,ai (j:=1) rfl,a,st,k,rfl,D5,ze,fun D zG H' s' hD g' CS=>q1 D zG H' s' hD g' CS⟩
  | back k =>
   have zC:H1 p=some (.tup [.str "back", .int k]):=zC
   have ze:k < st.lanes.length:=ze
   refine⟨_,rfl,p,_,0,_,rfl,rfl,zc.of zC,ai (j:=0) rfl,rfl,_,rfl,?_⟩
   rw[dG (by decide +kernel)]
   refine aI ⟨_,rfl,p,_,1,_,rfl,rfl,zc.of zC,ai (j:=1) rfl,_,rfl,a.y,ys.yZ,a.dy,_,_,rfl,hY.ins,Y.cl,Y.n3,rfl,a.la,_,rfl, .inl (zb.of zU),_,_,rfl,rfl, .int k,0,((lvs.length:Nat):Int) - 1,rfl, .int _,_,rfl,?_⟩
   rw[inl k ze]
   refine aI ⟨_,rfl,p,_,0,_,rfl,rfl,zc.of zC,ai (j:=0) rfl,rfl,_,rfl,?_⟩
   rw[dG (by decide +kernel)]
   refine aI ⟨_,rfl,p,_,0,_,rfl,rfl,zc.of zC,ai (j:=0) rfl,rfl,_,rfl,?_⟩
   rw[dG (by decide +kernel)]
   refine aI ⟨_,rfl,p,_,0,_,rfl,rfl,zc.of zC,ai (j:=0) rfl,rfl,_,rfl,?_⟩
   rw[fj]
   exact aK ⟨_,rfl,a.y,a.dy,_,rfl,hY.ins,rfl,_,rfl,p,_,1,_,rfl,rfl,zc.of zC,ai (j:=1) rfl,a,st,k,rfl,D5,ze,fun D zG H' s' hD g' CS=>q1 D zG H' s' hD g' CS⟩
noncomputable def bP (ln:bV):bV:={ ln with b:=ln.b + 1,qs:=ln.qs.tail }
noncomputable def wL (ln:bV):bV:={ ln with r:=ln.r + 1,b:=ln.b - 1 }
inductive AQ (a:YA)(s:YS):Mv->YS->Prop
 | Ag {k l:Nat} {t:ci} {ln:bV} (ht:s.U[k]? = some t) (hg:t.gone ≠ t.len) (hl:l ∈ dj a t) (zB:s.lanes[l]? = some ln) (ho:cu ln.r ln.h k t.gone=true) :
  AQ a s (.Ag k l) (dz (el s k t) k t.gone l { t with gone:=t.gone + 1 } ln)
 | on {k l m:Nat} {c:Int} {lk ln:bV} {t:ci} (hk:s.lanes[k]? = some lk) (hq:lk.qs.head? = some ((m:Int),c)) (ht:s.U[m]? = some t) (hl:l ∈ dA a s k) (zB:(s.lanes.set k (bP lk))[l]? = some ln) (ho:cu ln.r ln.h m c=true) :
  AQ a s (.on k l) (dz { s with lanes:=s.lanes.set k (bP lk) } m c l t ln)
 | Br {k m e:Nat} {c:Int} {lk:bV} {t:ci} {qs:List (Int × Int)} (hk:s.lanes[k]? = some lk) (hq:lk.qs.head? = some ((m:Int),c)) (ht:s.U[m]? = some t) (hg:t.goal=(e:Int)) (he:(a.ps.getD k (0,0)).2=(e:Int)) (By:s.lies[e]? = some qs) :
  AQ a s (.Br k) { s with lanes:=s.lanes.set k (bP lk),lies:=s.lies.set e (qs ++ [((m:Int),c)]) }
 | back {k:Nat} {lk:bV} (hk:s.lanes[k]? = some lk) (hb:0 < lk.b):AQ a s (.back k) { s with lanes:=s.lanes.set k (wL lk) }
theorem AQ.done {a:YA}{s s':YS}{m:Mv}(h:AQ a s m s'):s'.done=s.done:=by
 cases h<;>rfl
structure WT (s:YS):Prop where
 q:∀ (k:Nat)(ln:bV),s.lanes[k]? = some ln->ln.qs.length <= 10000
 l:∀ (p:Nat)(qs:List (Int × Int)),s.lies[p]? = some qs->qs.length <= 10000
 d:s.done.length <= 100000
theorem jj {s:YS}{l:Nat}{m c:Int}(h:fZ s l m c=true):∃ ln,s.lanes[l]? = some ln/\cu ln.r ln.h m c=true:=by
 unfold fZ at h
 cases hl:s.lanes[l]? with
 | none=>rw[hl]at h;cases h
 | some ln=>rw[hl]at h;exact⟨ln,rfl,h⟩
theorem nZ {a:YA}{s:YS}{k:Nat}{m:Mv}(h:m ∈ gS a s k):∃ l t ln,m = .Ag k l/\s.U[k]? = some t/\t.gone ≠ t.len/\l ∈ dj a t/\s.lanes[l]? = some ln/\cu ln.r ln.h k t.gone=true:=by
 unfold gS at h
 cases ht:s.U[k]? with
 | none=>rw[ht]at h;cases h
 | some t =>
  rw[ht]at h
  dsimp only at h
  by_cases hg:t.gone=t.len
  ·rw[if_pos hg]at h;cases h
  rw[if_neg hg]at h
  obtain⟨l,hl,rfl⟩:=mem_map.mp h
  obtain⟨h1,h2⟩:=mem_filter.mp hl
  obtain⟨ln,h3,h4⟩:=jj h2
  exact⟨l,t,ln,rfl,rfl,hg,h1,h3,h4⟩
theorem nY {a:YA}{s:YS}{k:Nat}{m:Mv}(h:m ∈ ir a s k):∃ l q lk ln,m = .on k l/\s.lanes[k]? = some lk/\lk.qs.head? = some q/\l ∈ dA a s k/\s.lanes[l]? = some ln/\cu ln.r ln.h q.1 q.2=true:=by
 unfold ir at h
 cases hq:bY s k with
 | none=>rw[hq]at h;cases h
 | some q =>
  rw[hq]at h
  dsimp only at h
  obtain⟨l,hl,rfl⟩:=mem_map.mp h
  obtain⟨h1,h2⟩:=mem_filter.mp hl
  obtain⟨ln,h3,h4⟩:=jj h2
  unfold bY at hq
  cases hk:s.lanes[k]? with
  | none=>rw[hk]at hq;cases hq
  | some lk=>rw[hk]at hq;exact⟨l,q,lk,ln,rfl,rfl,hq,h1,h3,h4⟩
theorem kU {a:YA}{s:YS}{k:Nat}{m:Mv}(h:m ∈ eU a s k):∃ q lk t,m = .Br k/\s.lanes[k]? = some lk/\lk.qs.head? = some q/\s.U[q.1.toNat]? = some t/\t.goal=(a.ps.getD k (0,0)).2:=by
 unfold eU at h
 cases hq:bY s k with
 | none=>rw[hq]at h;cases h
 | some q =>
  rw[hq]at h
  dsimp only at h
  cases ht:s.U[q.1.toNat]? with
  | none=>rw[ht]at h;cases h
  | some t =>
   rw[ht]at h
   dsimp only at h
   by_cases hg:t.goal=(a.ps.getD k (0,0)).2
   ·rw[if_pos hg]at h
    have hm:m = .Br k:=by simpa using h
    unfold bY at hq
    cases hk:s.lanes[k]? with
    | none=>rw[hk]at hq;cases hq
    | some lk=>rw[hk]at hq;exact⟨q,lk,t,hm,rfl,hq,ht,hg⟩
   ·rw[if_neg hg]at h;cases h
theorem jp {s:YS}{k:Nat}{m:Mv}(h:m ∈ cX s k):∃ lk,m = .back k/\s.lanes[k]? = some lk/\0 < lk.b:=by
 unfold cX at h
 cases hk:s.lanes[k]? with
 | none=>rw[hk]at h;cases h
 | some lk =>
  rw[hk]at h
  dsimp only at h
  by_cases hb:0 < lk.b
  ·rw[if_pos hb]at h;exact⟨lk,by simpa using h,rfl,hb⟩
  ·rw[if_neg hb]at h;cases h
theorem jP {a:YA}{s:YS}{m:Mv}(h:m ∈ cY a s):wM s m/\m ∈ pG a s m:=by
 unfold cY at h
 rw[mem_append,mem_append,mem_append]at h
 rcases h with ((h | h) | h) | h
 ·obtain⟨k,hk,h⟩:=mem_flatMap.mp h
  obtain⟨l,t,ln,rfl,_⟩:=nZ h
  exact⟨mem_range.mp hk,h⟩
 ·obtain⟨k,hk,h⟩:=mem_flatMap.mp h
  obtain⟨l,q,lk,ln,rfl,_⟩:=nY h
  exact⟨mem_range.mp hk,h⟩
 ·obtain⟨k,hk,h⟩:=mem_flatMap.mp h
  obtain⟨q,lk,t,rfl,_⟩:=kU h
  exact⟨mem_range.mp hk,h⟩
 ·obtain⟨k,hk,h⟩:=mem_flatMap.mp h
  obtain⟨lk,rfl,_⟩:=jp h
  exact⟨mem_range.mp hk,h⟩
noncomputable def uA:Mv->PyData
 | .Ag k l => .tuple [.str "in", .int k, .int l]
 | .on k l => .tuple [.str "on", .int k, .int l]
 | .Br k => .tuple [.str "lie", .int k]
 | .back k => .tuple [.str "back", .int k]
theorem gH {x:Str}(h:PyData.strOk x=true):Bc (.str x) 0:=⟨by simp[PyData.canLay0,h],by simp[PyData.depth]⟩
theorem kC (m:Mv):Bc (uA m) 1:=by
 cases m<;>refine c9 (m:=0) fun y hy=>?_<;>simp only[mem_cons,not_mem_nil,or_false]at hy
 ·rcases hy with rfl | rfl | rfl
  ·exact gH (by decide +kernel)
  ·exact bU _
  ·exact bU _
 ·rcases hy with rfl | rfl | rfl
  ·exact gH (by decide +kernel)
  ·exact bU _
  ·exact bU _
 ·rcases hy with rfl | rfl
  ·exact gH (by decide +kernel)
  ·exact bU _
 ·rcases hy with rfl | rfl
  ·exact gH (by decide +kernel)
  ·exact bU _
theorem uq {K:Frag}{H:Hp}{p:Addr}(m:Mv)(h:H p=some (.tup (eT m))):iQ K H (.ref p) (uA m):=by
 cases m<;>refine .tup (zc.of h) ?_
 ·exact .cons (.str _) (.cons (.int _) (.cons (.int _) .nil))
 ·exact .cons (.str _) (.cons (.int _) (.cons (.int _) .nil))
 ·exact .cons (.str _) (.cons (.int _) .nil)
 ·exact .cons (.str _) (.cons (.int _) .nil)
theorem lm {K:Frag}{H:Hp}:∀ {vs:List V}{ms:List Mv},Paired (Af H) vs (ms.map eT)->ik K H vs (ms.map uA)
 | [],[],_ => .nil
 | _ :: _,m :: ms, .cons ⟨t,e,h⟩ r=>by subst e;exact .cons (uq m h) (lm r)
 | [],_ :: _,h=>by cases h
 | _ :: _,[],h=>by cases h
theorem yO {m:Mv}{ms:List Mv}(h:m ∈ ms):((ms.map uA).any fun y=>PyData.eqv y (uA m))=true:=by
 rw[List.any_eq_true]
 exact⟨uA m,mem_map.mpr ⟨m,h,rfl⟩,SeqAt.eqv_refl _ (kC m).1⟩
noncomputable def Mp (K:Frag)(c:Cs)(TC:Addr)(J:TJ)(ys:Ys):Sp:=fun vs H Q _=>∃ (a:YA)(s:YS)(p:Addr)(m:Mv),vs=[.ref a.y, .ref p]/\D4 K c TC J ys H a s/\H p=some (.tup (eT m))/\m ∈ cY a s/\WT s /\
 ∀ (H':Hp)(s':YS),AQ a s m s'->zh a.four H H'->zT K ys H' a { s' with done:=s.done ++ [eT m] }->Q .zm H'
structure WU (P:Program)(w:World)(K:Frag)(mg:Str->Option Value)(base:Heap)(c:Cs)(TC:Addr)(J:TJ)(ys:Ys)(nm:Addr)(fk fg fe fp fb fy:Addr)(dk dg de dp db dy:FuncData):Prop where
 mk':b6 K ys.yZ "moves_like" fk
 bk:Binds K dk ["self", "move"] []
 Gk:yX P w K mg base aD 7 fk dk ["self", "move"] (rQ K c TC J ys)
 mg':b6 K ys.yZ "go_in" fg
 bg:Binds K dg ["self", "number", "lane"] []
 Gg:yX P w K mg base aD 6 fg dg ["self", "number", "lane"] (rX K ys)
 me:b6 K ys.yZ "enter" fe
 be:Binds K de ["self", "piece", "lane"] []
 Ge:yX P w K mg base aD 5 fe de ["self", "piece", "lane"] (kA K ys)
 mp:b6 K ys.zw "pull" fp
 bp:Binds K dp ["self"] []
 Gp:yX P w K mg base (eR P w) 1 fp dp ["self"] (nu ys.zw nm)
 mb:b6 K ys.zw "bring" fb
 bb:Binds K db ["self"] []
 Gb:yX P w K mg base (eR P w) 1 fb db ["self"] (oZ ys.zw nm)
 my:b6 K ys.yZ "lay" fy
 So:Binds K dy ["self", "piece", "place"] []
 Gy:yX P w K mg base aD 1 fy dy ["self", "piece", "place"] (wC K ys)
theorem Sr:ao ["self", "move"] ["self", "move"] (aj Rk):=L2.zy
theorem Mq {c:Cs}{ys:Ys}{J:TJ}{TC nm f fw fl ft fpu fk fg fe fp fb fy WV:Addr}{fd dw dl dt dpu dk dg de dp db dy den:FuncData}(F:zt K "do" "Yard.do" Rk f fd)(Y:i5 K ys)(L:ku K c)(W:Wy K TC fw dw J)(Ex:Le K mg nm)(O:Own P w K mg base ys nm fl ft fpu dl dt dpu)
  (D:WU P w K mg base c TC J ys nm fk fg fe fp fb fy dk dg de dp db dy) (Me:u8 K c WV den) (Gen:yX P w K mg base aD 1 WV den ["self", "lane"] (lD c Prod.snd)) :
  yX P w K mg base (eR P w) 8 f fd ["self", "move"] (Mp K c TC J ys):=by
 refine F.Ew Sr (fun vs H Q E h=>?_) (fun cdv A outer s H vs Q E hr h=>?_)
 ·obtain⟨a,s,p,m,rfl,_⟩:=h
  rfl
 ·obtain⟨a,st,p,m,rfl,hI,hp,hm,hS,q⟩:=h
  have hu:=hr.units
  have zL:zi 1 _:=hr.mono (by decide)
  have Cp:zi 4 _:=hr.mono (by decide)
  have Ji:zi 5 _:=hr.mono (by decide)
  have hr6:zi 6 _:=hr.mono (by decide)
  refine⟨_,af (aN (ax (qt hu) (pv 1) (aF (pv 0) Y.cl D.mk' D.Gk hr D.bk .nil aq (aa (pv 1) ad)) (by with_unfolding_all rfl)) (ak (b8 rfl Ex.x aP (ce Ex.x Ex.k rfl rfl Ex.m (aa aX ad)))) aE)
   (af (gQ (aN (ax bv (ap ar (pv 1) ah (fun _ _=>rfl)) aX (aB _))
    (ak (aR (aF (pv 0) Y.cl D.mg' D.Gg hr6 D.bg .nil aq (aa (ap ar (pv 1) ah (fun _ _=>rfl)) (aa (ap ar (pv 1) ah (fun _ _=>rfl)) ad)))))
    (ak (aN (ax bv (ap ar (pv 1) ah (fun _ _=>rfl)) aX (aB _))
     (ak (aR (aF (pv 0) Y.cl D.me D.Ge Ji D.be .nil aq (aa (b9 (aF (pv 0) Y.cl O.ml O.Gl Cp O.bl .nil aq (aa (ap ar (pv 1) ah (fun _ _=>rfl)) ad)) Y.L.cl D.mp D.Gp zL D.bp .nil (AV.passes aP rfl)) (aa (ap ar (pv 1) ah (fun _ _=>rfl)) ad)))))
     (ak (aN (ax bv (ap ar (pv 1) ah (fun _ _=>rfl)) aX (aB _))
      (ak (aR (aF (pv 0) Y.cl D.my D.Gy zL D.So .nil aq (aa (b9 (aF (pv 0) Y.cl O.ml O.Gl Cp O.bl .nil aq (aa (ap ar (pv 1) ah (fun _ _=>rfl)) ad)) Y.L.cl D.mp D.Gp zL D.bp .nil (AV.passes aP rfl)) (aa (aF (al (al (pv 0) rfl) rfl) L.cl Me.m Gen zL Me.b .nil aq (aa (ap ar (pv 1) ah (fun _ _=>rfl)) ad)) ad)))))
      (ak (aR (b9 (aF (pv 0) Y.cl O.ml O.Gl Cp O.bl .nil aq (aa (ap ar (pv 1) ah (fun _ _=>rfl)) ad)) Y.L.cl D.mb D.Gb zL D.bb .nil (AV.passes aP rfl))))))))))
   (ak (aR (cz plainAttrs_list PySem.F.slot_list_append PySem.F.type_list_append bG (al (pv 0) rfl) (aa (pv 1) ad))))),?_⟩
  obtain⟨ze,BG⟩:=jP hm
  refine⟨_,rfl,_,rfl,a.y,a.dy,_,rfl,hI.Y.ins,rfl,_,rfl,a,st,p,m,rfl,hI,hp,ze,fun Dl zG H1 s1 hDl gDl hpr=>?_⟩
  refine⟨Dl,zG,uA m,(pG a st m).map uA,rfl,uq m (s1 _ _ hp),zb.of gDl,lm hpr,(kC m).le (by decide),fun z hz=>by obtain⟨m',_,rfl⟩:=mem_map.mp hz;exact(kC m').le (by decide),_,rfl,?_⟩
  rw[yO BG]
  refine aI ?_
  have D5:=hI.same W s1
  have zC:=s1 _ _ hp
  have hY:=D5.Y
  refine⟨fun σ' H'=>σ' = start ["self", "move"] [.ref a.y, .ref p]/\∃ s',AQ a st m s'/\zh a.four H1 H'/\zT K ys H' a s',?_,?_⟩
  ·
   have Ef:∀ (k:Nat)(lk:bV)(pq:Int × Int),st.lanes[k]? = some lk->lk.qs.head? = some pq->∀ (lvs:List V),H1 a.la=some (.lst lvs)->∀ (x dx pa:Addr)(zf:List V)(H2:Hp),zh [a.la] H1 H2->H1 x=none->H1 pa=none->H2 a.la=some (.lst (lvs.set k (.ref x)))->zr H2 ys.zw x dx pa lk.r lk.b lk.h zf lk.qs ->
     ∀ (Q':VK)(E':XK),(∀ (v:V)(H3:Hp),wo H3 v pq->zh [a.la] H1 H3->zT K ys H3 a { st with lanes:=st.lanes.set k (bP lk) }->Q' v H3)->nu ys.zw nm [.ref x] H2 Q' E':=by
    intro k lk pq hk hq lvs zU x dx pa zf H2 o2 nx np g2 Bq Q' E' hQ
    refine⟨x,dx,pa,lk.r,lk.b,lk.h,zf,lk.qs,rfl,Bq,fun e0=>?_,fun v rest ev H3 o3 BO=>?_⟩
    ·exfalso
     have hl:=Paired.length Bq.Am
     rw[e0]at hl
     cases By:lk.qs with
     | nil=>rw[By]at hq;cases hq
     | cons _ _=>rw[By]at hl;cases hl
    ·have o4:zh [a.la] H1 H3:=fun b o nb e=>o3 b o (ag e nx) (ag e np) (o2 b o nb e)
     refine hQ v H3 ?_ o4 (zT.BS hY zU o4 (k:=k) (x:=x) (dx:=dx) (pa:=pa) (o3 _ _ (ag zU nx) (ag zU np) g2) (ln:=bP lk) BO np)
     have hz:=As.zO o3 Bq.ins Bq.lst Bq.Am
     rw[ev]at hz
     cases By:lk.qs with
     | nil=>rw[By]at hq;cases hq
     | cons q0 r0 =>
      rw[By]at hq hz
      cases hq
      cases hz with
      | cons z _=>exact z
   obtain⟨lvs,zU,DJ⟩:=hY.Au
   have p3:∀ {H3:Hp}{ex:List Addr}{xs:List V},H1 p=some (.tup xs)->zh ex H1 H3->(∀ b ∈ ex,b ∈ a.four)->H3 p=some (.tup xs):=fun h o he=>o _ _ (fun z=>by obtain⟨xs,hz⟩:=hY.Cr _ (he _ z);rw[h]at hz;cases hz) h
   cases m with
   | Ag k l =>
    have zC:H1 p=some (.tup [.str "in", .int k, .int l]):=zC
    obtain⟨l',t,ln,e0,ht,hg,hl,zB,ho⟩:=nZ (show Mv.Ag k l ∈ gS a st k from BG)
    cases e0
    refine⟨_,rfl,p,_,0,_,rfl,rfl,zc.of zC,ai (j:=0) rfl,rfl,_,rfl,?_⟩
    rw[fj]
    refine aK ⟨_,rfl,a.y,a.dy,_,rfl,hY.ins,rfl,_,rfl,p,_,1,_,rfl,rfl,zc.of zC,ai (j:=1) rfl,_,rfl,p,_,2,_,rfl,rfl,zc.of zC,ai (j:=2) rfl,a,st,k,l,t,ln,rfl,hY,ht,zB,ho,(hI.G.An k t ht).2,lt_of_le_of_lt (hS.q l ln zB) (by decide),fun H' o' HS=>⟨rfl,_,AQ.Ag ht hg hl zB ho,o'.mono (by simp),HS⟩⟩
   | on k l =>
    have zC:H1 p=some (.tup [.str "on", .int k, .int l]):=zC
    obtain⟨l',pq,lk,ln,e0,hk,hq,hl,zB,ho⟩:=nY (show Mv.on k l ∈ ir a st k from BG)
    cases e0
    obtain⟨m,t,em,ht,Ib⟩:=hI.G.Am k lk hk pq (mem_of_head? hq)
    obtain⟨m0,cq⟩:=pq
    have em:m0=(m:Int):=em
    subst em
    refine⟨_,rfl,p,_,0,_,rfl,rfl,zc.of zC,ai (j:=0) rfl,rfl,_,rfl,?_⟩
    rw[dG (by decide +kernel)]
    refine aI ⟨_,rfl,p,_,0,_,rfl,rfl,zc.of zC,ai (j:=0) rfl,rfl,_,rfl,?_⟩
    rw[fj]
    refine aK ⟨_,rfl,a.y,a.dy,_,rfl,hY.ins,rfl,_,rfl,a.y,a.dy,_,rfl,hY.ins,rfl,_,rfl,p,_,1,_,rfl,rfl,zc.of zC,ai (j:=1) rfl,a,st,k,lk,lvs,rfl,hY,hk,zU,fun x dx pa zf H2 o2 nx np g2 Bq=>⟨x,dx,_,rfl,Bq.ins,rfl,Ef k lk _ hk hq lvs zU x dx pa zf H2 o2 nx np g2 Bq _ _ fun v H3 hv o3 BF=>?_⟩⟩
    have Jc:=p3 zC o3 (by simp)
    have AO:k < st.lanes.length:=(List.getElem?_eq_some_iff.mp hk).1
    obtain⟨ln2,Fc,er,eh,eq⟩:∃ ln2,(st.lanes.set k (bP lk))[l]? = some ln2/\ln2.r=ln.r/\ln2.h=ln.h/\ln2.qs.length <= 10000:=by
     by_cases Eg:k=l
     ·subst Eg
      rw[hk]at zB
      cases zB
      refine⟨bP lk,by simp[AO],rfl,rfl,?_⟩
      have:=hS.q k lk hk
      show lk.qs.tail.length <= 10000
      rw[List.length_tail];omega
     ·exact⟨ln,by rw[List.getElem?_set_ne Eg];exact zB,rfl,rfl,hS.q l ln zB⟩
    have zS:cu ln2.r ln2.h m cq=true:=by rw[er,eh];exact ho
    refine⟨_,rfl,p,_,2,_,rfl,rfl,zc.of Jc,ai (j:=2) rfl,a,{ st with lanes:=st.lanes.set k (bP lk) },v,m,cq,l,t,ln2,rfl,BF,hv,ht,Fc,zS,(hI.G.An m t ht).2,lt_of_le_of_lt eq (by decide),fun H' o' HS=>⟨rfl,_,AQ.on hk hq ht hl Fc zS,(o3.mono (by simp)).trans (o'.mono (by simp)),HS⟩⟩
   | Br k =>
    have zC:H1 p=some (.tup [.str "lie", .int k]):=zC
    obtain⟨pq,lk,t0,e0,hk,hq,Ct,hg⟩:=kU (show Mv.Br k ∈ eU a st k from BG)
    obtain⟨m,t,em,ht,Ib⟩:=hI.G.Am k lk hk pq (mem_of_head? hq)
    obtain⟨m0,cq⟩:=pq
    have em:m0=(m:Int):=em
    subst em
    have Ct:st.U[m]? = some t0:=by rw[← Ct];rfl
    rw[ht]at Ct
    cases Ct
    have AO:k < st.lanes.length:=(List.getElem?_eq_some_iff.mp hk).1
    have E4:k < a.ps.length:=by rw[← hI.G.lanes];exact AO
    have he:=List.getElem?_eq_getElem E4
    have D6:a.ps.getD k (0,0)=a.ps[k]:=by rw[getD_eq_getElem?_getD,he];rfl
    obtain⟨e,ee,HZ⟩:=hI.O.ends k _ he
    rw[D6,ee]at hg
    have DK:e < st.lies.length:=by rw[hI.G.lies];exact HZ
    have By:=List.getElem?_eq_getElem DK
    refine⟨_,rfl,p,_,0,_,rfl,rfl,zc.of zC,ai (j:=0) rfl,rfl,_,rfl,?_⟩
    rw[dG (by decide +kernel)]
    refine aI ⟨_,rfl,p,_,0,_,rfl,rfl,zc.of zC,ai (j:=0) rfl,rfl,_,rfl,?_⟩
    rw[dG (by decide +kernel)]
    refine aI ⟨_,rfl,p,_,0,_,rfl,rfl,zc.of zC,ai (j:=0) rfl,rfl,_,rfl,?_⟩
    rw[fj]
    refine aK ⟨_,rfl,a.y,a.dy,_,rfl,hY.ins,rfl,_,rfl,a.y,a.dy,_,rfl,hY.ins,rfl,_,rfl,p,_,1,_,rfl,rfl,zc.of zC,ai (j:=1) rfl,a,st,k,lk,lvs,rfl,hY,hk,zU,fun x dx pa zf H2 o2 nx np g2 Bq=>⟨x,dx,_,rfl,Bq.ins,rfl,Ef k lk _ hk hq lvs zU x dx pa zf H2 o2 nx np g2 Bq _ _ fun v H3 hv o3 BF=>?_⟩⟩
    have Jc:=p3 zC o3 (by simp)
    have HC:uy c TC J H3 a:=zY.keep W D5.T (zh.zu (fun b hb=>by simp at hb;subst hb;exact⟨_,zU⟩) o3)
    obtain⟨BD,fst,B5,zF,AG⟩:=HC.i
    refine⟨_,rfl,a.y,ys.yZ,a.dy,_,_,rfl,BF.ins,Y.cl,Y.n1,rfl,a.tb,TC,BD,fst,_,rfl,B5,W.cl,W.nl,zF,a.lx,a.zx,_,rfl,HC.l.1,rfl,_,rfl,p,_,1,_,rfl,rfl,zc.of Jc,ai (j:=1) rfl,a.lx,a.zx,a.lt,(a.n:Int),a.zg,a.ps,k,_,rfl,HC.l,he,?_⟩
    rw[ee]
    exact⟨a,{ st with lanes:=st.lanes.set k (bP lk) },v,((m:Int),cq),e,_,rfl,BF,hv,By,le_trans (hS.l e _ By) (by decide),fun H' o' HS=>⟨rfl,_,AQ.Br hk hq ht hg (by rw[D6,ee]) By,(o3.mono (by simp)).trans (o'.mono (by simp)),HS⟩⟩
   | back k =>
    have zC:H1 p=some (.tup [.str "back", .int k]):=zC
    obtain⟨lk,e0,hk,hb⟩:=jp (show Mv.back k ∈ cX st k from BG)
    refine⟨_,rfl,p,_,0,_,rfl,rfl,zc.of zC,ai (j:=0) rfl,rfl,_,rfl,?_⟩
    rw[dG (by decide +kernel)]
    refine aI ⟨_,rfl,p,_,0,_,rfl,rfl,zc.of zC,ai (j:=0) rfl,rfl,_,rfl,?_⟩
    rw[dG (by decide +kernel)]
    refine aI ⟨_,rfl,p,_,0,_,rfl,rfl,zc.of zC,ai (j:=0) rfl,rfl,_,rfl,?_⟩
    rw[dG (by decide +kernel)]
    refine aI ⟨_,rfl,a.y,a.dy,_,rfl,hY.ins,rfl,_,rfl,p,_,1,_,rfl,rfl,zc.of zC,ai (j:=1) rfl,a,st,k,lk,lvs,rfl,hY,hk,zU,fun x dx pa zf H2 o2 nx np g2 Bq=>⟨x,dx,_,rfl,Bq.ins,rfl,x,dx,pa,lk.r,lk.b,lk.h,zf,lk.qs,rfl,Bq,(fun e0=>by rw[e0]at hb;exact absurd hb (by decide)),fun _ H3 o3 BO=>?_⟩⟩
    have o4:zh [a.la] H1 H3:=fun b o nb e=>o3 b o (ag e nx) (ag e np) (o2 b o nb e)
    exact⟨rfl,_,AQ.back hk hb,o4.mono (by simp),zT.BS hY zU o4 (k:=k) (x:=x) (dx:=dx) (pa:=pa) (o3 _ _ (ag zU nx) (ag zU np) g2) (ln:=wL lk) BO np⟩
  ·rintro σ' H2 ⟨rfl,s',hs,o2,B6⟩
   obtain⟨zJ,FX,pd⟩:=B6.B4
   have Ht:zJ.length=st.done.length:=by rw[Paired.length pd,hs.done]
   have K6:H2 p=some (.tup (eT m)):=o2 _ _ (fun z=>by obtain⟨xs,hz⟩:=hY.Cr _ z;rw[zC]at hz;cases hz) zC
   have hd:=hS.d
   refine⟨_,rfl,a.y,ys.yZ,a.dy,_,_,rfl,B6.ins,Y.cl,Y.n6,rfl, .inl ⟨rfl,_,zb.of FX⟩,_,rfl,a.dn,_,_,rfl,rfl,FX,by rw[sizeLine_eq];omega,?_⟩
   have BF:=B6.FU FX ⟨p,rfl,K6⟩
   rw[hs.done]at BF
   exact q _ s' hs ((yW.zE s1).trans (o2.trans (cj (by simp)))) BF
theorem eM {α:Type}{L:List α}{k j:Nat}{y z:α}(h:(L.set k y)[j]? = some z):(j=k/\z=y)∨(j ≠ k/\L[j]? = some z):=by
 by_cases e:k=j
 ·subst e
  rw[List.getElem?_set_self']at h
  cases hk:L[k]? with
  | none=>rw[hk]at h;cases h
  | some x=>rw[hk]at h;cases h;exact .inl ⟨rfl,rfl⟩
 ·rw[List.getElem?_set_ne e]at h
  exact .inr ⟨Ne.symm e,h⟩
theorem iF {α:Type}{L:List α}{k:Nat}{x y:α}(h:L[k]? = some x):(L.set k y)[k]? = some y:=by
 have:=(List.getElem?_eq_some_iff.mp h).1
 simp[this]
theorem eY {α:Type}(f:α->Nat):∀ {L:List α}{k:Nat}{x y:α},L[k]? = some x->((L.set k y).map f).sum + f x=(L.map f).sum + f y
 | [],_,_,_,h=>by cases h
 | z :: L,0,x,y,h=>by cases h;simp only[List.set_cons_zero,map_cons,sum_cons];omega
 | z :: L,k + 1,x,y,h=>by
  have:=eY f (L:=L) (k:=k) (x:=x) (y:=y) h
  simp only[List.set_cons_succ,map_cons,sum_cons];omega
theorem iX {α:Type}(f:α->Int):∀ {L:List α}{k:Nat}{x y:α},L[k]? = some x->((L.set k y).map f).sum + f x=(L.map f).sum + f y
 | [],_,_,_,h=>by cases h
 | z :: L,0,x,y,h=>by cases h;simp only[List.set_cons_zero,map_cons,sum_cons];omega
 | z :: L,k + 1,x,y,h=>by
  have:=iX f (L:=L) (k:=k) (x:=x) (y:=y) h
  simp only[List.set_cons_succ,map_cons,sum_cons];omega
noncomputable def mE (a:YA)(l:Nat):Int:=(a.ps.getD l (0,0)).2
noncomputable def j9 (s:YS):Nat:=(s.lanes.map fun ln=>ln.qs.length).sum
noncomputable def iY (s:YS):Nat:=(s.lies.map fun qs=>qs.length).sum
noncomputable def iB (s:YS):Int:=(s.U.map fun t=>t.gone).sum
structure OX (a:YA)(s:YS)(m:Nat)(c:Int):Prop where
 lanes:s.lanes.length=a.ps.length
 lies:s.lies.length=a.n
 zX:s.U.length <= 60
 Eh:a.ps.length <= 40
 lets:∀ (m:Nat)(t:ci),s.U[m]? = some t->∃ x y:Nat,t.start=(x:Int)/\t.goal=(y:Int)/\x < a.n/\y < a.n
 An:∀ (m:Nat)(t:ci),s.U[m]? = some t->(∀ l ∈ t.way,l < a.ps.length)/\t.way.Nodup
 Am:∀ (k:Nat)(ln:bV),s.lanes[k]? = some ln->∀ q ∈ ln.qs,∃ (m:Nat)(t:ci),q.1=(m:Int)/\s.U[m]? = some t/\k ∈ t.way
 B7:∀ (m:Nat)(t:ci),s.U[m]? = some t->0 <= t.gone/\t.gone <= t.len/\t.len <= 60
 Aw:∀ (m':Nat)(t:ci),s.U[m']? = some t->t.gone=0->t.way=[]/\m' ≠ m
 last:∀ (m:Nat)(t:ci),s.U[m]? = some t->∀ (i l:Nat),t.way[i]? = some l->mE a l=t.goal->i + 1=t.way.length
 head:∀ (m':Nat)(t:ci),s.U[m']? = some t->∀ (l:Nat)(ln:bV),t.way.getLast? = some l->s.lanes[l]? = some ln->(m' = m/\c=0)∨((m':Int),(0:Int)) ∈ ln.qs∨mE a l=t.goal
 first:∀ (k:Nat)(ln:bV),s.lanes[k]? = some ln->∀ (i j:Nat)(z:Int)(q:Int × Int),ln.qs[i]? = some (z,0)->j < i->ln.qs[j]? = some q->q.1 ≠ z
 Ei:∀ (k:Nat)(ln:bV),s.lanes[k]? = some ln->∀ (m':Nat)(t:ci),((m':Int),(0:Int)) ∈ ln.qs->s.U[m']? = some t->t.way.getLast? = some k
 gone:c=0->∀ (k:Nat)(ln:bV),s.lanes[k]? = some ln->((m:Int),(0:Int)) ∉ ln.qs
 sum:(j9 s:Int) + (iY s:Int) + 1=iB s
structure AX (a:YA)(s:YS):Prop where
 lanes:s.lanes.length=a.ps.length
 lies:s.lies.length=a.n
 zX:s.U.length <= 60
 Eh:a.ps.length <= 40
 lets:∀ (m:Nat)(t:ci),s.U[m]? = some t->∃ x y:Nat,t.start=(x:Int)/\t.goal=(y:Int)/\x < a.n/\y < a.n
 An:∀ (m:Nat)(t:ci),s.U[m]? = some t->(∀ l ∈ t.way,l < a.ps.length)/\t.way.Nodup
 Am:∀ (k:Nat)(ln:bV),s.lanes[k]? = some ln->∀ q ∈ ln.qs,∃ (m:Nat)(t:ci),q.1=(m:Int)/\s.U[m]? = some t/\k ∈ t.way
 B7:∀ (m:Nat)(t:ci),s.U[m]? = some t->0 <= t.gone/\t.gone <= t.len/\t.len <= 60
 Aw:∀ (m':Nat)(t:ci),s.U[m']? = some t->t.gone=0->t.way=[]
 last:∀ (m:Nat)(t:ci),s.U[m]? = some t->∀ (i l:Nat),t.way[i]? = some l->mE a l=t.goal->i + 1=t.way.length
 head:∀ (m':Nat)(t:ci),s.U[m']? = some t->∀ (l:Nat)(ln:bV),t.way.getLast? = some l->s.lanes[l]? = some ln->((m':Int),(0:Int)) ∈ ln.qs∨mE a l=t.goal
 first:∀ (k:Nat)(ln:bV),s.lanes[k]? = some ln->∀ (i j:Nat)(z:Int)(q:Int × Int),ln.qs[i]? = some (z,0)->j < i->ln.qs[j]? = some q->q.1 ≠ z
 Ei:∀ (k:Nat)(ln:bV),s.lanes[k]? = some ln->∀ (m':Nat)(t:ci),((m':Int),(0:Int)) ∈ ln.qs->s.U[m']? = some t->t.way.getLast? = some k
 sum:(j9 s:Int) + (iY s:Int)=iB s
theorem dW:∀ (n:Nat)(l:List Nat),l.Nodup->(∀ x ∈ l,x < n)->l.length <= n
 | 0,l,_,h=>by
  cases l with
  | nil=>exact le_refl _
  | cons x _=>exact absurd (h x mem_cons_self) (by omega)
 | n + 1,l,hn,h=>by
  have h1:=dW n (l.filter fun x=>decide (x ≠ n)) (hn.filter _) fun x hx=>by
   obtain⟨a,b⟩:=mem_filter.mp hx
   have:=h x a
   have:=of_decide_eq_true b
   omega
  have h2:l.length <= (l.filter fun x=>decide (x ≠ n)).length + 1:=by
   clear h1 h
   induction l with
   | nil=>exact zero_le _
   | cons x l ih =>
    rw[nodup_cons]at hn
    by_cases e:x=n
    ·subst e
     have:(l.filter fun y=>decide (y ≠ x))=l:=List.filter_eq_self.mpr fun y hy=>decide_eq_true fun z=>hn.1 (z ▸ hy)
     rw[List.filter_cons_of_neg (by simp),this]
     exact le_refl _
    ·rw[List.filter_cons_of_pos (by simpa using e)]
     have:=ih hn.2
     simp only[length_cons]
     omega
  omega
theorem AX.ok {a:YA}{s:YS}(h:AX a s):RP a s:=⟨h.lanes,h.lies,h.lets,fun m t ht=>⟨(h.An m t ht).1,by have:=dW _ _ (h.An m t ht).2 (h.An m t ht).1;have:=h.Eh;omega⟩,h.Am,h.zX⟩
theorem tV {α:Type}{x:α}{l:List α}(h:x ∈ l.tail):x ∈ l:=List.mem_of_mem_tail h
theorem jv {α:Type}{l:List α}{x:α}(h:l.head? = some x):l[0]? = some x:=by cases l with
 | nil=>cases h
 | cons y r=>exact h
theorem kW {α:Type}{l:List α}{x:α}(h:x ∈ l):∃ i:Nat,l[i]? = some x:=by
 obtain⟨i,hi,e⟩:=List.getElem_of_mem h
 exact⟨i,by rw[List.getElem?_eq_getElem hi,e]⟩
theorem l5 {α:Type}(l:List α)(i:Nat):l.tail[i]? = l[i + 1]?:=by cases l with
 | nil=>simp
 | cons y r=>rfl
theorem m5 {a:YA}{s:YS}{k m:Nat}{c:Int}{lk:bV}(J:AX a s)(hk:s.lanes[k]? = some lk)(hq:lk.qs.head? = some ((m:Int),c)):OX a { s with lanes:=s.lanes.set k (bP lk) } m c:=by
 have h0:=jv hq
 have Ag:∀ (j:Nat)(Ar:bV),(s.lanes.set k (bP lk))[j]? = some Ar->∃ ln,s.lanes[j]? = some ln/\(∀ q ∈ Ar.qs,q ∈ ln.qs)/\∃ d,(∀ i,Ar.qs[i]? = ln.qs[i + d]?)/\(Ar.qs=ln.qs∨(j=k/\ln=lk/\Ar.qs=lk.qs.tail)):=fun j Ar h=>by
  rcases eM h with ⟨rfl,rfl⟩ | ⟨ne,h⟩
  ·exact⟨lk,hk,fun q hq=>tV hq,1,fun i=>l5 _ i, .inr ⟨rfl,rfl,rfl⟩⟩
  ·exact⟨Ar,h,fun q hq=>hq,0,fun i=>rfl, .inl rfl⟩
 have keep:∀ (j:Nat)(ln:bV),s.lanes[j]? = some ln->∃ Ar,(s.lanes.set k (bP lk))[j]? = some Ar/\∀ q ∈ ln.qs,q=((m:Int),c)∨q ∈ Ar.qs:=fun j ln h=>by
  by_cases e:j=k
  ·subst e
   rw[hk]at h
   cases h
   refine⟨bP lk,iF hk,fun q AB=>?_⟩
   show _∨q ∈ lk.qs.tail
   cases hl:lk.qs with
   | nil=>rw[hl]at hq;cases hq
   | cons z r =>
    rw[hl]at hq AB
    cases hq
    exact(mem_cons.mp AB).imp id id
  ·exact⟨ln,by rw[List.getElem?_set_ne (Ne.symm e)];exact h,fun q hq => .inr hq⟩
 refine⟨by rw[← J.lanes];simp,J.lies,J.zX,J.Eh,J.lets,J.An,?_,J.B7,?_,J.last,?_,?_,?_,?_,?_⟩
 ·intro j Ar h q AB
  obtain⟨ln,hj,h1,_⟩:=Ag j Ar h
  exact J.Am j ln hj q (h1 q AB)
 ·intro m' t ht hg
  refine⟨J.Aw m' t ht hg,fun e=>?_⟩
  subst e
  obtain⟨m2,t2,e2,Mr,OY⟩:=J.Am k lk hk _ (mem_of_head? hq)
  have:m' = m2:=by have:(m':Int)=(m2:Int):=e2;omega
  subst this
  rw[ht]at Mr
  cases Mr
  rw[J.Aw m' t ht hg]at OY
  cases OY
 ·intro m' t ht l Ar hl Bs
  obtain⟨ln,hj,h1,_⟩:=Ag l Ar Bs
  rcases J.head m' t ht l ln hl hj with h | h
  ·obtain⟨ln2,h2,h3⟩:=keep l ln hj
   have h2:{ s with lanes:=s.lanes.set k (bP lk) }.lanes[l]? = some ln2:=h2
   rw[Bs]at h2
   cases h2
   rcases h3 _ h with e | h
   ·injection e with e1 e2
    exact .inl ⟨by omega,e2.symm⟩
   ·exact .inr (.inl h)
  ·exact .inr (.inr h)
 ·intro j Ar h i i' z q hi zR AB
  obtain⟨ln,hj,_,d,h2,_⟩:=Ag j Ar h
  rw[h2]at hi AB
  exact J.first j ln hj (i + d) (i' + d) z q hi (by omega) AB
 ·intro j Ar h m' t Ez ht
  obtain⟨ln,hj,h1,_⟩:=Ag j Ar h
  exact J.Ei j ln hj m' t (h1 _ Ez) ht
 ·intro e0 j Ar h Ez
  subst e0
  obtain⟨ln,hj,h1,d,h2,h3⟩:=Ag j Ar h
  obtain⟨m2,t2,e2,Mr,_⟩:=J.Am k lk hk _ (mem_of_head? hq)
  have:m=m2:=by have:(m:Int)=(m2:Int):=e2;omega
  subst this
  have b1:=J.Ei k lk hk m t2 (mem_of_head? hq) Mr
  have b2:=J.Ei j ln hj m t2 (h1 _ Ez) Mr
  rw[b1]at b2
  have b2:=Option.some.inj b2
  subst b2
  rcases eM h with ⟨_,rfl⟩ | ⟨ne,_⟩
  ·obtain⟨i,hi⟩:=kW Ez
   have hi:lk.qs.tail[i]? = some ((m:Int),0):=hi
   rw[l5]at hi
   exact J.first k lk hk (i + 1) 0 _ _ hi (by omega) h0 rfl
  ·exact ne rfl
 ·have:=eY (fun ln:bV=>ln.qs.length) (y:=bP lk) hk
  have hl:(bP lk).qs.length + 1=lk.qs.length:=by
   show lk.qs.tail.length + 1=_
   cases hl:lk.qs with
   | nil=>rw[hl]at hq;cases hq
   | cons _ _=>rfl
  have h1:=J.sum
  unfold j9 at h1 ⊢
  show((((s.lanes.set k (bP lk)).map fun ln=>ln.qs.length).sum:Nat):Int) + (iY s:Int) + 1=iB s
  omega
theorem tU {a:YA}{s:YS}{k:Nat}{t:ci}(J:AX a s)(ht:s.U[k]? = some t)(hg:t.gone ≠ t.len):OX a (el s k t) k t.gone:=by
 have g0:=J.B7 k t ht
 have lk:∀ (m:Nat)(t':ci),(s.U.set k { t with gone:=t.gone + 1 })[m]? = some t'->∃ t0,s.U[m]? = some t0/\t'.start=t0.start/\t'.goal=t0.goal/\t'.way=t0.way/\t'.len=t0.len/\((m=k/\t'.gone=t.gone + 1)∨(m ≠ k/\t'.gone=t0.gone)):=fun m t' h=>by
  rcases eM h with ⟨rfl,rfl⟩ | ⟨ne,h⟩
  ·exact⟨t,ht,rfl,rfl,rfl,rfl, .inl ⟨rfl,rfl⟩⟩
  ·exact⟨t',h,rfl,rfl,rfl,rfl, .inr ⟨ne,rfl⟩⟩
 refine⟨J.lanes,J.lies,by show(s.U.set _ _).length <= 60;rw[length_set];exact J.zX,J.Eh,?_,?_,?_,?_,?_,?_,?_,J.first,?_,?_,?_⟩
 ·intro m t' h
  obtain⟨t0,h0,e1,e2,_⟩:=lk m t' h
  rw[e1,e2];exact J.lets m t0 h0
 ·intro m t' h
  obtain⟨t0,h0,e1,e2,e3,_⟩:=lk m t' h
  rw[e3];exact J.An m t0 h0
 ·intro j ln h q hq
  obtain⟨m,t0,e,h0,hj⟩:=J.Am j ln h q hq
  by_cases em:m=k
  ·subst em
   rw[ht]at h0
   cases h0
   exact⟨m,_,e,iF ht,hj⟩
  ·exact⟨m,t0,e,by show(s.U.set _ _)[m]? = _;rw[List.getElem?_set_ne (Ne.symm em)];exact h0,hj⟩
 ·intro m t' h
  obtain⟨t0,h0,e1,e2,e3,e4,e5⟩:=lk m t' h
  have:=J.B7 m t0 h0
  rcases e5 with ⟨rfl,e5⟩ | ⟨_,e5⟩
  ·rw[ht]at h0
   cases h0
   rw[e4,e5];omega
  ·rw[e4,e5];exact this
 ·intro m t' h hz
  obtain⟨t0,h0,e1,e2,e3,e4,e5⟩:=lk m t' h
  rcases e5 with ⟨rfl,e5⟩ | ⟨ne,e5⟩
  ·omega
  ·rw[e3];exact⟨J.Aw m t0 h0 (by omega),ne⟩
 ·intro m t' h i l hi hl
  obtain⟨t0,h0,e1,e2,e3,e4,e5⟩:=lk m t' h
  rw[e3]at hi ⊢
  rw[e2]at hl
  exact J.last m t0 h0 i l hi hl
 ·intro m t' h l ln hl zB
  obtain⟨t0,h0,e1,e2,e3,e4,e5⟩:=lk m t' h
  rw[e3]at hl
  rw[e2]
  exact .inr (J.head m t0 h0 l ln hl zB)
 ·intro j ln h m t' hm h'
  obtain⟨t0,h0,e1,e2,e3,e4,e5⟩:=lk m t' h'
  rw[e3]
  exact J.Ei j ln h m t0 hm h0
 ·intro e0 j ln h hm
  obtain⟨m,t0,e,h0,hj⟩:=J.Am j ln h _ hm
  have:k=m:=by have:(k:Int)=(m:Int):=e;omega
  subst this
  rw[ht]at h0
  cases h0
  rw[J.Aw k t ht e0]at hj
  cases hj
 ·have:=iX (fun t:ci=>t.gone) (y:={ t with gone:=t.gone + 1 }) ht
  have h1:=J.sum
  unfold iB at h1 ⊢
  show (j9 s:Int) + (iY s:Int) + 1=((s.U.set k { t with gone:=t.gone + 1 }).map fun t=>t.gone).sum
  have:({ t with gone:=t.gone + 1 }:ci).gone=t.gone + 1:=rfl
  omega
theorem tZ {l:List Nat}{x:Nat}(h:l.getLast? = some x):l[l.length - 1]? = some x:=by rw[← h,List.getLast?_eq_getElem?]
theorem jO {a:YA}{s:YS}{m l:Nat}{c:Int}{t:ci}{ln:bV}(M:OX a s m c)(ht:s.U[m]? = some t)(zB:s.lanes[l]? = some ln)(h0:c=0->l ∉ t.way/\∀ x ∈ t.way,mE a x ≠ t.goal)(h1:c ≠ 0->l ∈ t.way):AX a (dz s m c l t ln):=by
 have DH:l < a.ps.length:=by rw[← M.lanes];exact(List.getElem?_eq_some_iff.mp zB).1
 have lk:∀ (m':Nat)(t':ci),(dz s m c l t ln).U[m']? = some t'->∃ t0,s.U[m']? = some t0/\t'.start=t0.start/\t'.goal=t0.goal/\t'.len=t0.len/\t'.gone=t0.gone/\((c=0/\m' = m/\t0=t/\t'.way=t.way ++ [l])∨(¬ (c=0/\m' = m)/\t'.way=t0.way)):=fun m' t' h=>by
  have h:(if c=0 then s.U.set m { t with way:=t.way ++ [l] } else s.U)[m']? = some t':=h
  by_cases hc:c=0
  ·rw[if_pos hc]at h
   rcases eM h with ⟨rfl,rfl⟩ | ⟨ne,h⟩
   ·exact⟨t,ht,rfl,rfl,rfl,rfl, .inl ⟨hc,rfl,rfl,rfl⟩⟩
   ·exact⟨t',h,rfl,rfl,rfl,rfl, .inr ⟨fun z=>ne z.2,rfl⟩⟩
  ·rw[if_neg hc]at h
   exact⟨t',h,rfl,rfl,rfl,rfl, .inr ⟨fun z=>hc z.1,rfl⟩⟩
 have WW:∀ (m':Nat)(t0:ci),s.U[m']? = some t0->∃ t',(dz s m c l t ln).U[m']? = some t'/\(∀ x ∈ t0.way,x ∈ t'.way)/\(m' = m->l ∈ t'.way):=fun m' t0 h=>by
  by_cases hc:c=0
  ·by_cases e:m' = m
   ·subst e
    rw[ht]at h
    cases h
    refine⟨{ t with way:=t.way ++ [l] },by show(if c=0 then s.U.set m' { t with way:=t.way ++ [l] } else s.U)[m']? = _;rw[if_pos hc];exact iF ht,fun x hx=>mem_append_left _ hx,fun _=>by show l ∈ t.way ++ [l];simp⟩
   ·exact⟨t0,by show(if c=0 then s.U.set m { t with way:=t.way ++ [l] } else s.U)[m']? = _;rw[if_pos hc,List.getElem?_set_ne (Ne.symm e)];exact h,fun x hx=>hx,fun z=>absurd z e⟩
  ·refine⟨t0,by show(if c=0 then s.U.set m { t with way:=t.way ++ [l] } else s.U)[m']? = _;rw[if_neg hc];exact h,fun x hx=>hx,fun z=>?_⟩
   subst z
   rw[ht]at h
   cases h
   exact h1 hc
 have Ar:∀ (j:Nat)(l':bV),(dz s m c l t ln).lanes[j]? = some l'->(j=l/\l'.qs=ln.qs ++ [((m:Int),c)])∨(j ≠ l/\s.lanes[j]? = some l'):=fun j l' h=>by
  rcases eM h with ⟨rfl,rfl⟩ | ⟨ne,h⟩
  ·exact .inl ⟨rfl,rfl⟩
  ·exact .inr ⟨ne,h⟩
 have old:∀ (j:Nat)(l':bV),(dz s m c l t ln).lanes[j]? = some l'->∀ q ∈ l'.qs,(j=l/\q=((m:Int),c))∨∃ l0,s.lanes[j]? = some l0/\q ∈ l0.qs:=fun j l' h q hq=>by
  rcases Ar j l' h with ⟨rfl,e⟩ | ⟨ne,h⟩
  ·rw[e,mem_append]at hq
   rcases hq with hq | hq
   ·exact .inr ⟨ln,zB,hq⟩
   ·exact .inl ⟨rfl,by simpa using hq⟩
  ·exact .inr ⟨l',h,hq⟩
 refine⟨by rw[← M.lanes];show(s.lanes.set _ _).length=_;simp,M.lies,?_,M.Eh,?_,?_,?_,?_,?_,?_,?_,?_,?_,?_⟩
 ·show(if c=0 then s.U.set m { t with way:=t.way ++ [l] } else s.U).length <= 60
  by_cases hc:c=0
  ·rw[if_pos hc,length_set];exact M.zX
  ·rw[if_neg hc];exact M.zX
 ·intro m' t' h
  obtain⟨t0,h2,e1,e2,_⟩:=lk m' t' h
  rw[e1,e2];exact M.lets m' t0 h2
 ·intro m' t' h
  obtain⟨t0,h2,_,_,_,_,e⟩:=lk m' t' h
  obtain⟨w1,w2⟩:=M.An m' t0 h2
  rcases e with ⟨hc,rfl,rfl,e⟩ | ⟨_,e⟩
  ·rw[e]
   refine⟨fun x hx=>?_,?_⟩
   ·rcases mem_append.mp hx with hx | hx
    ·exact w1 x hx
    ·rw[mem_singleton.mp hx];exact DH
   ·rw[List.nodup_append]
    exact⟨w2,by simp,fun x hx y hy=>by rw[mem_singleton.mp hy];exact fun z=>(h0 hc).1 (z ▸ hx)⟩
  ·rw[e];exact⟨w1,w2⟩
 ·intro j l' h q hq
  rcases old j l' h q hq with ⟨rfl,rfl⟩ | ⟨l0,h2,hq⟩
  ·obtain⟨t',h3,_,h4⟩:=WW m t ht
   exact⟨m,t',rfl,h3,h4 rfl⟩
  ·obtain⟨m',t0,e,h3,hj⟩:=M.Am j l0 h2 q hq
   obtain⟨t',h4,h5,_⟩:=WW m' t0 h3
   exact⟨m',t',e,h4,h5 j hj⟩
 ·intro m' t' h
  obtain⟨t0,h2,_,_,e3,e4,_⟩:=lk m' t' h
  rw[e3,e4];exact M.B7 m' t0 h2
 ·intro m' t' h hz
  obtain⟨t0,h2,_,_,_,e4,e⟩:=lk m' t' h
  rw[e4]at hz
  obtain⟨w1,w2⟩:=M.Aw m' t0 h2 hz
  rcases e with ⟨hc,rfl,_⟩ | ⟨_,e⟩
  ·exact absurd rfl w2
  ·rw[e];exact w1
 ·intro m' t' h i x hi hx
  obtain⟨t0,h2,_,e2,_,_,e⟩:=lk m' t' h
  rw[e2]at hx
  rcases e with ⟨hc,rfl,rfl,e⟩ | ⟨_,e⟩
  ·rw[e]at hi ⊢
   by_cases zR:i < t0.way.length
   ·rw[List.getElem?_append_left zR]at hi
    exact absurd hx ((h0 hc).2 x (mem_of_getElem? hi))
   ·have:=(List.getElem?_eq_some_iff.mp hi).1
    rw[length_append,length_singleton]at this ⊢
    omega
  ·rw[e]at hi ⊢
   exact M.last m' t0 h2 i x hi hx
 ·intro m' t' h x l' hx DD
  obtain⟨t0,h2,_,e2,_,_,e⟩:=lk m' t' h
  rcases e with ⟨hc,rfl,rfl,e⟩ | ⟨ne,e⟩
  ·rw[e]at hx
   have hx:l=x:=by simpa using hx
   subst hx
   rcases Ar l l' DD with ⟨_,e'⟩ | ⟨ne,_⟩
   ·left
    rw[e',hc];simp
   ·exact absurd rfl ne
  ·rw[e]at hx
   rcases Ar x l' DD with ⟨rfl,e'⟩ | ⟨ne',h'⟩
   ·rcases M.head m' t0 h2 x ln hx zB with z | z | z
    ·exact absurd ⟨z.2,z.1⟩ ne
    ·exact .inl (by rw[e'];exact mem_append_left _ z)
    ·rw[e2];exact .inr z
   ·rcases M.head m' t0 h2 x l' hx h' with z | z | z
    ·exact absurd ⟨z.2,z.1⟩ ne
    ·exact .inl z
    ·rw[e2];exact .inr z
 ·intro j l' h i i' z q hi zR hq
  rcases Ar j l' h with ⟨rfl,e⟩ | ⟨_,h'⟩
  ·rw[e]at hi hq
   by_cases Et:i < ln.qs.length
   ·rw[List.getElem?_append_left Et]at hi
    rw[List.getElem?_append_left (by omega)]at hq
    exact M.first j ln zB i i' z q hi zR hq
   ·have h3:=(List.getElem?_eq_some_iff.mp hi).1
    rw[length_append,length_singleton]at h3
    have ei:i=ln.qs.length:=by omega
    subst ei
    rw[List.getElem?_concat_length]at hi
    have hi:=Option.some.inj hi
    injection hi with e1 e2
    subst e1
    rw[List.getElem?_append_left zR]at hq
    intro ez
    obtain⟨m',t0,e3,h4,h5⟩:=M.Am j ln zB q (mem_of_getElem? hq)
    have em0:(m':Int)=(m:Int):=by rw[← e3];exact ez
    have:m=m':=by omega
    subst this
    rw[ht]at h4
    cases h4
    exact(h0 e2).1 h5
  ·exact M.first j l' h' i i' z q hi zR hq
 ·intro j l' h m' t' hm h'
  obtain⟨t0,h2,_,_,_,_,e⟩:=lk m' t' h'
  rcases old j l' h _ hm with ⟨rfl,e'⟩ | ⟨l0,h3,hm⟩
  ·injection e' with e1 e2
   have em:m' = m:=by omega
   subst em
   rcases e with ⟨_,_,_,e⟩ | ⟨ne,_⟩
   ·rw[e];simp
   ·exact absurd ⟨e2.symm,rfl⟩ ne
  ·rcases e with ⟨hc,rfl,rfl,e⟩ | ⟨ne,e⟩
   ·exact absurd hm (M.gone hc j l0 h3)
   ·rw[e];exact M.Ei j l0 h3 m' t0 hm h2
 ·have q1:=eY (fun ln:bV=>ln.qs.length) (y:=fK ln m c t.len) zB
  have q2:(fK ln m c t.len).qs.length=ln.qs.length + 1:=by show(ln.qs ++ [_]).length=_;simp
  have q3:iB (dz s m c l t ln)=iB s:=by
   unfold iB
   show((if c=0 then s.U.set m { t with way:=t.way ++ [l] } else s.U).map fun t=>t.gone).sum=_
   by_cases hc:c=0
   ·rw[if_pos hc]
    have:=iX (fun t:ci=>t.gone) (y:={ t with way:=t.way ++ [l] }) ht
    have e:({ t with way:=t.way ++ [l] }:ci).gone=t.gone:=rfl
    omega
   ·rw[if_neg hc]
  have h2:=M.sum
  rw[q3]
  unfold j9 at h2 ⊢
  show((((s.lanes.set l (fK ln m c t.len)).map fun ln=>ln.qs.length).sum:Nat):Int) + (iY s:Int)=iB s
  omega
theorem vJ {a:YA}{s:YS}{m e:Nat}{c:Int}{t:ci}{qs:List (Int × Int)}(M:OX a s m c)(ht:s.U[m]? = some t)(By:s.lies[e]? = some qs)(h0:c=0->∀ x,t.way.getLast? = some x->mE a x=t.goal):AX a { s with lies:=s.lies.set e (qs ++ [((m:Int),c)]) }:=by
 refine⟨M.lanes,by show(s.lies.set _ _).length=_;rw[length_set];exact M.lies,M.zX,M.Eh,M.lets,M.An,M.Am,M.B7,fun m' t' h z=>(M.Aw m' t' h z).1,M.last,?_,M.first,M.Ei,?_⟩
 ·intro m' t' h x l' hx DD
  rcases M.head m' t' h x l' hx DD with ⟨rfl,hc⟩ | z | z
  ·have h:s.U[m']? = some t':=h
   rw[ht]at h
   cases h
   exact .inr (h0 hc x hx)
  ·exact .inl z
  ·exact .inr z
 ·have:=eY (fun qs:List (Int × Int)=>qs.length) (y:=qs ++ [((m:Int),c)]) By
  have h2:=M.sum
  unfold iY at h2 ⊢
  show (j9 s:Int) + ((((s.lies.set e (qs ++ [((m:Int),c)])).map fun qs=>qs.length).sum:Nat):Int)=iB s
  rw[length_append,length_singleton]at this
  omega
theorem AX.back {a:YA}{s:YS}{k:Nat}{lk Ie:bV}(J:AX a s)(hk:s.lanes[k]? = some lk)(e:Ie.qs=lk.qs):AX a { s with lanes:=s.lanes.set k Ie }:=by
 have Ag:∀ (j:Nat)(l':bV),(s.lanes.set k Ie)[j]? = some l'->∃ l0,s.lanes[j]? = some l0/\l'.qs=l0.qs:=fun j l' h=>by
  rcases eM h with ⟨rfl,rfl⟩ | ⟨_,h⟩
  ·exact⟨lk,hk,e⟩
  ·exact⟨l',h,rfl⟩
 refine⟨by rw[← J.lanes];simp,J.lies,J.zX,J.Eh,J.lets,J.An,?_,J.B7,J.Aw,J.last,?_,?_,?_,?_⟩
 ·intro j l' h q hq
  obtain⟨l0,h0,e0⟩:=Ag j l' h
  rw[e0]at hq
  exact J.Am j l0 h0 q hq
 ·intro m t ht x l' hx DD
  obtain⟨l0,h0,e0⟩:=Ag x l' DD
  rw[e0]
  exact J.head m t ht x l0 hx h0
 ·intro j l' h
  obtain⟨l0,h0,e0⟩:=Ag j l' h
  rw[e0]
  exact J.first j l0 h0
 ·intro j l' h
  obtain⟨l0,h0,e0⟩:=Ag j l' h
  rw[e0]
  exact J.Ei j l0 h0
 ·have:=eY (fun ln:bV=>ln.qs.length) (y:=Ie) hk
  have h1:=J.sum
  have e':=congrArg List.length e
  unfold j9 at h1 ⊢
  show((((s.lanes.set k Ie).map fun ln=>ln.qs.length).sum:Nat):Int) + (iY s:Int)=iB s
  omega
theorem AX.step {a:YA}{s s':YS}{m:Mv}(J:AX a s)(h:AQ a s m s'):AX a s':=by
 cases h with
 | @Ag k l t ln ht hg hl zB ho =>
  have M:=tU J ht hg
  refine jO (t:={ t with gone:=t.gone + 1 }) M (iF ht) zB (fun hc=>?_) (fun hc=>?_)
  ·have hw:=J.Aw k t ht hc
   show l ∉ t.way/\∀ x ∈ t.way,mE a x ≠ t.goal
   rw[hw]
   exact⟨by simp,by simp⟩
  ·unfold dj at hl
   rw[if_neg hc]at hl
   exact mem_of_mem_take hl
 | @on k l m c lk ln t hk hq ht hl zB ho =>
  have M:=m5 J hk hq
  have hw:dA a s k=if c=0 then (rh a k t.goal.toNat).filter (fun l=>!decide (l ∈ t.way)) else (t.way.drop (t.way.idxOf k + 1)).take 1:=by
   unfold dA bY
   rw[hk]
   dsimp only
   rw[hq]
   dsimp only
   rw[toNat_natCast,ht]
  rw[hw]at hl
  refine jO M ht zB (fun hc=>?_) (fun hc=>?_)
  ·rw[if_pos hc]at hl
   obtain⟨h1,h2⟩:=mem_filter.mp hl
   refine⟨by simpa using h2,fun x hx ex=>?_⟩
   subst hc
   obtain⟨i,hi⟩:=kW hx
   have h3:=J.last m t ht i x hi ex
   have h4:=J.Ei k lk hk m t (mem_of_head? hq) ht
   have h5:=tZ h4
   rw[show t.way.length - 1=i by omega,hi]at h5
   have h5:=Option.some.inj h5
   subst h5
   unfold rh at h1
   obtain⟨x0,y0,e1,e2,_,_⟩:=J.lets m t ht
   rw[if_pos (by show mE a x=_;rw[ex,e2,toNat_natCast])]at h1
   cases h1
  ·rw[if_neg hc]at hl
   exact List.mem_of_mem_drop (mem_of_mem_take hl)
 | @Br k m e c lk t qs hk hq ht hg he By =>
  have M:=m5 J hk hq
  have:=vJ (s:={ s with lanes:=s.lanes.set k (bP lk) }) M ht By (fun hc x hx=>?_)
  ·exact this
  ·subst hc
   have h4:=J.Ei k lk hk m t (mem_of_head? hq) ht
   rw[h4]at hx
   have hx:=Option.some.inj hx
   subst hx
   show(a.ps.getD k (0,0)).2=t.goal
   rw[he,hg]
 | @back k lk hk hb=>exact J.back hk rfl
noncomputable def rB (s:YS):Int:=(s.U.map fun t=>t.len).sum
theorem oM {α:Type}(f g:α->Int):∀ {L:List α},(∀ (m:Nat)(t:α),L[m]? = some t->f t <= g t)->(L.map f).sum <= (L.map g).sum
 | [],_=>by simp
 | x :: L,h=>by
  have h1:=h 0 x rfl
  have h2:=oM f g (L:=L) fun m t ht=>h (m + 1) t ht
  simp only[map_cons,sum_cons];omega
theorem jF {α:Type}(g:α->Int):∀ {L:List α},(∀ (m:Nat)(t:α),L[m]? = some t->g t <= 60)->(L.map g).sum <= 60 * L.length
 | [],_=>by simp
 | x :: L,h=>by
  have h1:=h 0 x rfl
  have h2:=jF g (L:=L) fun m t ht=>h (m + 1) t ht
  simp only[map_cons,sum_cons,length_cons];omega
theorem AX.Ms {a:YA}{s:YS}(J:AX a s):(iY s:Int) <= rB s/\(j9 s:Int) + (iY s:Int) <= 3600:=by
 have h1:=oM (fun t:ci=>t.gone) (fun t=>t.len) (L:=s.U) fun m t ht=>(J.B7 m t ht).2.1
 have h2:=J.sum
 have h3:=jF (fun t:ci=>t.len) (L:=s.U) fun m t ht=>(J.B7 m t ht).2.2
 have h4:=J.zX
 unfold iB at h2
 unfold rB
 omega
theorem jo {α:Type}(f:α->Nat):∀ {L:List α}{k:Nat}{x:α},L[k]? = some x->f x <= (L.map f).sum
 | [],_,_,h=>by cases h
 | z :: L,0,x,h=>by cases h;simp only[map_cons,sum_cons];omega
 | z :: L,k + 1,x,h=>by
  have:=jo f (L:=L) (k:=k) (x:=x) h
  simp only[map_cons,sum_cons];omega
theorem AX.WX {a:YA}{s:YS}(J:AX a s)(hd:s.done.length <= 100000):WT s:=by
 have h:=J.Ms.2
 refine⟨fun k ln hk=>?_,fun p qs hp=>?_,hd⟩
 ·have:=jo (fun ln:bV=>ln.qs.length) hk
  unfold j9 at h
  omega
 ·have:=jo (fun qs:List (Int × Int)=>qs.length) hp
  unfold iY at h
  omega
noncomputable abbrev Es:=List (Nat × Nat)
noncomputable def lk (fs:Es)(p:Nat):Option Nat:=(fs.find? fun x=>decide (x.1=p)).map (·.2)
theorem gU {fs:Es}{p d:Nat}(h:lk fs p=some d):(p,d) ∈ fs:=by
 unfold lk at h
 cases e:fs.find? (fun x=>decide (x.1=p)) with
 | none=>rw[e]at h;cases h
 | some x =>
  rw[e]at h
  have h1:=List.find?_some e
  have h2:=List.mem_of_find?_eq_some e
  have h3:x.2=d:=Option.some.inj h
  have h4:x.1=p:=of_decide_eq_true h1
  rw[← h3,← h4];exact h2
theorem BU {fs:Es}{p:Nat}:lk fs p=none↔p ∉ fs.map (·.1):=by
 unfold lk
 rw[Option.map_eq_none_iff,List.find?_eq_none]
 constructor
 ·intro h m
  obtain⟨x,hx,e⟩:=mem_map.mp m
  exact h x hx (decide_eq_true e)
 ·intro h x hx e
  exact h (mem_map.mpr ⟨x,hx,of_decide_eq_true e⟩)
theorem iw {fs:Es}(hn:(fs.map (·.1)).Nodup){p d:Nat}(h:(p,d) ∈ fs):lk fs p=some d:=by
 cases e:lk fs p with
 | none=>exact absurd (mem_map.mpr ⟨_,h,rfl⟩) (BU.mp e)
 | some d' =>
  have h':=gU e
  have:∀ {l:Es},(l.map (·.1)).Nodup->(p,d) ∈ l->(p,d') ∈ l->d' = d:=by
   intro l
   induction l with
   | nil=>intro _ h;cases h
   | cons x l ih =>
    intro hn h1 h2
    rw[map_cons,nodup_cons]at hn
    rcases mem_cons.mp h1 with h1 | h1
    ·rcases mem_cons.mp h2 with h2 | h2
     ·rw[← h1]at h2;exact(Prod.mk.inj h2).2
     ·exact absurd (mem_map.mpr ⟨_,h2,by rw[← h1]⟩) hn.1
    ·rcases mem_cons.mp h2 with h2 | h2
     ·exact absurd (mem_map.mpr ⟨_,h1,by rw[← h2]⟩) hn.1
     ·exact ih hn.2 h1 h2
  rw[this hn h h']
theorem gR:∀ (n:Nat)(l:List Nat),l.Nodup->(∀ x ∈ l,x < n)->l.length <= n
 | 0,l,_,h=>by
  cases l with
  | nil=>exact le_refl _
  | cons x l=>exact absurd (h x mem_cons_self) (not_lt_zero _)
 | n + 1,l,hn,h=>by
  by_cases hm:n ∈ l
  ·have e:=List.length_erase_of_mem hm
   have:=gR n (l.erase n) (hn.erase n) fun x hx=>by
    have BX:=(hn.mem_erase_iff).mp hx
    have:=h x BX.2
    have:=BX.1
    omega
   omega
  ·have:=gR n l hn fun x hx=>by
    have:=h x hx
    have:x ≠ n:=fun z=>hm (by rw[← z];exact hx)
    omega
   omega
structure De (n:Nat)(es:Es)(g:Nat)(fs:Es)(i:Nat):Prop where
 nd:(fs.map (·.1)).Nodup
 lt:∀ x ∈ fs,x.1 < n
 g0:(g,0) ∈ fs
 up:∀ p d,(p,d) ∈ fs->(p=g/\d=0)∨∃ q d',d=d' + 1/\(q,d') ∈ fs/\(p,q) ∈ es
 sorted:fs.Pairwise fun x y=>x.2 <= y.2
 near:∀ y,fs[i]? = some y->∀ x ∈ fs,x.2 <= y.2 + 1
 cl:∀ k q d:Nat,k < i->fs[k]? = some (q,d)->∀ s,(s,q) ∈ es->∃ d',(s,d') ∈ fs/\d' <= d + 1
 ix:∀ j p d:Nat,fs[j]? = some (p,d)->d <= j
 le:i <= fs.length
theorem De.zX {n:Nat}{es:Es}{g:Nat}{fs:Es}{i:Nat}(b:De n es g fs i):fs.length <= n:=by
 have:=gR n (fs.map (·.1)) b.nd fun x hx=>by
  obtain⟨y,hy,rfl⟩:=mem_map.mp hx
  exact b.lt y hy
 rwa [length_map]at this
theorem rc {n:Nat}{es:Es}{g:Nat}(hg:g < n):De n es g [(g,0)] 0 where
 nd:=by simp
 lt:=fun x hx=>by rw[mem_singleton.mp hx];exact hg
 g0:=mem_singleton.mpr rfl
 up:=fun p d h=>by
  have:=mem_singleton.mp h
  exact .inl (Prod.mk.inj this)
 sorted:=by simp
 near:=fun y hy x hx=>by rw[mem_singleton.mp hx];exact zero_le _
 cl:=fun k _ _ h=>absurd h (not_lt_zero _)
 ix:=fun j p d h=>by
  cases j with
  | zero=>have:=Option.some.inj h;have:=(Prod.mk.inj this).2;omega
  | succ j=>simp at h
 le:=zero_le _
theorem De.push {n:Nat}{es:Es}{g:Nat}{fs:Es}{i s p d:Nat}(b:De n es g fs i)(hy:fs[i]? = some (p,d))(hs:s < n)(hl:(s,p) ∈ es)(hn:lk fs s=none):De n es g (fs ++ [(s,d + 1)]) i where
 nd:=by
  rw[map_append,List.nodup_append]
  refine⟨b.nd,by simp,fun a ha c hc=>?_⟩
  have hc:c=s:=by simpa using hc
  intro z
  rw[z,hc]at ha
  exact BU.mp hn ha
 lt:=fun x hx=>by
  rcases mem_append.mp hx with h | h
  ·exact b.lt x h
  ·rw[mem_singleton.mp h];exact hs
 g0:=mem_append_left _ b.g0
 up:=fun q e h=>by
  rcases mem_append.mp h with h | h
  ·rcases b.up q e h with h | ⟨q',d',h1,h2,h3⟩
   ·exact .inl h
   ·exact .inr ⟨q',d',h1,mem_append_left _ h2,h3⟩
  ·obtain⟨h1,h2⟩:=Prod.mk.inj (mem_singleton.mp h)
   subst h1 h2
   exact .inr ⟨p,d,rfl,mem_append_left _ (mem_of_getElem? hy),hl⟩
 sorted:=by
  rw[List.pairwise_append]
  refine⟨b.sorted,by simp,fun x hx y hy'=>?_⟩
  rw[mem_singleton.mp hy']
  exact b.near _ hy x hx
 near:=fun y hy' x hx=>by
  have hi:i < fs.length:=(List.getElem?_eq_some_iff.mp hy).1
  rw[List.getElem?_append_left hi,hy]at hy'
  rw[← Option.some.inj hy']
  rcases mem_append.mp hx with h | h
  ·exact b.near _ hy x h
  ·rw[mem_singleton.mp h];exact le_refl _
 cl:=fun k q e hk hq t ht=>by
  have hi:i < fs.length:=(List.getElem?_eq_some_iff.mp hy).1
  rw[List.getElem?_append_left (by omega)]at hq
  obtain⟨d',h1,h2⟩:=b.cl k q e hk hq t ht
  exact⟨d',mem_append_left _ h1,h2⟩
 ix:=fun j q e h=>by
  have hi:i < fs.length:=(List.getElem?_eq_some_iff.mp hy).1
  have hd:=b.ix i p d hy
  rcases lt_or_ge j fs.length with hj | hj
  ·rw[List.getElem?_append_left hj]at h;exact b.ix j q e h
  ·rw[List.getElem?_append_right hj]at h
   have hj0:j - fs.length=0:=by
    have:=(List.getElem?_eq_some_iff.mp h).1
    simp at this;omega
   rw[hj0]at h
   have:=(Prod.mk.inj (Option.some.inj h)).2
   omega
 le:=le_trans b.le (by rw[length_append];omega)
theorem De.next {n:Nat}{es:Es}{g:Nat}{fs:Es}{i p d:Nat}(b:De n es g fs i)(hy:fs[i]? = some (p,d))(hc:∀ s,(s,p) ∈ es->s ∈ fs.map (·.1)):De n es g fs (i + 1) where
 nd:=b.nd
 lt:=b.lt
 g0:=b.g0
 up:=b.up
 sorted:=b.sorted
 near:=fun y hy' x hx=>by
  have hi:i < fs.length:=(List.getElem?_eq_some_iff.mp hy).1
  have Ss:i + 1 < fs.length:=(List.getElem?_eq_some_iff.mp hy').1
  have h1:=b.near _ hy x hx
  have h2:=pairwise_iff_getElem.mp b.sorted i (i + 1) hi Ss (lt_succ_self _)
  have e1:fs[i]=(p,d):=(List.getElem?_eq_some_iff.mp hy).2
  have e2:fs[i + 1]=y:=(List.getElem?_eq_some_iff.mp hy').2
  rw[e1,e2]at h2
  have h2:d <= y.2:=h2
  have h1:x.2 <= d + 1:=h1
  omega
 cl:=fun k q e hk hq s hs=>by
  rcases lt_or_ge k i with h | h
  ·exact b.cl k q e h hq s hs
  ·have:k=i:=by omega
   subst this
   rw[hy]at hq
   obtain⟨h1,h2⟩:=Prod.mk.inj (Option.some.inj hq)
   subst h1 h2
   obtain⟨x,hx,e⟩:=mem_map.mp (hc s hs)
   exact⟨x.2,by rw[← e];exact hx,b.near _ hy x hx⟩
 ix:=b.ix
 le:=(List.getElem?_eq_some_iff.mp hy).1
structure yU (n:Nat)(es:Es)(g:Nat)(fs:Es):Prop where
 nd:(fs.map (·.1)).Nodup
 lt:∀ x ∈ fs,x.1 < n
 g0:lk fs g=some 0
 up:∀ p d,lk fs p=some d->(p=g/\d=0)∨∃ q d',d=d' + 1/\lk fs q=some d'/\(p,q) ∈ es
 cl:∀ s q d,(s,q) ∈ es->lk fs q=some d->∃ d',lk fs s=some d'/\d' <= d + 1
 zX:∀ p d,lk fs p=some d->d < n
theorem De.far {n:Nat}{es:Es}{g:Nat}{fs:Es}(b:De n es g fs fs.length):yU n es g fs where
 nd:=b.nd
 lt:=b.lt
 g0:=iw b.nd b.g0
 up:=fun p d h=>by
  rcases b.up p d (gU h) with h | ⟨q,d',h1,h2,h3⟩
  ·exact .inl h
  ·exact .inr ⟨q,d',h1,iw b.nd h2,h3⟩
 cl:=fun s q d hs hq=>by
  obtain⟨k,hk⟩:=List.getElem?_of_mem (gU hq)
  obtain⟨d',h1,h2⟩:=b.cl k q d (List.getElem?_eq_some_iff.mp hk).1 hk s hs
  exact⟨d',iw b.nd h1,h2⟩
 zX:=fun p d h=>by
  obtain⟨k,hk⟩:=List.getElem?_of_mem (gU h)
  have h1:=b.ix k p d hk
  have h2:=(List.getElem?_eq_some_iff.mp hk).1
  have h3:=b.zX
  omega
noncomputable def fk (x:Nat × Nat):ca × V:=(Sum.inl (x.1:Int),V.int (x.2:Int))
noncomputable def zp (x:Nat × Nat):Int × Int:=((x.1:Int),(x.2:Int))
theorem gB (p:Nat):∀ fs:Es,gE (fs.map fk) (Sum.inl (p:Int))=(lk fs p).map fun d:Nat=>V.int (d:Int)
 | []=>rfl
 | x :: fs=>by
  have ih:=gB p fs
  unfold gE lk at ih ⊢
  rw[map_cons,List.find?_cons,List.find?_cons]
  by_cases h:x.1=p
  ·have h1:(fk x).1=(Sum.inl (p:Int):ca):=by rw[← h];rfl
   rw[decide_eq_true h,decide_eq_true h1];rfl
  ·have h1:¬ (fk x).1=(Sum.inl (p:Int):ca):=fun z=>h (by have:=Sum.inl.inj z;omega)
   rw[decide_eq_false h,decide_eq_false h1];exact ih
theorem xJ {fs:Es}{s d:Nat}(h:lk fs s=none):c7 (fs.map fk) (Sum.inl (s:Int)) (V.int (d:Int))=(fs ++ [(s,d)]).map fk:=by
 rw[sR _ (by rw[gB,h];rfl),map_append];rfl
noncomputable def gZ (es:Es)(p:Nat):List Nat:=(List.range es.length).filter fun k=>decide ((es.getD k (0,0)).2=p)
noncomputable def fD (es:Es)(p:Nat):List Nat:=(List.range es.length).filter fun k=>decide ((es.getD k (0,0)).1=p)
theorem oJ (es:Es)(k:Nat):(es.map zp).getD k (0,0)=zp (es.getD k (0,0)):=by
 rw[getD_eq_getElem?_getD,getD_eq_getElem?_getD,List.getElem?_map]
 cases es[k]?<;>rfl
theorem Mu (es:Es)(p:Nat):jt Prod.snd (es.map zp) (p:Int) (es.map zp).length=nV (gZ es p):=by
 unfold jt gZ nV
 rw[length_map]
 congr 1
 refine filter_congr fun k _=>?_
 rw[oJ]
 show decide (((es.getD k (0,0)).2:Int)=(p:Int))=decide ((es.getD k (0,0)).2=p)
 by_cases h:(es.getD k (0,0)).2=p
 ·rw[decide_eq_true h,decide_eq_true (by omega)]
 ·rw[decide_eq_false h,decide_eq_false (by omega)]
theorem xO (es:Es)(p:Nat):jt Prod.fst (es.map zp) (p:Int) (es.map zp).length=nV (fD es p):=by
 unfold jt fD nV
 rw[length_map]
 congr 1
 refine filter_congr fun k _=>?_
 rw[oJ]
 show decide (((es.getD k (0,0)).1:Int)=(p:Int))=decide ((es.getD k (0,0)).1=p)
 by_cases h:(es.getD k (0,0)).1=p
 ·rw[decide_eq_true h,decide_eq_true (by omega)]
 ·rw[decide_eq_false h,decide_eq_false (by omega)]
theorem vc (es:Es)(p:Nat):(fD es p).length <= es.length:=by
 unfold fD
 exact le_trans (length_filter_le _ _) (by rw[length_range];exact le_refl _)
theorem Mw {es:Es}{p k:Nat}(h:k ∈ gZ es p):∃ s,es[k]? = some (s,p)/\es.getD k (0,0)=(s,p):=by
 obtain⟨h1,h2⟩:=mem_filter.mp h
 have hk:=mem_range.mp h1
 have e:=List.getElem?_eq_getElem hk
 have e2:es.getD k (0,0)=es[k]:=by rw[getD_eq_getElem?_getD,e];rfl
 have h2:(es.getD k (0,0)).2=p:=of_decide_eq_true h2
 refine⟨es[k].1,?_,?_⟩
 ·rw[e,← h2,e2]
 ·rw[e2,← h2,e2]
noncomputable def OZ (n:Nat)(es:Es):Prop:=∀ e ∈ es,e.1 < n/\e.2 < n
noncomputable def wD (c:Cs):Sp:=fun vs H Q _=>∃ (lx zx lt:Addr)(zg:List V)(n:Nat)(es:Es)(g:Nat),vs=[.ref lx, .int g]/\cr H c lx zx lt (n:Int) zg (es.map zp)/\OZ n es/\es.length <= 100/\n <= 100/\g < n /\
 ∀ (fa:Addr)(fs:Es)(H':Hp),yW H H'->H fa=none->yU n es g fs->H' fa=some (.dK (fs.map fk))->Q (.ref fa) H'
structure Lm (K:Frag)(c:Cs)(fs fe fo fi:Addr)(ds de do' di:FuncData):Prop where
 ms:b6 K c.land "start_of" fs
 bs:Binds K ds ["self", "lane"] []
 me:b6 K c.land "end_of" fe
 be:Binds K de ["self", "lane"] []
 mo:b6 K c.land "out_of" fo
 bo:Binds K do' ["self", "place"] []
 mi:b6 K c.land "into" fi
 bi:Binds K di ["self", "place"] []
noncomputable abbrev NH:List Str:=["land", "goal", "far", "line", "looked_at", "place", "lane", "start"]
theorem Gv:ao NH ["land", "goal"] (aj xC):=L2.zy
theorem yn {c:Cs}{f f1 f2 f3 f4:Addr}{fd d1 d2 d3 d4:FuncData}(F:zt K "how_far" "how_far" xC f fd)(T:eO mg)(L:ku K c)(M:Lm K c f1 f2 f3 f4 d1 d2 d3 d4)
  (Gs:yX P w K mg base aD 1 f1 d1 ["self", "lane"] (lD c Prod.fst)) (Gi:yX P w K mg base aD 1 f4 d4 ["self", "place"] (qg c Prod.snd)):yX P w K mg base aD 2 f fd ["land", "goal"] (wD c):=by
 refine F.ok Gv (fun vs H Q E h=>?_) (fun cdv A outer s H vs Q E hr h=>?_)
 ·obtain⟨lx,zx,lt,zg,n,es,g,rfl,_⟩:=h
  rfl
 ·obtain⟨lx,zx,lt,zg,n,es,g,rfl,hL,Bt,DK,hn,hg,q⟩:=h
  have hu:=jT hr
  refine⟨_,af (aA (i:=2) Gv.nd rfl (Or.inl rfl) (va (sX (pv 1) ah uY) rfl rfl (by intro z;cases z) (by decide)))
   (af (aA (i:=3) Gv.nd rfl (Or.inl rfl) (aV (aa (pv 1) ad)))
   (af (aA (i:=4) Gv.nd rfl (Or.inl rfl) ah)
   (af (sU PassesOwn.never (ax p6 (pv 4) (aG ay rfl T.len PySem.boot_len (aa (pv 3) ad)) (aB _))
    (af (aA (i:=5) Gv.nd rfl (Or.inl rfl) (ap aJ (pv 3) (pv 4) (fun _ _=>rfl)))
    (af (xK (i:=4) Gv.nd rfl (Or.inl rfl) ah y6)
    (ak (bN PassesOwn.never rfl (bO (aF (pv 0) L.cl M.mi Gi hr M.bi .nil aq (aa (pv 5) ad))) (av (i:=6) Gv.nd rfl (Or.inl rfl))
     (af (aA (i:=7) Gv.nd rfl (Or.inl rfl) (aF (pv 0) L.cl M.ms Gs hr M.bs .nil aq (aa (pv 6) ad)))
     (ak (aN (sS (qr hu (pv 7) (pv 2)))
      (af (uX hu (pv 2) (pv 7) (az bB (py hu (pv 2) (pv 5) (fun _ _=>rfl)) ah) rfl)
      (ak (aR (cz plainAttrs_list PySem.F.slot_list_append PySem.F.type_list_append bG (pv 3) (aa (pv 7) ad))))) aE))))))))
   (ak (au (pv 2)))))),?_⟩
  have land:∀ {H':Hp},yW H H'->cr H' c lx zx lt (n:Int) zg (es.map zp):=fun s'=>⟨s' _ _ hL.1,s' _ _ hL.2.1,zl.same s' hL.2.2⟩
  refine fun fa Df=>⟨_,rfl,ac,[fk (g,0)],rfl,(by show 1 <= 15;decide),?_⟩
  have s0:yW H (upd (upd H fa (.dK [])) fa (.dK (fE [] [fk (g,0)]))):=fun b o e=>by rw[ae (ag e Df),ae (ag e Df)];exact e
  have Sv:(upd (upd H fa (.dK [])) fa (.dK (fE [] [fk (g,0)]))) fa=some (.dK ([(g,0)].map fk)):=ac
  generalize upd (upd H fa (.dK [])) fa (.dK (fE [] [fk (g,0)]))=H0 at s0 Sv ⊢
  refine⟨_,rfl,by show 1 <= sizeLine;decide,fun ln zB=>?_⟩
  have s1:=s0.new (o := .lst [.int g]) zB
  have Sw:H ln=none:=s0.free zB
  have OW:(upd H0 ln (.lst [.int g])) ln=some (.lst (nV ([(g,0)].map (·.1)))):=ac
  have WY:(upd H0 ln (.lst [.int g])) fa=some (.dK ([(g,0)].map fk)):=by rw[ae (ag Sv zB)];exact Sv
  generalize upd H0 ln (.lst [.int g])=H1 at s1 OW WY ⊢
  refine⟨fun m σ H'=>∃ (fs:Es)(i:Nat)(a5 a6 a7:Option V),m=n - i/\De n es g fs i/\yW H H'/\H' fa=some (.dK (fs.map fk))/\H' ln=some (.lst (nV (fs.map (·.1))))/\σ=[some (.ref lx),some (.int g),some (.ref fa),some (.ref ln),some (.int (i:Nat)),a5,a6,a7],
   ⟨n - 0,[(g,0)],0,none,none,none,rfl,rc hg,s1,WY,OW,rfl⟩,?_⟩
  rintro m σ H2 ⟨fs,i,a5,a6,a7,rfl,hB,s2,gf,gl,rfl⟩
  have DQ:=hB.zX
  refine⟨_,rfl,_,rfl,ln,_,rfl, .inl (zb.of gl),_,_,rfl,rfl,_,rfl,?_⟩
  by_cases hi:i < fs.length
  rotate_left
  ·have e:i=fs.length:=by have:=hB.le;omega
   subst e
   rw[decide_eq_false (by rw[cU,length_map];omega)]
   exact aI ⟨_,rfl,q fa fs H2 s2 Df hB.far gf⟩
  rw[decide_eq_true (by rw[cU,length_map];omega)]
  have hy:=List.getElem?_eq_getElem hi
  generalize fs[i]=pd at hy
  obtain⟨p,d⟩:=pd
  have hp:p < n:=hB.lt _ (mem_of_getElem? hy)
  have AJ:(nV (fs.map (·.1)))[i]? = some (.int (p:Int)):=kT (by rw[List.getElem?_map,hy];rfl)
  refine aK ⟨fun σ' H'=>∃ (zI:Es)(a5 a6 a7:Option V),De n es g zI (i + 1)/\yW H H'/\H' fa=some (.dK (zI.map fk))/\H' ln=some (.lst (nV (zI.map (·.1))))/\σ' = [some (.ref lx),some (.int g),some (.ref fa),some (.ref ln),some (.int ((i:Int) + 1)),a5,a6,a7],
   fun σ' H' ⟨zI,a5,a6,a7,h1,h2,h3,h4,h5⟩=>⟨n - (i + 1),by omega,zI,i + 1,a5,a6,a7,rfl,h1,h2,h3,h4,h5⟩,?_⟩
  refine⟨_,rfl,_,rfl,ln,_,_,_,rfl,rfl,zb.of gl,ai AJ,?_⟩
  refine⟨_,rfl,_,_,rfl,rfl,?_⟩
  refine⟨_,rfl,lx,zx,_,rfl,(land s2).1,rfl,_,rfl,lx,zx,lt,(n:Int),zg,es.map zp,(p:Int),rfl,land s2,by rw[length_map];omega,fun H3 Ia s3 Dg=>?_⟩
  rw[Mu]
  have u3:=s3.new (o := .lst (nV (gZ es p))) Dg
  have gI:(upd H3 Ia (.lst (nV (gZ es p)))) Ia=some (.lst (nV (gZ es p))):=ac
  have nIl:Ia ≠ ln:=Ne.symm (ag (s3 _ _ gl) Dg)
  have nIf:Ia ≠ fa:=Ne.symm (ag (s3 _ _ gf) Dg)
  have WZ:ln ≠ fa:=aZ gl gf (by intro z;cases z)
  generalize upd H3 Ia (.lst (nV (gZ es p)))=H4 at u3 gI ⊢
  refine⟨Ia,rfl,⟨_,zb.of gI⟩,?_⟩
  refine hU (K:=K) (a:=Ia) (xs:=nV (gZ es p)) (fun m σ H5=>∃ (zI:Es)(a6 a7:Option V),De n es g zI i/\zI[i]? = some (p,d)/\(∀ k ∈ (gZ es p).take m,(es.getD k (0,0)).1 ∈ zI.map (·.1))/\yW H H5/\H5 Ia=some (.lst (nV (gZ es p)))/\H5 fa=some (.dK (zI.map fk))/\H5 ln=some (.lst (nV (zI.map (·.1)))) /\
    σ=[some (.ref lx),some (.int g),some (.ref fa),some (.ref ln),some (.int ((i:Int) + 1)),some (.int p),a6,a7])
   ⟨fs,_,_,hB,hy,fun k hk=>by simp at hk,s2.trans u3,gI,u3 _ _ gf,u3 _ _ gl,rfl⟩ (fun m σ H5 _ ⟨_,_,_,_,_,_,_,g5,_⟩=>zb.of g5) ?_ ?_
  ·rintro m v σ H5 hv ⟨zI,a6,a7,Jj,hy',Ax,s5,Sy,Jk,Pa,rfl⟩
   have hm:m < (gZ es p).length:=by have:=(List.getElem?_eq_some_iff.mp hv).1;rw[cU]at this;exact this
   have hk0:=List.getElem?_eq_getElem hm
   have IV:=kT hk0
   rw[IV]at hv
   have hv:=Option.some.inj hv
   subst hv
   generalize hke:(gZ es p)[m]=k at hk0
   obtain⟨st,hk1,OY⟩:=Mw (mem_of_getElem? hk0)
   have Mx:=mem_of_getElem? hk1
   have B1:=(Bt _ Mx).1
   have step:∀ {Sz:Es},(∀ x ∈ zI.map (·.1),x ∈ Sz.map (·.1))->st ∈ Sz.map (·.1)->∀ k ∈ (gZ es p).take (m + 1),(es.getD k (0,0)).1 ∈ Sz.map (·.1):=fun Kz Mf k' DG=>by
    rw[take_succ,hk0]at DG
    rcases mem_append.mp DG with h | h
    ·exact Kz _ (Ax k' h)
    ·have:k' = k:=by simpa using h
     rw[this,OY];exact Mf
   refine⟨_,rfl,lx,zx,_,rfl,(land s5).1,rfl,_,rfl,lx,zx,lt,(n:Int),zg,es.map zp,k,zp (st,p),rfl,land s5,by rw[List.getElem?_map,hk1];rfl,?_⟩
   refine⟨_,rfl,_,rfl,fa,_,rfl,Bd.k (k:=Sum.inl (st:Int)) Jk,_,rfl,?_⟩
   rw[gB]
   have Xa:=Jj.zX
   cases BG:lk zI st with
   | some d'=>exact aI ⟨zI,_,_,Jj,hy',step (fun x hx=>hx) (mem_map.mpr ⟨_,gU BG,rfl⟩),s5,Sy,Jk,Pa,rfl⟩
   | none =>
    refine aK ?_
    refine⟨_,rfl,_,rfl,fa, .int (d:Int),rfl,?_,_,_,rfl,rfl,_,rfl,_,rfl,fa,_,rfl,DY.k (k:=Sum.inl (st:Int)) Jk (by rw[sizeLine_eq,length_map];omega),?_⟩
    ·have:=Bd.k (k:=Sum.inl (p:Int)) Jk
     rw[gB,iw Jj.nd (mem_of_getElem? hy')]at this
     exact this
    dsimp only
    have ep:c7 (zI.map fk) (Sum.inl (st:Int)) (V.int ((d:Int) + 1))=(zI ++ [(st,d + 1)]).map fk:=xJ (d:=d + 1) BG
    have Xb:(upd H5 fa (.dK (c7 (zI.map fk) (Sum.inl (st:Int)) (V.int ((d:Int) + 1))))) Ia=some (.lst (nV (gZ es p))):=by rw[ae nIf];exact Sy
    have S0:(upd H5 fa (.dK (c7 (zI.map fk) (Sum.inl (st:Int)) (V.int ((d:Int) + 1))))) ln=some (.lst (nV (zI.map (·.1)))):=by rw[ae WZ];exact Pa
    have Xc:(upd H5 fa (.dK (c7 (zI.map fk) (Sum.inl (st:Int)) (V.int ((d:Int) + 1))))) fa=some (.dK ((zI ++ [(st,d + 1)]).map fk)):=by rw[ac,ep]
    have s6:yW H (upd H5 fa (.dK (c7 (zI.map fk) (Sum.inl (st:Int)) (V.int ((d:Int) + 1))))):=fun b o e=>by rw[ae (ag e Df)];exact s5 _ _ e
    generalize upd H5 fa (.dK (c7 (zI.map fk) (Sum.inl (st:Int)) (V.int ((d:Int) + 1))))=H6 at Xb S0 Xc s6 ⊢
    refine⟨_,rfl, .inl ⟨rfl,_,zb.of S0⟩,_,rfl,ln,_,_,rfl,rfl,S0,by rw[sizeLine_eq,cU,length_map];omega,?_⟩
    have Ss:i < zI.length:=(List.getElem?_eq_some_iff.mp hy').1
    refine⟨zI ++ [(st,d + 1)],_,_,Jj.push hy' B1 Mx BG,by rw[List.getElem?_append_left Ss];exact hy',step (fun x hx=>by rw[map_append];exact mem_append_left _ hx) (by rw[map_append];exact mem_append_right _ (by simp)),fun b o e=>by rw[ae (ag e Sw)];exact s6 _ _ e,by rw[ae nIl];exact Xb,by rw[ae (Ne.symm WZ)];exact Xc,?_,rfl⟩
    rw[ac,map_append,nU];rfl
  ·rintro σ H5 ⟨zI,a6,a7,Jj,hy',Ax,s5,Sy,Jk,Pa,rfl⟩
   rw[cU,take_length]at Ax
   refine⟨zI,_,_,_,Jj.next hy' (fun st B1=>?_),s5,Jk,Pa,rfl⟩
   obtain⟨k,hk⟩:=List.getElem?_of_mem B1
   have hk1:es.getD k (0,0)=(st,p):=by rw[getD_eq_getElem?_getD,hk];rfl
   have:=Ax k (mem_filter.mpr ⟨mem_range.mpr (List.getElem?_eq_some_iff.mp hk).1,by rw[hk1];exact decide_eq_true rfl⟩)
   rw[hk1]at this
   exact this
noncomputable def jm (fs:Es)(d:Nat)(e:Nat):Bool:=match lk fs e with
 | some d'=>decide (d' + 1=d)
 | none=>false
noncomputable def cS (es fs:Es)(p d:Nat):List Nat:=(fD es p).filter fun k=>jm fs d (es.getD k (0,0)).2
theorem tf (es:Es)(p:Nat):(fD es p).Pairwise (· < ·):=List.Pairwise.filter _ pairwise_lt_range
theorem qG (es fs:Es)(p d:Nat):(cS es fs p d).Pairwise (· < ·):=List.Pairwise.filter _ (tf es p)
theorem pB {es fs:Es}{p d k:Nat}(h:k ∈ cS es fs p d):k < es.length:=mem_range.mp (mem_filter.mp (mem_filter.mp h).1).1
theorem m6 {ks:List Nat}(h:ks.Pairwise (· < ·)):vL (Yd.zD ks 0)=nV ks:=by
 rw[vK,nX (ks:=ks) (ms:=iz ks) ?_ (fun k=>Iff.rfl),vR];rfl
 unfold iz
 exact List.Pairwise.map _ (fun a b FV=>by show (a:Int) < (b:Int);omega) h
theorem xP {es:Es}{p k:Nat}(h:k ∈ fD es p):∃ e,es[k]? = some (p,e)/\es.getD k (0,0)=(p,e):=by
 obtain⟨h1,h2⟩:=mem_filter.mp h
 have hk:=mem_range.mp h1
 have e:=List.getElem?_eq_getElem hk
 have e2:es.getD k (0,0)=es[k]:=by rw[getD_eq_getElem?_getD,e];rfl
 have h2:(es.getD k (0,0)).1=p:=of_decide_eq_true h2
 refine⟨es[k].2,?_,?_⟩
 ·rw[e,← h2,e2]
 ·rw[e2,← h2,e2]
noncomputable def vN:V->Nat
 | .int z=>z.toNat
 | _=>0
theorem i8 (es fs:Es)(d:Nat):∀ l:List Nat,((nV l).filter fun v=>jm fs d (es.getD (vN v) (0,0)).2).map (fun v=>v)=nV (l.filter fun k=>jm fs d (es.getD k (0,0)).2)
 | []=>rfl
 | x :: l=>by
  have ih:=i8 es fs d l
  show((V.int (x:Int) :: nV l).filter _).map _=_
  rw[List.filter_cons,List.filter_cons]
  have e:vN (V.int (x:Int))=x:=toNat_natCast x
  rw[e]
  cases jm fs d (es.getD x (0,0)).2 with
  | true=>rw[if_pos rfl,if_pos rfl,map_cons,ih];rfl
  | false=>rw[if_neg (by decide),if_neg (by decide),ih]
noncomputable def Mz (c:Cs):Sp:=fun vs H Q _=>∃ (lx zx lt fa:Addr)(zg:List V)(n:Nat)(es fs:Es)(g p d:Nat),vs=[.ref lx, .ref fa, .int p]/\cr H c lx zx lt (n:Int) zg (es.map zp)/\es.length <= 100/\Rd H fa (.dK (fs.map fk))/\yU n es g fs/\lk fs p=some d /\
 ∀ (D:Addr)(H':Hp),yW H H'->H D=none->H' D=some (.lst (nV (cS es fs p d)))->Q (.ref D) H'
theorem sO {H:Hp}{fa:Addr}{fs:Es}(h:Rd H fa (.dK (fs.map fk)))(p:Nat):Bd H fa (.int (p:Int)) ((lk fs p).map fun d:Nat=>V.int (d:Int)) := .inl ⟨_,Sum.inl (p:Int),h,rfl,(gB p fs).symm⟩
theorem kL {H H':Hp}{a:Addr}{u:HO}(s:yW H H')(h:Rd H a u):Rd H' a u:=by
 rcases h with h | ⟨o,h⟩
 ·exact .inl (s _ _ h)
 ·exact .inr ⟨o,s _ _ h⟩
noncomputable def M0 (s:Stmt):Scope:=match aH s with
 | .Return (some (.ListComp _ _ sc _)) _ :: _=>sc
 | _=>{ kind := .function,names:=[],isGenerator:=false,isCoroutine:=false }
theorem S1:ao ["land", "far", "place"] ["land", "far", "place"] (aj KI):=L2.zy
theorem S2:Ae ["land", "far", "place"] (aj KI) (M0 KI) ["land", "far", "place"] [0,1,2]:=L2.Bf
theorem S3:(["lane", "land", "far", "place"]:List Str).Nodup:=by decide +kernel
theorem M3 {c:Cs}{f f1 f2 f3 f4:Addr}{fd d1 d2 d3 d4:FuncData}(F:zt K "nearer_lanes" "nearer_lanes" KI f fd)(T:eO mg)(L:ku K c)(M:Lm K c f1 f2 f3 f4 d1 d2 d3 d4)
  (Ge:yX P w K mg base aD 1 f2 d2 ["self", "lane"] (lD c Prod.snd)) (Go:yX P w K mg base aD 1 f3 d3 ["self", "place"] (qg c Prod.fst)):yX P w K mg base aD 2 f fd ["land", "far", "place"] (Mz c):=by
 refine F.ok S1 (fun vs H Q E h=>?_) (fun cdv A outer s H vs Q E hr h=>?_)
 ·obtain⟨lx,zx,lt,fa,zg,n,es,fs,g,p,d,rfl,_⟩:=h
  rfl
 ·obtain⟨lx,zx,lt,fa,zg,n,es,fs,g,p,d,rfl,hL,DK,Df,hF,BG,q⟩:=h
  have hu:=jT hr
  refine⟨_,ak (au (bz (own:=["lane"]) (capN:=["land", "far", "place"]) (cap:=[0,1,2]) S2 rfl (bO (aF (pv 0) L.cl M.mo Go hr M.bo .nil aq (aa (pv 2) ad)))
   (fun C s' H' fp=>⟨av (i:=0) S3 rfl (Or.inl rfl),cx (ax bv (sZ hu (pv 2) (aF (pv 1) L.cl M.me Ge hr M.be .nil aq (aa (pv 0) ad)) ⟨rfl,rfl,rfl,rfl⟩) (az c5 (py hu (pv 2) (pv 3) (fun _ _=>rfl)) ah) (aB _)),pv 0⟩))),?_⟩
  refine⟨_,rfl,lx,zx,_,rfl,hL.1,rfl,_,rfl,lx,zx,lt,(n:Int),zg,es.map zp,(p:Int),rfl,hL,by rw[length_map];omega,fun H1 O s1 hO=>?_⟩
  rw[xO]
  have s2:=s1.new (o := .lst (nV (fD es p))) hO
  have gO:(upd H1 O (.lst (nV (fD es p)))) O=some (.lst (nV (fD es p))):=ac
  generalize upd H1 O (.lst (nV (fD es p)))=H2 at s2 gO ⊢
  have Hs:=vc es p
  refine⟨O,rfl,⟨_,zb.of gO⟩,fN (fun v=>jm fs d (es.getD (vN v) (0,0)).2) (fun v=>v) (by rw[sizeLine_eq,cU];omega) (zb.of gO) ?_ ?_⟩
  ·intro v acc N hv hN
   obtain⟨k,hk,rfl⟩:=tR hv
   obtain⟨e,he1,Ey⟩:=xP hk
   have ek:vN (V.int (k:Int))=k:=toNat_natCast k
   rw[ek,Ey]at hN
   have hN:N (if jm fs d e=true then acc ++ [V.int (k:Int)] else acc) H2:=hN
   have gd:=sO (kL s2 Df) p
   rw[BG]at gd
   refine⟨_,rfl,fa,rfl, .inl ⟨_,kL s2 Df⟩,_,rfl,lx,zx,_,rfl,s2 _ _ hL.1,rfl,_,rfl,lx,zx,lt,(n:Int),zg,es.map zp,k,zp (p,e),rfl,⟨s2 _ _ hL.1,s2 _ _ hL.2.1,zl.same s2 hL.2.2⟩,by rw[List.getElem?_map,he1];rfl,_,sO (kL s2 Df) e,?_⟩
   refine⟨_,rfl,_,rfl,fa,_,rfl,gd,_,_,rfl,rfl,?_⟩
   unfold jm at hN
   cases hle:lk fs e with
   | none =>
    rw[hle]at hN
    refine⟨rfl,_,rfl,?_⟩
    exact aI hN
   | some d' =>
    rw[hle]at hN
    refine⟨rfl,_,rfl,?_⟩
    show(if decide (V.int (d':Int)=V.int ((d:Int) - 1))=true then _ else _)
    by_cases hd:d' + 1=d
    ·have hN:N (if decide (d' + 1=d)=true then acc ++ [V.int (k:Int)] else acc) H2:=hN
     rw[decide_eq_true hd,if_pos rfl]at hN
     rw[decide_eq_true (by rw[show (d:Int) - 1=(d':Int) by omega])]
     exact aK ⟨_,rfl,hN⟩
    ·have hN:N (if decide (d' + 1=d)=true then acc ++ [V.int (k:Int)] else acc) H2:=hN
     rw[decide_eq_false hd,if_neg (by decide)]at hN
     rw[decide_eq_false (fun z=>hd (by injection z with z;omega))]
     exact aI hN
  ·intro D hD
   rw[i8]
   exact q D _ (s2.new hD) (s2.free hD) ac
structure mY where
 tab:Addr
 near:Addr
noncomputable def kk (p g:Nat):gi:=[some (p:Int),some (g:Int)]
theorem CG {p g p' g':Nat}:kk p g=kk p' g'↔p=p'/\g=g':=by
 unfold kk
 constructor
 ·intro h
  have h1:=List.cons.inj h
  have h2:=List.cons.inj h1.2
  have e1:=Option.some.inj h1.1
  have e2:=Option.some.inj h2.1
  omega
 ·rintro⟨rfl,rfl⟩;rfl
noncomputable def qT (es fs:Es)(p:Nat):Option V:=(lk fs p).map fun d=>V.int (Yd.zD (cS es fs p d) 0:Nat)
noncomputable def mZ (n:Nat)(es:Es)(kvs:List dQ)(G:Nat):Prop:=(∀ g,g < G->∃ fs,yU n es g fs/\∀ p,cb kvs (kk p g)=qT es fs p)/\∀ g,G <= g->∀ p,cb kvs (kk p g)=none
noncomputable def u7 (n:Nat)(es:Es)(kvs:List dQ)(G:Nat)(fs:Es)(j:Nat):Prop:=(∀ g,g < G->∃ fs,yU n es g fs/\∀ p,cb kvs (kk p g)=qT es fs p)/\(∀ p,cb kvs (kk p G)=if p ∈ (fs.take j).map (·.1) then qT es fs p else none)/\∀ g,G < g->∀ p,cb kvs (kk p g)=none
theorem qS {n:Nat}{es:Es}{kvs:List dQ}{G:Nat}{fs:Es}(h:mZ n es kvs G):u7 n es kvs G fs 0 :=
 ⟨h.1,fun p=>by rw[h.2 G (le_refl _) p,if_neg (by simp)],fun g hg p=>h.2 g (by omega) p⟩
theorem vZ {n:Nat}{es:Es}{kvs:List dQ}{G:Nat}{fs:Es}(f:yU n es G fs)(h:u7 n es kvs G fs fs.length):mZ n es kvs (G + 1):=by
 refine⟨fun g hg=>?_,fun g hg p=>h.2.2 g (by omega) p⟩
 rcases lt_or_ge g G with h1 | h1
 ·exact h.1 g h1
 ·have e:g=G:=by omega
  subst e
  refine⟨fs,f,fun p=>?_⟩
  rw[h.2.1 p,take_length]
  by_cases hp:p ∈ fs.map (·.1)
  ·rw[if_pos hp]
  ·rw[if_neg hp];unfold qT;rw[BU.mpr hp];rfl
theorem ug {n:Nat}{es:Es}{kvs:List dQ}{G:Nat}{fs:Es}{j p d:Nat}{b:Addr}(hn:(fs.map (·.1)).Nodup)(hj:fs[j]? = some (p,d))(h:u7 n es kvs G fs j) :
  u7 n es (fA kvs (kk p G) b (.int (Yd.zD (cS es fs p d) 0:Nat))) G fs (j + 1):=by
 have BG:=iw hn (mem_of_getElem? hj)
 refine⟨fun g hg=>?_,fun p'=>?_,fun g hg p'=>?_⟩
 ·obtain⟨zI,f',h'⟩:=h.1 g hg
  refine⟨zI,f',fun p'=>?_⟩
  rw[gF,if_neg (fun z=>by have:=(CG.mp z).2;omega),h' p']
 ·rw[gF]
  by_cases e:p' = p
  ·subst e
   rw[if_pos rfl,if_pos (by rw[take_succ,hj,map_append];exact mem_append_right _ (by simp))]
   unfold qT;rw[BG];rfl
  ·rw[if_neg (fun z=>e (CG.mp z).1),h.2.1 p',take_succ,hj,map_append]
   by_cases hm:p' ∈ (fs.take j).map (·.1)
   ·rw[if_pos hm,if_pos (mem_append_left _ hm)]
   ·rw[if_neg hm,if_neg]
    intro z
    rcases mem_append.mp z with z | z
    ·exact hm z
    ·exact e (by simpa using z)
 ·rw[gF,if_neg (fun z=>by have:=(CG.mp z).2;omega),h.2.2 g hg p']
noncomputable def wm (P:Program)(w:World)(H:Hp)(ts:mY)(x dx:Addr)(lx:Addr)(de:Addr)(kvs:List dQ):Prop:=H x=some (.ins ts.near dx [("land", .ref lx),("entries", .ref de)])/\zN P w H de kvs
noncomputable def rM (P:Program)(w:World)(c:Cs)(ts:mY):Sp:=fun vs H Q _=>∃ (x dx lx zx lt:Addr)(zg:List V)(n:Nat)(es:Es),vs=[.ref x, .ref lx]/\H x=some (.ins ts.near dx [])/\cr H c lx zx lt (n:Int) zg (es.map zp)/\OZ n es/\es.length <= 100/\n <= 100 /\
 ∀ H' de kvs,Off x H H'->wm P w H' ts x dx lx de kvs->mZ n es kvs n->Q .zm H'
structure S4 (K:Frag)(mg:Str->Option Value)(ts:mY)(f1:Addr)(d1:FuncData):Prop where
 cl:BB K ts.near
 n1:zj K ts.near "land"
 n2:zj K ts.near "entries"
 mt:mg "Table" = some (.ref ts.tab)
 cm:u9 K ts.tab "__init__" f1
 bt:Binds K d1 ["self", "land"] []
noncomputable abbrev NNr:List Str:=["self", "land", "goal", "far", "place"]
theorem Fe:ao NNr ["self", "land"] (aj sA):=L2.zy
theorem vv {c:Cs}{ts:mY}{f ft fh fn fs:Addr}{fd dt dh dn ds:FuncData}(F:zt K "__init__" "Nearer.__init__" sA f fd)(T:eO mg)(L:ku K c)(B:S4 K mg ts ft dt)(G1:yX P w K mg base aD 1 ft dt ["self", "land"] (rG K))
  (mh:mg "how_far" = some (.ref fh)) (kh:keepIn K (.ref fh)=true) (bh:Binds K dh ["land", "goal"] []) (Gh:yX P w K mg base aD 2 fh dh ["land", "goal"] (wD c))
  (mn:mg "nearer_lanes" = some (.ref fn)) (kn:keepIn K (.ref fn)=true) (bn:Binds K dn ["land", "far", "place"] []) (Gn:yX P w K mg base aD 2 fn dn ["land", "far", "place"] (Mz c))
  (ms:mg "set_of" = some (.ref fs)) (ks:keepIn K (.ref fs)=true) (bs:Binds K ds ["numbers"] []) (Gs:yX P w K mg base aD 1 fs ds ["numbers"] (rH K)) :
  yX P w K mg base aD 3 f fd ["self", "land"] (rM P w c ts):=by
 refine F.ok Fe (fun vs H Q E h=>?_) (fun cdv A outer s H vs Q E hr h=>?_)
 ·obtain⟨x,dx,lx,zx,lt,zg,n,es,rfl,_⟩:=h
  rfl
 ·obtain⟨x,dx,lx,zx,lt,zg,n,es,rfl,hx,hL,Bt,DK,hn,q⟩:=h
  have zL:zi 1 _:=hr.mono (by decide)
  have hu:=jT hr
  refine⟨_,af (aR (lS (eI (v := .ref ts.tab) rfl B.mt rfl) B.cm G1 zL B.bt .nil aq (aa (pv 0) (aa (pv 1) ad))))
   (af (aY (pv 0) (show PE _ _ (r9 P w) from pk) rfl)
   (ak (bN PassesOwn.never rfl (aM rfl T.range (aa (al (pv 1) rfl) ad)) (av (i:=2) Fe.nd rfl (Or.inl rfl))
    (af (aA (i:=3) Fe.nd rfl (Or.inl rfl) (aw Gh hr rfl mh kh bh .nil aq (aa (pv 1) (aa (pv 2) ad))))
    (ak (bN PassesOwn.never rfl (uZ (pv 3)) (av (i:=4) Fe.nd rfl (Or.inl rfl))
     (ak (ph hu (al (pv 0) rfl) (aW (aa (pv 4) (aa (pv 2) ad))) (aw Gs zL rfl ms ks bs .nil aq (aa (aw Gn hr rfl mn kn bn .nil aq (aa (pv 1) (aa (pv 3) (aa (pv 4) ad)))) ad)) rfl)))))))),?_⟩
  refine⟨rfl,_,rfl,_,rfl,x,ts.near,dx,_,rfl,hx,B.cl,B.n1,?_⟩
  refine fun de C0=>⟨_,rfl,x,ts.near,dx,[("land", .ref lx)],rfl,by rw[ae (ag ac C0)];exact ac,B.cl,B.n2,by show 1 < 1000;decide,?_⟩
  have E2:x ≠ de:=ag ac C0
  have DZ:H de=none:=by rw[ae (Ne.symm E2)]at C0;exact C0
  generalize DS:upd (upd (upd H x (.ins ts.near dx [("land", .ref lx)])) de (j7 P w de [])) x (.ins ts.near dx (aL "entries" (.ref de) [("land", .ref lx)]))=H2
  have o2:Off x H H2:=fun b o hb e=>by rw[← DS,ae hb,ae (ag e DZ),ae hb];exact e
  have x2:H2 x=some (.ins ts.near dx [("land", .ref lx),("entries", .ref de)]):=by rw[← DS,ac];rfl
  have d2:zN P w H2 de []:=⟨by rw[← DS,ae (Ne.symm E2),ac],fun y hy=>by cases hy⟩
  have Bq:=Off.land o2 hx hL
  refine⟨_,rfl,lx,c.land,zx,_,_,rfl,Bq.1,L.cl,L.np,rfl,(n:Int),rfl,by omega,by omega,?_⟩
  rw[toNat_natCast]
  refine bH (n:=n) (fun G σ H3=>∃ (a2 a3 a4:Option V)(kvs:List dQ),Off x H H3/\wm P w H3 ts x dx lx de kvs/\kvs.length <= G * 100/\mZ n es kvs G/\σ=[some (.ref x),some (.ref lx),a2,a3,a4])
   ⟨none,none,none,[],o2,⟨x2,d2⟩,zero_le _,⟨fun g hg=>absurd hg (not_lt_zero _),fun g _ p=>rfl⟩,rfl⟩ ?_ ?_
  ·rintro G σ H3 hG ⟨a2,a3,a4,kvs,o3,n3,l3,e3,rfl⟩
   rw[zero_add]
   have BO:=Off.land o3 hx hL
   refine⟨_,rfl,_,rfl,lx,zx,lt,zg,n,es,G,rfl,BO,Bt,DK,hn,hG,fun fa zI H4 s4 Df hF gfa=>?_⟩
   have DQ:zI.length <= n:=by
    have:=gR n (zI.map (·.1)) hF.nd fun y hy=>by
     obtain⟨z,hz,rfl⟩:=mem_map.mp hy
     exact hF.lt z hz
    rwa [length_map]at this
   refine⟨_,rfl,fa,_,rfl,gfa,fun ob=>?_⟩
   have Xd:(upd H4 fa (.AU ob (.dK (zI.map fk)))) fa=some (.AU ob (.dK (zI.map fk))):=ac
   have s5:yW H3 (upd H4 fa (.AU ob (.dK (zI.map fk)))):=fun b o e=>by rw[ae (ag e Df)];exact s4 _ _ e
   generalize upd H4 fa (.AU ob (.dK (zI.map fk)))=H5 at Xd s5 ⊢
   have nfa:H fa=none∨fa=x:=by
    by_cases h:fa=x
    ·exact .inr h
    ·exact .inl (by cases e:H fa with | none=>rfl | some o=>rw[o3 _ _ h e]at Df;cases Df)
   refine ud (a:=fa) (o:=ob) (kvs:=zI.map fk) (fun j σ H6=>∃ (a4:Option V)(kvs:List dQ),Off x H H6/\wm P w H6 ts x dx lx de kvs/\kvs.length <= G * 100 + j/\u7 n es kvs G zI j/\H6 fa=some (.AU ob (.dK (zI.map fk)))/\σ=[some (.ref x),some (.ref lx),some (.int G),some (.ref fa),a4])
    ⟨_,kvs,o3.same s5,⟨s5 _ _ n3.1,n3.2.same s5⟩,l3,qS e3,Xd,rfl⟩ (fun j σ H6 _ ⟨_,_,_,_,_,_,g6,_⟩=>g6) ?_ ?_
   ·rintro j k σ H6 hk ⟨a4,kvs,o6,n6,l6,e6,g6,rfl⟩
    have hj:j < zI.length:=by have:=(List.getElem?_eq_some_iff.mp hk).1;simpa using this
    have hjp:=List.getElem?_eq_getElem hj
    generalize zI[j]=pd at hjp
    obtain⟨p,d⟩:=pd
    have ek:k=Sum.inl (p:Int):=by
     rw[List.getElem?_map,List.getElem?_map,hjp]at hk
     exact(Option.some.inj hk).symm
    subst ek
    rw[show kV (Sum.inl (p:Int))=V.int (p:Int) from rfl]
    have BG:=iw hF.nd (mem_of_getElem? hjp)
    have hL6:=Off.land o6 hx hL
    refine⟨_,rfl,_,rfl,_,rfl,lx,zx,lt,fa,zg,n,es,zI,G,p,d,rfl,hL6,DK, .inr ⟨_,g6⟩,hF,BG,fun O H7 s7 hO gO=>?_⟩
    refine⟨O,cS es zI p d,rfl,zb.of gO,fun k hk=>by have:=pB hk;omega,?_⟩
    have n7x:=s7 _ _ n6.1
    refine⟨_,rfl,x,ts.near,dx,_,_,rfl,n7x,B.cl,B.n2,rfl,_,rfl,_,rfl,by show 2 <= sizeLine;decide,fun kt Rr=>?_⟩
    have s8:=s7.new (o := .tup [.int p, .int G]) Rr
    have k8:(upd H7 kt (.tup [.int p, .int G])) kt=some (.tup ((kk p G).map rj)):=ac
    generalize upd H7 kt (.tup [.int p, .int G])=H8 at s8 k8 ⊢
    have d8:=n6.2.same s8
    refine⟨de,kvs,kk p G,kt,rfl,d8,rfl,k8,by rw[sizeLine_eq];have:G * 100 <= 100 * 100:=Nat.mul_le_mul_right _ (by omega);omega,?_⟩
    have nfd:fa ≠ de:=fun z=>by
     have h1:=s8 _ _ g6
     rw[z,d8.1]at h1
     cases h1
    have M4:∀ b ks,H8 b=some (.tup ks)->(upd H8 de (j7 P w de (fA kvs (kk p G) kt (.int (Yd.zD (cS es zI p d) 0:Nat))))) b=some (.tup ks):=fun b ks e=>by
     rw[ae (fun z=>by rw[z,d8.1]at e;cases e)];exact e
    refine⟨_,fA kvs (kk p G) kt (.int (Yd.zD (cS es zI p d) 0:Nat)),fun b o hb e=>?_,⟨?_,ac,jH (F:=fun k a=>(upd H8 de (j7 P w de (fA kvs (kk p G) kt (.int (Yd.zD (cS es zI p d) 0:Nat))))) a=some (.tup (k.map rj))) (fun y hy=>M4 _ _ (d8.2 y hy)) (M4 _ _ k8)⟩,?_,ug hF.nd hjp e6,?_,rfl⟩
    ·rw[ae (ag e DZ)];exact s8 _ _ (o6 _ _ hb e)
    ·rw[ae E2];exact s8 _ _ n6.1
    ·have:=fz (kvs:=kvs) (k:=kk p G) (b:=kt) (v := .int (Yd.zD (cS es zI p d) 0:Nat));omega
    ·rw[ae nfd];exact s8 _ _ g6
   ·rintro σ H6 ⟨a4,kvs,o6,n6,l6,e6,g6,rfl⟩
    rw[length_map]at l6 e6
    refine⟨_,_,_,kvs,o6,n6,?_,vZ hF e6,rfl⟩
    rw[Nat.succ_mul];omega
  ·rintro σ H3 ⟨a2,a3,a4,kvs,o3,n3,l3,e3,rfl⟩
   exact q H3 de kvs o3 n3 e3
noncomputable def kz (es fs:Es)(p:Nat):List Nat:=match lk fs p with
 | some d=>cS es fs p d
 | none=>[]
theorem lu (es fs:Es)(p:Nat):(kz es fs p).Pairwise (· < ·):=by
 unfold kz
 split
 ·exact qG _ _ _ _
 ·exact List.Pairwise.nil
theorem rn {es fs:Es}{p k:Nat}(h:k ∈ kz es fs p):k < es.length:=by
 unfold kz at h
 split at h
 ·exact pB h
 ·cases h
theorem pF {H:Hp}{l:Addr}{xs:List V}{o:HO}(hl:H l=some (.lst xs)):∀ {vs:List V}{ps:List (Int × Int)},zl H vs ps->zl (upd H l o) vs ps
 | _,_, .nil => .nil
 | _,_, .cons ⟨t,e,q⟩ r => .cons ⟨t,e,by rw[ae (aZ q hl (by intro z;cases z))];exact q⟩ (pF hl r)
theorem vM {ks:List Nat}(h:ks.Pairwise (· < ·)):mN (Yd.zD ks 0)=ks:=tS (m6 h)
noncomputable def M5 (kvs:List dQ):Wf:=fun p g _=>mN (vN ((cb kvs (kk p g)).getD (.int 0)))
noncomputable def Jl (P:Program)(w:World)(ts:mY):TJ:=fun H x n wy=>∃ (dx lx de:Addr)(kvs:List dQ)(es:Es),wm P w H ts x dx lx de kvs/\mZ n es kvs n/\es.length <= 100/\∀ p g k,p < n->g < n->wy p g k=M5 kvs p g k
theorem oK {n:Nat}{es:Es}{kvs:List dQ}(h:mZ n es kvs n){g:Nat}(hg:g < n)(p:Nat)(k:Option Nat):∃ fs,yU n es g fs/\M5 kvs p g k=kz es fs p/\(cb kvs (kk p g)).getD (.int 0) = .int (Yd.zD (kz es fs p) 0:Nat):=by
 obtain⟨fs,hF,hv⟩:=h.1 g hg
 have ev:(cb kvs (kk p g)).getD (.int 0) = .int (Yd.zD (kz es fs p) 0:Nat):=by
  rw[hv p]
  unfold qT kz
  cases lk fs p<;>rfl
 refine⟨fs,hF,?_,ev⟩
 unfold M5
 rw[ev]
 show mN (((Yd.zD (kz es fs p) 0:Nat):Int)).toNat=_
 rw[toNat_natCast,vM (lu es fs p)]
theorem wR {n:Nat}{es:Es}{kvs:List dQ}(h:mZ n es kvs n){g p z:Nat}{k:Option Nat}(hg:g < n)(hz:z ∈ M5 kvs p g k):z < es.length:=by
 obtain⟨fs,_,e,_⟩:=oK h hg p k
 rw[e]at hz
 exact rn hz
theorem Jl.keep {P:Program}{w:World}{ts:mY}{H H':Hp}{x:Addr}{n:Nat}{wy:Wf}(h:Jl P w ts H x n wy)(k:zA H H'):Jl P w ts H' x n wy:=by
 obtain⟨dx,lx,de,kvs,es,⟨h1,h2,h3⟩,h4⟩:=h
 exact⟨dx,lx,de,kvs,es,⟨k _ _ h1 True.intro,k _ _ h2 True.intro,fun y hy=>k _ _ (h3 y hy) True.intro⟩,h4⟩
noncomputable def oW:Sp:=fun vs H Q _=>∃ (n m:Nat)(c:Int),vs=[.int n, .int m, .int c]/\2 <= n/\n <= 12/\m <= 100/\∀ (D:Addr)(lvs:List V)(es:Es)(H':Hp),yW H H'->H D=none->H' D=some (.lst lvs)->zl H' lvs (es.map zp)->OZ n es->(∀ e ∈ es,e.1 ≠ e.2)->es.length=m->Q (.ref D) H'
noncomputable abbrev NLn:List Str:=["_law_places", "_law_amount", "_law_cell", "_law_lanes_here", "_law_k", "_law_draw", "_law_start"]
theorem uL:ao ["self", "lane"] ["self", "lane"] (aj nG):=L2.zy
theorem t7 {c:Cs}{f:Addr}{fd:FuncData}(F:zt K "start_of" "Land.start_of" nG f fd)(L:ku K c):yX P w K mg base aD 1 f fd ["self", "lane"] (lD c Prod.fst):=by
 refine F.ok uL (fun vs H Q E h=>?_) (fun cdv A outer s H vs Q E hr h=>?_)
 ·obtain⟨x,dx,t,n,zg,ps,k,pr,rfl,_⟩:=h
  rfl
 ·obtain⟨x,dx,t,n,zg,ps,k,pr,rfl,⟨hx,ht,hl⟩,hk,q⟩:=h
  refine⟨_,ak (au (ap ar (ap ar (al (pv 0) rfl) (pv 1) (fun _ _=>rfl)) ah (fun _ _=>rfl))),?_⟩
  obtain⟨v,hv,u,rfl,hu⟩:=zl.CD hl hk
  refine⟨_,rfl,x,c.land,dx,_,_,rfl,hx,L.cl,L.nl,rfl,_,rfl,t,_,_,_,rfl,rfl,zc.of ht,ai hv,u,_,0,_,rfl,rfl,zc.of hu,ai (j:=0) rfl,q⟩
theorem S5:ao ["self", "place", "goal", "came"] ["self", "place", "goal", "came"] (aj sj):=L2.zy
theorem tu {ts:mY}{f fm f1:Addr}{fd dm d1:FuncData}(F:zt K "ways" "Nearer.ways" sj f fd)(B:S4 K mg ts f1 d1)(mm:mg "members" = some (.ref fm))(km:keepIn K (.ref fm)=true)(bm:Binds K dm ["some"] [])
  (Gm:yX P w K mg base aD 2 fm dm ["some"] rN):yX P w K mg base aD 3 f fd ["self", "place", "goal", "came"] (eC (Jl P w ts)):=by
 refine F.ok S5 (fun vs H Q E h=>?_) (fun cdv A outer s H vs Q E hr h=>?_)
 ·obtain⟨x,n,wy,p,g,k,rfl,_⟩:=h
  rfl
 ·obtain⟨x,n,wy,p,g,k,rfl,⟨dx,lx,de,kvs,es,hx,hE,DK,hwy⟩,hp,hg,q⟩:=h
  rw[hwy p g k hp hg]at q
  have hu:=jT hr
  refine⟨_,ak (au (aw Gm hr rfl mm km bm .nil aq (aa (lR hu (al (pv 0) rfl) (aa (aW (aa (pv 1) (aa (pv 2) ad))) (aa ah ad))) ad))),?_⟩
  refine⟨_,rfl,x,ts.near,dx,_,_,rfl,hx.1,B.cl,B.n2,rfl,de,kvs,rfl,hx.2,?_⟩
  refine⟨_,rfl,_,rfl,by show 2 <= sizeLine;decide,fun t ht=>?_⟩
  have s1:yW H (upd H t (.tup [.int p, .int g])):=(yW.refl H).new ht
  refine⟨_,_,cb kvs (kk p g),rfl,⟨kvs,kk p g,t,hx.2.same s1,rfl,ac,rfl⟩,?_⟩
  obtain⟨fs,hF,ew,ev⟩:=oK hE hg p k
  rw[ev]
  refine⟨_,rfl,lt_of_lt_of_le (rZ fun k hk=>rn hk) (pow_le_pow_right (by decide) (by omega)),fun D hD=>?_⟩
  exact q D _ (s1.new hD) (s1.free hD) (by rw[ac,m6 (lu es fs p),ew])
theorem Ej:ao NLn ["_law_places", "_law_amount", "_law_cell"] (aj nK):=L2.zy
theorem tJ {f fm:Addr}{fd dm:FuncData}(F:zt K "_law_lanes" "_law_lanes" nK f fd)(T:eO mg)(mm:mg "_law_mixed" = some (.ref fm))(km:keepIn K (.ref fm)=true)(bm:Binds K dm ["_law_cell", "_law_k"] [])
  (Gm:yX P w K mg base aD 1 fm dm ["_law_cell", "_law_k"] l9):yX P w K mg base aD 2 f fd ["_law_places", "_law_amount", "_law_cell"] oW:=by
 refine F.ok Ej (fun vs H Q E h=>?_) (fun cdv A outer s H vs Q E hr h=>?_)
 ·obtain⟨n,m,c,rfl,_⟩:=h
  rfl
 ·obtain⟨n,m,c,rfl,DB,EO,hm,q⟩:=h
  refine⟨_,af (aA (i:=3) Ej.nd rfl (Or.inl rfl) (aV ad))
   (af (bN PassesOwn.never rfl (aM rfl T.range (aa (pv 1) ad)) (av (i:=4) Ej.nd rfl (Or.inl rfl))
    (af (aA (i:=5) Ej.nd rfl (Or.inl rfl) (aw Gm hr rfl mm km bm .nil aq (aa (pv 2) (aa (pv 4) ad))))
    (af (aA (i:=6) Ej.nd rfl (Or.inl rfl) (az bX (pv 5) (pv 0)))
    (ak (aR (cz plainAttrs_list PySem.F.slot_list_append PySem.F.type_list_append bG (pv 3) (aa (aW (aa (pv 6) (aa (az bX (az bB (az bB (pv 6) ah) (az bX (az fT (pv 5) ah) (az c5 (pv 0) ah))) (pv 0)) ad))) ad)))))))
   (ak (au (pv 3)))),?_⟩
  have two:(2:Nat) <= sizeLine:=by decide
  refine⟨zero_le _,fun D hD=>?_⟩
  have s0:=(yW.refl H).new (o := .lst []) hD
  refine⟨_,rfl,(m:Int),rfl,by omega,by omega,?_⟩
  rw[toNat_natCast]
  refine bH (n:=m) (fun i σ H2=>∃ (a3 a4 a5:Option V)(lvs:List V)(es:Es),yW H H2/\H2 D=some (.lst lvs)/\zl H2 lvs (es.map zp)/\OZ n es/\(∀ e ∈ es,e.1 ≠ e.2)/\es.length=i/\σ=[some (.int n),some (.int m),some (.int c),some (.ref D),a3,a4,a5])
   ⟨none,none,none,[],[],s0,ac, .nil,(fun e he=>by cases he),(fun e he=>by cases he),rfl,rfl⟩ ?_ ?_
  ·rintro i σ H2 hi ⟨a3,a4,a5,lvs,es,s2,gD,Pb,Bt,Bx,hl,rfl⟩
   have Pc:(0:Int) < (n:Int):=by omega
   have Xe:(0:Int) < (n:Int) - 1:=by omega
   rw[zero_add]
   refine⟨_,rfl,_,rfl,c,i,rfl,by omega,fun d hd=>?_⟩
   refine⟨_,rfl,_,rfl,_,_,rfl,rfl,Pc,?_⟩
   refine⟨_,rfl, .inl ⟨rfl,_,zb.of gD⟩,_,rfl,_,rfl,_,_,rfl,rfl,_,rfl,_,_,rfl,rfl,⟨by decide,by decide⟩,_,rfl,_,_,rfl,rfl,_,_,rfl,rfl,Xe,_,_,rfl,rfl,_,rfl,_,_,rfl,rfl,Pc,two,fun t1 h1=>?_⟩
   dsimp only at h1 ⊢
   have e1:=emod_nonneg d (show (n:Int) ≠ 0 by omega)
   have e2:=emod_lt_of_pos d Pc
   have e3:=emod_nonneg (d / 16) (show (n:Int) - 1 ≠ 0 by omega)
   have e4:=emod_lt_of_pos (d / 16) Xe
   generalize d % (n:Int)=st at e1 e2 h1 ⊢
   generalize d / 16 % ((n:Int) - 1)=Cv at e3 e4 h1 ⊢
   have e5:=emod_nonneg (st + 1 + Cv) (show (n:Int) ≠ 0 by omega)
   have e6:=emod_lt_of_pos (st + 1 + Cv) Pc
   have e7:(st + 1 + Cv) % (n:Int) ≠ st:=by
    intro z
    rcases Int.lt_or_le (st + 1 + Cv) (n:Int) with h | h
    ·rw[Int.emod_eq_of_lt (by omega) h]at z;omega
    ·have:(st + 1 + Cv) % (n:Int)=st + 1 + Cv - n:=by
      rw[show st + 1 + Cv = (st + 1 + Cv - n) + n by omega,Int.add_emod_right,Int.emod_eq_of_lt (by omega) (by omega)];omega
     omega
   generalize (st + 1 + Cv) % (n:Int)=en at e5 e6 e7 h1 ⊢
   obtain⟨s',Ja,S6⟩:∃ s':Nat,st=(s':Int)/\s' < n:=⟨st.toNat,by omega,by omega⟩
   obtain⟨n',BW,S7⟩:∃ n':Nat,en=(n':Int)/\n' < n:=⟨en.toNat,by omega,by omega⟩
   subst Ja BW
   have u1:=(yW.refl H2).new (o := .tup [.int (s':Int), .int (n':Int)]) h1
   have v1:(upd H2 t1 (.tup [.int (s':Int), .int (n':Int)])) t1=some (.tup [.int (s':Int), .int (n':Int)]):=ac
   have nT:t1 ≠ D:=Ne.symm (ag gD h1)
   generalize upd H2 t1 (.tup [.int (s':Int), .int (n':Int)])=H3 at u1 v1 ⊢
   have Xf:=u1 _ _ gD
   have DH:lvs.length=es.length:=by rw[Paired.length Pb,length_map]
   refine⟨D,lvs,_,rfl,rfl,Xf,by rw[sizeLine_eq];omega,?_⟩
   refine⟨_,_,_,lvs ++ [.ref t1],es ++ [(s',n')],fun b o e=>by rw[ae (ag e hD)];exact u1 _ _ (s2 _ _ e),ac,?_,fun e he=>?_,fun e he=>?_,by rw[length_append,hl];rfl,rfl⟩
   ·rw[map_append]
    exact zl.snoc (p:=zp (s',n')) ⟨t1,rfl,by rw[ae nT];exact v1⟩ (pF Xf (zl.same u1 Pb))
   ·rcases mem_append.mp he with he | he
    ·exact Bt e he
    ·rw[mem_singleton.mp he];exact⟨S6,S7⟩
   ·rcases mem_append.mp he with he | he
    ·exact Bx e he
    ·rw[mem_singleton.mp he];show s' ≠ n';omega
  ·rintro σ H2 ⟨a3,a4,a5,lvs,es,s2,gD,Pb,Bt,Bx,hl,rfl⟩
   exact⟨_,rfl,q D lvs es H2 s2 hD gD Pb Bt Bx hl⟩
noncomputable def uB:Option Nat->Nat
 | none=>0
 | some k=>k + 1
noncomputable def sN (r:Rw):Nat:=(r.p.toNat * 100 + r.g.toNat) * 100 + uB r.c
theorem y1 {a b:Rw}(h:bj a=bj b):sN a=sN b:=by
 unfold bj at h
 injection h with h1 h2
 injection h2 with h2 h3
 injection h3 with h3 _
 injection h1 with h1
 injection h2 with h2
 have h4:a.c=b.c:=by
  cases ha:a.c with
  | none=>cases hb:b.c with
   | none=>rfl
   | some k=>rw[ha,hb]at h3;cases h3
  | some k=>cases hb:b.c with
   | none=>rw[ha,hb]at h3;cases h3
   | some k' =>
    rw[ha,hb]at h3
    have h3:some (k:Int)=some (k':Int):=h3
    injection h3 with h3
    rw[show k=k' by omega]
 unfold sN
 rw[h1,h2,h4]
structure Dh (n:Nat)(ps:List (Int × Int))(B:Nat)(rs:List Rw):Prop where
 sort:(rs.map sN).Pairwise (· < ·)
 low:∀ r ∈ rs,sN r < B
 fit:∀ r ∈ rs,eW n ps r=true
 zX:∀ r ∈ rs,r.s.length <= 40
theorem Dh.up {n:Nat}{ps:List (Int × Int)}{B B':Nat}{rs:List Rw}(h:Dh n ps B rs)(l:B <= B'):Dh n ps B' rs:=⟨h.sort,fun r hr=>lt_of_lt_of_le (h.low r hr) l,h.fit,h.zX⟩
theorem Dh.snoc {n:Nat}{ps:List (Int × Int)}{B:Nat}{rs:List Rw}{r:Rw}(h:Dh n ps B rs)(hr:B <= sN r)(hf:eW n ps r=true)(hl:r.s.length <= 40):Dh n ps (sN r + 1) (rs ++ [r]):=by
 refine⟨?_,fun x hx=>?_,fun x hx=>?_,fun x hx=>?_⟩
 ·rw[map_append,List.pairwise_append]
  refine⟨h.sort,by simp,fun x hx y hy=>?_⟩
  obtain⟨r',F3,rfl⟩:=mem_map.mp hx
  have hy:y=sN r:=by simpa using hy
  rw[hy]
  exact lt_of_lt_of_le (h.low r' F3) hr
 ·rcases mem_append.mp hx with hx | hx
  ·have:=h.low x hx;omega
  ·rw[mem_singleton.mp hx];omega
 ·rcases mem_append.mp hx with hx | hx
  ·exact h.fit x hx
  ·rw[mem_singleton.mp hx];exact hf
 ·rcases mem_append.mp hx with hx | hx
  ·exact h.zX x hx
  ·rw[mem_singleton.mp hx];exact hl
theorem Dh.good {n:Nat}{ps:List (Int × Int)}{B:Nat}{rs:List Rw}(h:Dh n ps B rs):du n ps rs rs.length=none:=by
 refine ge fun k hk=>?_
 have hr:rs[k]? = some rs[k]:=List.getElem?_eq_getElem hk
 have Jb:rs.getD k ⟨0,0,none,[]⟩ = rs[k]:=by rw[getD_eq_getElem?_getD,hr];rfl
 rw[Jb,ig,h.fit _ (getElem_mem hk)]
 have S8:((rs.take k).any fun a=>decide (bj a=bj rs[k]))=false:=by
  rw[List.any_eq_false]
  intro a ha hd
  have e:=y1 (of_decide_eq_true hd)
  obtain⟨j,hj,ea⟩:=List.mem_take_iff_getElem.mp ha
  have hj':j < k:=by omega
  have:=pairwise_iff_getElem.mp h.sort j k (by rw[length_map];omega) (by rw[length_map];exact hk) hj'
  rw[List.getElem_map,List.getElem_map,ea]at this
  omega
 rw[S8];rfl
theorem jU {n:Int}{ps:List (Int × Int)}{r:Rw}(h:eW n ps r=true):∀ k ∈ r.s,k < ps.length:=by
 unfold eW at h
 simp only[Bool.and_eq_true,all_eq_true,decide_eq_true_eq]at h
 intro k hk
 exact mem_range.mp (mem_filter.mp (h.2.2 k hk)).1
noncomputable def lw (rs:List Rw)(k:gi):Nat:=match dZ rs k with
 | some r=>Yd.zD r.s 0
 | none=>0
theorem m9 {rs:List Rw}{k:gi}{r:Rw}(h:dZ rs k=some r):r ∈ rs:=mem_reverse.mp (List.mem_of_find?_eq_some h)
noncomputable def Jm (rs:List Rw):Wf:=fun p g k=>mN (lw rs (bj ⟨(p:Int),(g:Int),k,[]⟩))
noncomputable def BH (P:Program)(w:World)(ts:Ts):TJ:=fun H x n wy=>∃ (dx de:Addr)(lv:V)(kvs:List dQ)(rs:List Rw),H x=some (.ins ts.told dx [("land",lv),("entries", .ref de)])/\zN P w H de kvs/\(∀ k,cb kvs k=(dZ rs k).map sh)/\(∀ r ∈ rs,∀ k ∈ r.s,k < 40)/\wy=Jm rs
theorem BH.keep {P:Program}{w:World}{ts:Ts}{H H':Hp}{x:Addr}{n:Nat}{wy:Wf}(h:BH P w ts H x n wy)(k:zA H H'):BH P w ts H' x n wy:=by
 obtain⟨dx,de,lv,kvs,rs,h1,⟨h2,h3⟩,h4⟩:=h
 exact⟨dx,de,lv,kvs,rs,k _ _ h1 True.intro,⟨k _ _ h2 True.intro,fun y hy=>k _ _ (h3 y hy) True.intro⟩,h4⟩
theorem yu {ks:List Nat}{z:Nat}(h:z ∈ mN (Yd.zD ks 0)):z ∈ ks:=by
 have:=(mem_filter.mp h).2
 have h2:(Yd.zD ks 0).testBit z=true:=this
 rw[qd,decide_eq_true_eq]at h2
 obtain⟨n,hn,e⟩:=Al.mp h2
 have:n=z:=by omega
 exact this ▸ hn
theorem m7 (m:Nat):(mN m).Nodup:=List.nodup_range.filter _
theorem rl {rs:List Rw}{n:Nat}(h:∀ r ∈ rs,∀ k ∈ r.s,k < n)(p g:Nat)(k:Option Nat):(∀ z ∈ Jm rs p g k,z < n)/\(Jm rs p g k).length <= n:=by
 have h1:∀ z ∈ Jm rs p g k,z < n:=fun z hz=>by
  unfold Jm lw at hz
  cases hl:dZ rs (bj ⟨(p:Int),(g:Int),k,[]⟩) with
  | none=>rw[hl]at hz;exact absurd hz (by show z ∉ mN 0;intro h;cases h)
  | some r=>rw[hl]at hz;exact h r (m9 hl) z (yu hz)
 exact⟨h1,dW n _ (m7 _) h1⟩
theorem nk {ts:Ts}{f:Addr}{fd:FuncData}(G:yX P w K mg base aD 3 f fd ["self", "place", "goal", "came"] (oN P w ts)):yX P w K mg base aD 3 f fd ["self", "place", "goal", "came"] (eC (BH P w ts)) :=
 G.imp fun vs H Q E zo=>by
 obtain⟨x,n,wy,p,g,k,e,⟨dx,de,lv,kvs,rs,h1,h2,h3,h4,h5⟩,hp,hg,q⟩:=zo
 exact⟨x,dx,de,lv,kvs,⟨(p:Int),(g:Int),k,[]⟩,lw rs (bj ⟨(p:Int),(g:Int),k,[]⟩),e,h1,h2,by
  rw[h3]
  unfold lw
  cases dZ rs (bj ⟨(p:Int),(g:Int),k,[]⟩)<;>rfl,by
  unfold lw
  cases hl:dZ rs (bj ⟨(p:Int),(g:Int),k,[]⟩) with
  | none=>exact Nat.two_pow_pos _
  | some r=>exact lt_of_lt_of_le (rZ (h4 r (m9 hl))) (pow_le_pow_right (by decide) (by decide)),fun H' D s' hD=>q D _ (s'.new hD) (s'.free hD) (by rw[ac,h5];rfl)⟩
theorem pU {sel:Int × Int->Int}{ps:List (Int × Int)}{pl:Int}{g:TG}{tt:TT}{te:TE}{σ0:St}{H:Hp}{Q:VK}(hn:ps.length < sizeLine)
  (hs:∀ (i:Nat)(acc:List V)(N:List V->Hp->Prop)(pr:Int × Int),ps[i]? = some pr->N (if decide (sel pr=pl)=true then acc ++ [V.int i] else acc) H->g (.int i) σ0 H fun σ2 H2=>tt σ2 H2 fun b H3=>if b=true then te σ2 H3 fun y H4=>N (acc ++ [y]) H4 else N acc H3)
  (hq:∀ D,H D=none->Q (.ref D) (upd H D (.lst (bR (eV sel ps pl))))):dF (u0 0 ps.length) g tt te σ0 Q H:=by
 refine mO (lo:=0) (fun k=>decide (sel (ps.getD k (0,0))=pl)) (fun k=>V.int k) hn (fun i acc N hi h=>?_) hq
 obtain⟨pr,hpr⟩:∃ pr,ps[i]? = some pr:=⟨ps[i],List.getElem?_eq_getElem hi⟩
 have eg:ps.getD i (0,0)=pr:=by rw[getD_eq_getElem?_getD,hpr];rfl
 rw[zero_add]
 rw[eg]at h
 exact hs i acc N pr hpr h
noncomputable def S9 (x:Addr)(H:Hp)(v:V)(r:Rw):Prop:=∃ t l,v = .ref t/\HA H t l r/\l ≠ x
noncomputable abbrev Bu (x:Addr)(H:Hp):List V->List Rw->Prop:=Paired (S9 x H)
theorem Bu.imp {x:Addr}{H H':Hp}{G:V->Rw->Prop}(h:∀ v r,S9 x H v r->G v r):∀ {vs:List V}{rs:List Rw},Bu x H vs rs->Paired G vs rs
 | _,_, .nil => .nil
 | _,_, .cons z r => .cons (h _ _ z) (Bu.imp (H':=H') h r)
theorem Bu.rws {x:Addr}{H:Hp}{vs:List V}{rs:List Rw}(h:Bu x H vs rs):C1 H vs rs:=Bu.imp (H':=H) (fun _ _ ⟨t,l,e,z,_⟩=>⟨t,l,e,z⟩) h
theorem Bu.same {x:Addr}{H H':Hp}(s:yW H H'){vs:List V}{rs:List Rw}(h:Bu x H vs rs):Bu x H' vs rs:=Bu.imp (H':=H) (fun _ _ ⟨t,l,e,z,n⟩=>⟨t,l,e,z.same s,n⟩) h
theorem Bu.off {x:Addr}{H:Hp}{xs:List V}{o:HO}(hx:H x=some (.lst xs)){vs:List V}{rs:List Rw}(h:Bu x H vs rs):Bu x (upd H x o) vs rs :=
 Bu.imp (H':=H) (fun _ _ ⟨t,l,e,z,n⟩=>⟨t,l,e,⟨by rw[ae (aZ z.1 hx (by intro z;cases z))];exact z.1,by rw[ae n];exact z.2⟩,n⟩) h
theorem Bu.snoc {x:Addr}{H:Hp}{v:V}{r:Rw}(h:S9 x H v r):∀ {vs:List V}{rs:List Rw},Bu x H vs rs->Bu x H (vs ++ [v]) (rs ++ [r])
 | _,_, .nil => .cons h .nil
 | _,_, .cons z t => .cons z (Bu.snoc h t)
theorem SA (m k:Nat):decide (V.int (Builtin.bitAnd ((m:Int) / 2 ^ (k:Int).toNat) 1)=V.int 1)=m.testBit k:=by
 rw[gq,toNat_natCast,← Yd.CQ m k]
theorem qY {K:Frag}{a:Addr}{xs:List Nat}{g:TG}{tt:TT}{te:TE}{σ0:St}{H:Hp}{Q:VK}(q:Nat->Bool)(hn:xs.length < sizeLine)(ha:zb K H a (bR xs))
  (hs:∀ (k:Nat)(acc:List V)(N:List V->Hp->Prop),k ∈ xs->N (if q k then acc ++ [V.int (k:Int)] else acc) H->g (.int (k:Int)) σ0 H fun σ2 H2=>tt σ2 H2 fun b H3=>if b=true then te σ2 H3 fun y H4=>N (acc ++ [y]) H4 else N acc H3)
  (hq:∀ D,H D=none->Q (.ref D) (upd H D (.lst (bR (xs.filter q))))):dF (uC K a) g tt te σ0 Q H:=by
 refine fN (xs:=bR xs) (fun v=>match v with | .int k=>q k.toNat | _=>false) (fun v=>v) (by unfold bR;rw[length_map];exact hn) ha (fun x acc N hx h=>?_) fun D hD=>?_
 ·obtain⟨k,hk,rfl⟩:=mem_map.mp hx
  exact hs k acc N hk h
 ·have e:((bR xs).filter (fun v=>match v with | .int k=>q k.toNat | _=>false)).map (fun v=>v)=bR (xs.filter q):=by
   unfold bR
   rw[List.map_id'',List.filter_map]
   ·congr 1
   ·intro _;rfl
  rw[e]
  exact hq D hD
theorem Dh.len {n:Nat}{ps:List (Int × Int)}{B:Nat}{rs:List Rw}(h:Dh n ps B rs):rs.length <= B:=by
 have:=dW B (rs.map sN) (h.sort.imp fun h=>ne_of_lt h) fun x hx=>by
  obtain⟨r,hr,rfl⟩:=mem_map.mp hx
  exact h.low r hr
 rw[length_map]at this
 exact this
theorem ui {n:Nat}{ps:List (Int × Int)}(h1:1 <= n)(h2:n <= 12)(h3:ps.length <= 40)(h:∀ p ∈ ps,j8 n p=true):fL n ps = .good:=by
 unfold fL
 rw[decide_eq_true (show (1:Int) <= (n:Int)/\(n:Int) <= 12 by omega),if_neg (by decide),if_neg (by omega),j5 h]
noncomputable def re (s:Stmt):Scope:=match s with
 | .Assign _ (.ListComp _ _ sc _) _=>sc
 | _=>{ kind := .function,names:=[],isGenerator:=false,isCoroutine:=false }
noncomputable def qD (b:List Stmt)(i:Nat):Stmt:=b.getD i (.Pass ⟨0,0,0,0⟩)
noncomputable def oz (s:Stmt):List Stmt:=match s with
 | .For _ _ b _ _=>b
 | _=>[]
noncomputable def yR (x:V):Prop:=(∃ i,x = .int i)∨∃ t,x = .str t/\PyData.strOk t=true
structure E5 (a:YA)(s:YS):Prop where
 lanes:s.lanes.length=a.ps.length
 lies:s.lies.length=a.n
 q0:∀ (k:Nat)(ln:bV),s.lanes[k]? = some ln->ln.qs=[]
 l0:∀ (p:Nat)(qs:List (Int × Int)),s.lies[p]? = some qs->qs=[]
 lets:∀ (m:Nat)(t:ci),s.U[m]? = some t->t.gone=0/\t.way=[]/\0 <= t.len/\t.len <= 60/\∃ x y:Nat,t.start=(x:Int)/\t.goal=(y:Int)/\x < a.n/\y < a.n
 done:∀ d ∈ s.done,∀ x ∈ d,yR x
theorem xh {α:Type}(f:α->Nat):∀ {L:List α},(∀ (k:Nat)(x:α),L[k]? = some x->f x=0)->(L.map f).sum=0
 | [],_=>rfl
 | x :: L,h=>by
  have h1:=h 0 x rfl
  have h2:=xh f (L:=L) fun k y hy=>h (k + 1) y hy
  simp only[map_cons,sum_cons];omega
theorem wt {α:Type}(f:α->Int):∀ {L:List α},(∀ (k:Nat)(x:α),L[k]? = some x->f x=0)->(L.map f).sum=0
 | [],_=>rfl
 | x :: L,h=>by
  have h1:=h 0 x rfl
  have h2:=wt f (L:=L) fun k y hy=>h (k + 1) y hy
  simp only[map_cons,sum_cons];omega
theorem E5.jnv {a:YA}{s:YS}(h:E5 a s)(zX:s.U.length <= 60)(Eh:a.ps.length <= 40):AX a s:=by
 refine⟨h.lanes,h.lies,zX,Eh,fun m t ht=>(h.lets m t ht).2.2.2.2,fun m t ht=>?_,fun k ln hk q hq=>?_,fun m t ht=>?_,fun m t ht _=>(h.lets m t ht).2.1,fun m t ht i l hi=>?_,fun m t ht l ln hl=>?_,fun k ln hk i j z q hi=>?_,fun k ln hk m t hm=>?_,?_⟩
 ·rw[(h.lets m t ht).2.1];exact⟨(fun l hl=>by cases hl),nodup_nil⟩
 ·rw[h.q0 k ln hk]at hq;cases hq
 ·obtain⟨h1,h2,h3,h4,_⟩:=h.lets m t ht
  rw[h1];exact⟨by omega,h3,h4⟩
 ·rw[(h.lets m t ht).2.1]at hi;cases hi
 ·rw[(h.lets m t ht).2.1]at hl;cases hl
 ·rw[h.q0 k ln hk]at hi;cases hi
 ·rw[h.q0 k ln hk]at hm;cases hm
 ·have h1:j9 s=0:=xh _ fun k ln hk=>by rw[h.q0 k ln hk];rfl
  have h2:iY s=0:=xh _ fun p qs hp=>by rw[h.l0 p qs hp];rfl
  have h3:iB s=0:=wt _ fun m t ht=>(h.lets m t ht).1
  rw[h1,h2,h3];rfl
theorem E5.post {a:YA}{s:YS}(h:E5 a s){x y:Nat}{l u:Int}(hx:x < a.n)(hy:y < a.n)(hl:0 <= l/\l <= 60):E5 a (pi s x y l u):=by
 refine⟨h.lanes,h.lies,h.q0,h.l0,fun m t ht=>?_,fun d hd z hz=>?_⟩
 ·have ht:(s.U ++ [⟨(x:Int),(y:Int),l,u,0,[]⟩])[m]? = some t:=ht
  by_cases hm:m < s.U.length
  ·rw[List.getElem?_append_left hm]at ht;exact h.lets m t ht
  ·have h3:=(List.getElem?_eq_some_iff.mp ht).1
   rw[length_append,length_singleton]at h3
   have em:m=s.U.length:=by omega
   subst em
   rw[List.getElem?_concat_length]at ht
   cases ht
   exact⟨rfl,rfl,hl.1,hl.2,x,y,rfl,rfl,hx,hy⟩
 ·rcases mem_append.mp hd with hd | hd
  ·exact h.done d hd z hz
  ·rw[mem_singleton.mp hd]at hz
   simp only[mem_cons,not_mem_nil,or_false]at hz
   rcases hz with rfl | rfl | rfl | rfl | rfl
   ·exact .inr ⟨_,rfl,by decide +kernel⟩
   ·exact .inl ⟨_,rfl⟩
   ·exact .inl ⟨_,rfl⟩
   ·exact .inl ⟨_,rfl⟩
   ·exact .inl ⟨_,rfl⟩
theorem qq {n a b:Nat}{wy:Wf}{m:Nat}{l u:Int}(ha:a < n)(hb:b < n)(hl:1 <= l/\l <= 60)(hu:Je (.int u)=true)(FV:a ≠ b)(hw:wy a b none ≠ [])(hm:m < 60):kP n wy m (.int a) (.int b) (.int l) (.int u) = .good:=by
 unfold kP
 rw[show jJ (.int (a:Int)) 0 ((n:Int) - 1)=true from decide_eq_true (by omega),show jJ (.int (b:Int)) 0 ((n:Int) - 1)=true from decide_eq_true (by omega),show jJ (.int l) 1 60=true from decide_eq_true hl,hu,if_neg (by decide),if_neg (by decide),if_neg (by decide)]
 rw[if_neg (by
  rintro (h | h)
  ·have h:(a:Int)=(b:Int):=h
   omega
  ·have h:wy ((a:Int)).toNat ((b:Int)).toNat none=[]:=h
   rw[toNat_natCast,toNat_natCast]at h
   exact hw h),if_neg (by omega)]
noncomputable def jI (p:Int × Int):PyData := .tuple [.int p.1, .int p.2]
theorem ia {K:Frag}{H:Hp}:∀ {vs:List V}{ps:List (Int × Int)},zl H vs ps->ik K H vs (ps.map jI)
 | _,_, .nil => .nil
 | _,_, .cons ⟨t,e,h⟩ r => .cons (by subst e;exact .tup (zc.of h) (.cons (.int _) (.cons (.int _) .nil))) (ia r)
theorem qh (ps:List (Int × Int)):Bc (.list (ps.map jI)) 64:=(ck (m:=1) fun z hz=>by
 obtain⟨p,_,rfl⟩:=mem_map.mp hz
 exact c9 (m:=0) fun y hy=>by
  simp only[mem_cons,not_mem_nil,or_false]at hy
  rcases hy with rfl | rfl<;>exact bU _).le (by decide)
theorem uI (ms:List Mv):Bc (.list (ms.map uA)) 64:=(ck (m:=1) fun z hz=>by
 obtain⟨m,_,rfl⟩:=mem_map.mp hz
 exact kC m).le (by decide)
theorem Ff:Bc (.list []) 64:=(ck (m:=0) fun z hz=>by cases hz).le (by decide)
theorem vW {α:Type}(f:α->PyData)(l:List α):PyData.eqv (.list (l.map f)) (.list [])=l.isEmpty:=by
 cases l<;>simp[PyData.eqv,PyData.eqvAll]
theorem neN {K:Frag}{x y:V}{H:Hp}{Q:VK}{α:Type}{f:α->PyData}{l:List α}(h1:iQ K H x (.list (l.map f)))(h2:iQ K H y (.list []))(s:Bc (.list (l.map f)) 64)(q:Q (.bl (!l.isEmpty)) H):xI K x y H Q :=
 ⟨_,_,h1,h2,s.shaped (le_refl _),Ff.shaped (le_refl _),by rw[vW];exact q⟩
theorem lH {ex:List Addr}{H H1 H2:Hp}(s:yW H H1)(o:zh ex H1 H2)(hn:∀ b ∈ ex,H b=none):yW H H2:=fun b u e=>o b _ (fun z=>by rw[hn b z]at e;cases e) (s b u e)
noncomputable def vD:V->PyData
 | .int i => .int i
 | .str t => .str t
 | _ => .none
noncomputable def uR (m:List V):PyData := .tuple (m.map vD)
theorem pP {K:Frag}{H:Hp}:∀ {m:List V},(∀ x ∈ m,yR x)->ik K H m (m.map vD)
 | [],_ => .nil
 | x :: m,h=>by
  refine .cons ?_ (pP fun y hy=>h y (mem_cons_of_mem _ hy))
  rcases h x mem_cons_self with ⟨i,rfl⟩ | ⟨t,rfl,_⟩
  ·exact .int i
  ·exact .str t
theorem e9 {K:Frag}{H:Hp}:∀ {vs:List V}{ms:List (List V)},Paired (Af H) vs ms->(∀ m ∈ ms,∀ x ∈ m,yR x)->ik K H vs (ms.map uR)
 | _,_, .nil,_ => .nil
 | _,_, .cons ⟨t,e,h⟩ r,hm=>by
  subst e
  exact .cons (.tup (zc.of h) (pP (hm _ mem_cons_self))) (e9 r fun m Ez=>hm m (mem_cons_of_mem _ Ez))
theorem lE {ms:List (List V)}(h:∀ m ∈ ms,∀ x ∈ m,yR x):Bc (.list (ms.map uR)) 64:=(ck (m:=1) fun z hz=>by
 obtain⟨m,hm,rfl⟩:=mem_map.mp hz
 refine c9 (m:=0) fun y hy=>?_
 obtain⟨x,hx,rfl⟩:=mem_map.mp hy
 rcases h m hm x hx with ⟨i,rfl⟩ | ⟨t,rfl,ht⟩
 ·exact bU _
 ·exact gH ht).le (by decide)
theorem AX.done {a:YA}{s:YS}(J:AX a s)(d:List (List V)):AX a { s with done:=d }:=⟨J.lanes,J.lies,J.zX,J.Eh,J.lets,J.An,J.Am,J.B7,J.Aw,J.last,J.head,J.first,J.Ei,J.sum⟩
theorem SD {a:YA}{zk:List V}(h:zk.length=a.ps.length):E5 a (Y0 zk a.n):=by
 refine⟨by show(zk.map qK).length=_;rw[length_map];exact h,by show(List.replicate a.n []).length=_;rw[length_replicate],fun k ln hk=>?_,fun p qs hp=>?_,fun m t ht=>?_,fun d hd=>?_⟩
 ·have hk:(zk.map qK)[k]? = some ln:=hk
  rw[List.getElem?_map]at hk
  cases hr:zk[k]? with
  | none=>rw[hr]at hk;cases hk
  | some v=>rw[hr]at hk;cases hk;rfl
 ·have hp:(List.replicate a.n ([]:List (Int × Int)))[p]? = some qs:=hp
  exact eq_of_mem_replicate (mem_of_getElem? hp)
 ·have ht:([]:List ci)[m]? = some t:=ht
  cases ht
 ·have hd:d ∈ ([]:List (List V)):=hd
  cases hd
noncomputable def lim (xs:List Nat)(t:Nat):Nat:=if t=0 then 0 else xs.getD (t - 1) 0 + 1
theorem yw {xs:List Nat}(hs:xs.Pairwise (· < ·)){t p:Nat}(h:xs[t]? = some p):lim xs t <= p:=by
 unfold lim
 by_cases h0:t=0
 ·rw[if_pos h0];omega
 ·rw[if_neg h0]
  obtain⟨ht,e⟩:=List.getElem?_eq_some_iff.mp h
  have h1:=pairwise_iff_getElem.mp hs (t - 1) t (by omega) ht (by omega)
  rw[getD_eq_getElem?_getD,List.getElem?_eq_getElem (by omega)]
  rw[e]at h1
  exact h1
theorem tX {xs:List Nat}{t p:Nat}(h:xs[t]? = some p):lim xs (t + 1)=p + 1:=by
 unfold lim
 rw[if_neg (by omega),Nat.add_sub_cancel,getD_eq_getElem?_getD,h];rfl
theorem vO {xs:List Nat}(h:∀ p ∈ xs,p < 100):lim xs xs.length <= 100:=by
 unfold lim
 by_cases h0:xs.length=0
 ·rw[if_pos h0];omega
 ·rw[if_neg h0,getD_eq_getElem?_getD,List.getElem?_eq_getElem (show xs.length - 1 < xs.length by omega)]
  exact h _ (getElem_mem _)
end K48
namespace L2
open PySem
theorem yX.ex {P:Program}{w:World}{K:Frag}{mg:Str->Option Value}{base:Heap}{CX:oH}{k:Nat}{f:Addr}{fd:FuncData}{ps:List Str} {ι:Type} {sp:ι->Sp} (h:∀ i,yX P w K mg base CX k f fd ps (sp i)):yX P w K mg base CX k f fd ps (fun vs H Q E=>∃ i,sp i vs H Q E) :=
 ⟨fun vs H Q E ⟨i,q⟩=>(h i).len vs H Q E q,fun A outer s H args us vs Q E hr he hb hv ⟨i,hs⟩=>(h i).run A outer s H args us vs Q E hr he hb hv hs⟩
end L2
namespace K48
open PySem L2
variable {P:Program}{w:World}{K:Frag}{mg:Str->Option Value}{base:Heap}
noncomputable def bC (ps:List (Int × Int))(p:Nat):List (Option Nat):=none :: (eV Prod.snd ps (p:Int)).map some
theorem we (ps:List (Int × Int))(p:Nat):[V.zm] ++ bR (eV Prod.snd ps (p:Int))=(bC ps p).map cV:=by
 unfold bC bR
 rw[map_cons,map_map];rfl
theorem oB (ps:List (Int × Int))(p:Nat):((bC ps p).map uB).Pairwise (· < ·):=by
 unfold bC
 rw[map_cons,map_map,pairwise_cons]
 refine⟨fun x hx=>?_,?_⟩
 ·obtain⟨k,_,rfl⟩:=mem_map.mp hx
  show 0 < k + 1
  omega
 ·refine List.Pairwise.map _ (fun a b h=>?_) (List.Pairwise.filter _ pairwise_lt_range)
  show a + 1 < b + 1
  omega
theorem kd {ps:List (Int × Int)}{p:Nat}{cc:Option Nat}(h:cc ∈ bC ps p):uB cc <= ps.length/\∀ k,cc=some k->k ∈ eV Prod.snd ps (p:Int):=by
 rcases mem_cons.mp h with rfl | h
 ·exact⟨zero_le _,fun k e=>by cases e⟩
 ·obtain⟨k,hk,rfl⟩:=mem_map.mp h
  refine⟨?_,fun k' e=>by cases e;exact hk⟩
  have:=mem_range.mp (mem_filter.mp hk).1
  show k + 1 <= _
  omega
noncomputable def rJ:Sp:=fun vs H Q _=>∃ (l:Addr)(lvs:List V)(ps:List (Int × Int))(n:Nat)(cl:Int),vs=[.int n, .ref l, .int cl]/\H l=some (.lst lvs)/\zl H lvs ps/\(∀ p ∈ ps,j8 n p=true)/\ps.length <= 10/\2 <= n/\n <= 5 /\
 ∀ (D:Addr)(zk:List V)(rs:List Rw)(H':Hp),yW H H'->H D=none->H' D=some (.lst zk)->C1 H' zk rs->Dh n ps 50000 rs->Q (.ref D) H'
noncomputable abbrev Pe:List Str:=["_law_places", "_law_lanes_here", "_law_cell", "_law_rows_here", "_law_place", "_law_out", "_law_cames", "_law_goal", "_law_came", "_law_draw", "_law_ways"]
noncomputable def yN (s:Stmt):Scope:=match s with
 | .Assign _ (.BinOp _ _ (.ListComp _ _ sc _) _) _=>sc
 | _=>{ kind := .function,names:=[],isGenerator:=false,isCoroutine:=false }
noncomputable def kQ:List Stmt:=oz (qD (aH jf) 1)
noncomputable def vT:List Stmt:=oz (qD (oz (qD kQ 2)) 0)
theorem AH:ao Pe ["_law_places", "_law_lanes_here", "_law_cell"] (aj jf):=L2.zy
theorem M6:Ae Pe (aj jf) (re (qD kQ 0)) ["_law_lanes_here", "_law_place"] [1,4]:=L2.Bf
theorem M7:Ae Pe (aj jf) (yN (qD kQ 1)) ["_law_lanes_here", "_law_place"] [1,4]:=L2.Bf
theorem M8:Ae Pe (aj jf) (re (qD vT 1)) ["_law_draw"] [9]:=L2.Bf
theorem wJ:(["_law_lane", "_law_lanes_here", "_law_place"]:List Str).Nodup:=by decide +kernel
theorem M9:(["_law_lane", "_law_draw"]:List Str).Nodup:=by decide +kernel
theorem vj {f fm:Addr}{fd dm:FuncData}(F:zt K "_law_rows" "_law_rows" jf f fd)(T:eO mg)(mm:mg "_law_mixed" = some (.ref fm))(km:keepIn K (.ref fm)=true)(bm:Binds K dm ["_law_cell", "_law_k"] [])(Gm:yX P w K mg base aD 1 fm dm ["_law_cell", "_law_k"] l9) :
  yX P w K mg base aD 2 f fd ["_law_places", "_law_lanes_here", "_law_cell"] rJ:=by
 refine F.ok AH (fun vs H Q E h=>?_) (fun cdv A outer s H vs Q E hr h=>?_)
 ·obtain⟨l,lvs,ps,n,cl,rfl,_⟩:=h
  rfl
 ·obtain⟨l,lvs,ps,n,cl,rfl,gl,ES,ze,AJ,DB,Jn,q⟩:=h
  refine⟨_,af (aA (i:=3) AH.nd rfl (Or.inl rfl) (aV ad))
   (af (bN PassesOwn.never rfl (aM rfl T.range (aa (pv 0) ad)) (av (i:=4) AH.nd rfl (Or.inr rfl))
    (af (cv (i:=5) (own:=["_law_lane"]) (capN:=["_law_lanes_here", "_law_place"]) (cap:=[1,4]) M6 rfl AH.nd rfl rfl (aM rfl T.range (aa (aG ay rfl T.len PySem.boot_len (aa (pv 1) ad)) ad))
     (fun C s' H' fp=>⟨av (i:=0) wJ rfl (Or.inl rfl),cx (ax bv (ap (show oG _ (kM K) from ar) (ap (show oG _ (sP K) from aJ) (pv 1) (pv 0) (fun _ _=>rfl)) ah (fun _ _=>rfl)) (pv 2) (aB _)),pv 0⟩))
    (af (aA (i:=6) AH.nd rfl (Or.inl rfl) (az dL (aV (aa cp ad)) (bz (own:=["_law_lane"]) (capN:=["_law_lanes_here", "_law_place"]) (cap:=[1,4]) M7 rfl (aM rfl T.range (aa (aG ay rfl T.len PySem.boot_len (aa (pv 1) ad)) ad))
     (fun C s' H' fp=>⟨av (i:=0) wJ rfl (Or.inl rfl),cx (ax bv (ap (show oG _ (kM K) from ar) (ap (show oG _ (sP K) from aJ) (pv 1) (pv 0) (fun _ _=>rfl)) ah (fun _ _=>rfl)) (pv 2) (aB _)),pv 0⟩))))
    (ak (bN PassesOwn.never rfl (aM rfl T.range (aa (pv 0) ad)) (av (i:=7) AH.nd rfl (Or.inl rfl))
     (ak (bN PassesOwn.never rfl (bO (pv 6)) (av (i:=8) AH.nd rfl (Or.inl rfl))
      (af (aA (i:=9) AH.nd rfl (Or.inr rfl) (aw Gm hr rfl mm km bm .nil aq (aa (pv 2) (aa (az bB (az bB (aG ay rfl T.len PySem.boot_len (aa (pv 3) ad)) (az jl ah (pv 4))) (az jl ah (pv 7))) ad))))
      (af (cv (i:=10) (own:=["_law_lane"]) (capN:=["_law_draw"]) (cap:=[9]) M8 rfl AH.nd rfl rfl (bO (pv 5))
       (fun C s' H' fp=>⟨av (i:=0) M9 rfl (Or.inl rfl),cx (PW.pt (gP (ax bv (az tq (az tj (pv 1) (az bB ah (pv 0))) ah) ah (aB _)) (eE (ax bv (az bX (pv 1) ah) ah (aB _))))),pv 0⟩))
      (ak (aN (ax lV (pv 4) (pv 7) (aB _))
       (ak (aR (cz plainAttrs_list PySem.F.slot_list_append PySem.F.type_list_append bG (pv 3) (aa (aW (aa (pv 4) (aa (pv 7) (aa (pv 8) (aa (pv 10) ad))))) ad)))) aE)))))))))))
   (ak (au (pv 3)))),?_⟩
  have DH:lvs.length=ps.length:=Paired.length ES
  refine⟨zero_le _,fun D hD=>?_⟩
  have s0:=(yW.refl H).new (o := .lst []) hD
  have g0:(upd H D (.lst [])) D=some (.lst []):=ac
  show c4 3 (V.ref D) _ _ _
  generalize upd H D (.lst [])=H0 at s0 g0 ⊢
  refine⟨_,rfl,(n:Int),rfl,by omega,by omega,?_⟩
  rw[toNat_natCast]
  refine bH (n:=n) (fun i σ H2=>∃ (a4 a5 a6 a7 a8 a9 CH:Option V)(zk:List V)(rs:List Rw),yW H H2/\H2 D=some (.lst zk)/\Bu D H2 zk rs/\Dh n ps (i * 10000) rs/\σ=[some (.int n),some (.ref l),some (.int cl),some (.ref D),a4,a5,a6,a7,a8,a9,CH])
   ⟨none,none,none,none,none,none,none,[],[],s0,g0, .nil,⟨List.Pairwise.nil,(fun r hr=>by cases hr),(fun r hr=>by cases hr),(fun r hr=>by cases hr)⟩,rfl⟩ ?_ ?_
  rotate_left
  ·rintro σ H2 ⟨a4,a5,a6,a7,a8,a9,CH,zk,rs,s2,g2,hR,hO,rfl⟩
   exact⟨_,rfl,q D zk rs H2 s2 hD g2 hR.rws (hO.up (by omega))⟩
  rintro p σ H2 hpn ⟨a4,a5,a6,a7,a8,a9,CH,zk,rs,s2,g2,hR,hO,rfl⟩
  rw[zero_add]
  have pick:∀ (sel:Int × Int->Int)(j:Nat)(Hx:Hp)(sx:yW H Hx)(σ0:St),True:=fun _ _ _ _ _=>True.intro
  refine⟨_,rfl,l,_,rfl, .inl (zb.of (s2 _ _ gl)),(lvs.length:Int),rfl,by omega,by omega,?_⟩
  rw[toNat_natCast,DH]
  refine pU (sel:=Prod.fst) (ps:=ps) (pl:=(p:Int)) (by rw[sizeLine_eq];omega) (fun z acc N pr hpr h=>?_) (fun Ou Xg=>?_)
  ·obtain⟨v,hv,u,rfl,gu⟩:=zl.CD ES hpr
   refine⟨_,rfl,_,rfl,l,lvs,_,_,rfl,rfl,zb.of (s2 _ _ gl),ai hv,u,_,0,_,rfl,rfl,zc.of (s2 _ _ gu),ai (j:=0) rfl,_,rfl,rfl,_,rfl,?_⟩
   rw[gq]
   cases hb:decide (pr.1=(p:Int)) with
   | true =>
    have Bb:decide (Prod.fst pr=(p:Int))=true:=hb
    rw[Bb]at h
    exact aK ⟨_,rfl,h⟩
   | false =>
    have Bb:decide (Prod.fst pr=(p:Int))=false:=hb
    rw[Bb]at h
    exact aI h
  have Xh:∀ sel:Int × Int->Int,(eV sel ps (p:Int)).length <= 10:=fun sel=>by
   have:=length_filter_le (fun k=>decide (sel (ps.getD k (0,0))=(p:Int))) (List.range ps.length)
   rw[length_range]at this
   unfold eV
   omega
  have u1:=(yW.refl H2).new (o := .lst (bR (eV Prod.fst ps (p:Int)))) Xg
  have gO:(upd H2 Ou (.lst (bR (eV Prod.fst ps (p:Int))))) Ou=some (.lst (bR (eV Prod.fst ps (p:Int)))):=ac
  have nO:Ou ≠ D:=Ne.symm (ag g2 Xg)
  show c4 5 (V.ref Ou) _ (upd H2 Ou (.lst (bR (eV Prod.fst ps (p:Int))))) _
  generalize upd H2 Ou (.lst (bR (eV Prod.fst ps (p:Int))))=H3 at u1 gO ⊢
  have s3:=s2.trans u1
  refine⟨by show 1 <= sizeLine;decide,fun o1 Ca=>?_⟩
  have u2:=(yW.refl H3).new (o := .lst [.zm]) Ca
  have Bv:(upd H3 o1 (.lst [.zm])) o1=some (.lst [.zm]):=ac
  generalize upd H3 o1 (.lst [.zm])=H4 at u2 Bv ⊢
  have s4:=s3.trans u2
  refine⟨_,rfl,l,_,rfl, .inl (zb.of (s4 _ _ gl)),(lvs.length:Int),rfl,by omega,by omega,?_⟩
  rw[toNat_natCast,DH]
  refine pU (sel:=Prod.snd) (ps:=ps) (pl:=(p:Int)) (by rw[sizeLine_eq];omega) (fun z acc N pr hpr h=>?_) (fun o2 zS=>?_)
  ·obtain⟨v,hv,u,rfl,gu⟩:=zl.CD ES hpr
   refine⟨_,rfl,_,rfl,l,lvs,_,_,rfl,rfl,zb.of (s4 _ _ gl),ai hv,u,_,1,_,rfl,rfl,zc.of (s4 _ _ gu),ai (j:=1) rfl,_,rfl,rfl,_,rfl,?_⟩
   rw[gq]
   cases hb:decide (pr.2=(p:Int)) with
   | true =>
    have Bb:decide (Prod.snd pr=(p:Int))=true:=hb
    rw[Bb]at h
    exact aK ⟨_,rfl,h⟩
   | false =>
    have Bb:decide (Prod.snd pr=(p:Int))=false:=hb
    rw[Bb]at h
    exact aI h
  have u3:=(yW.refl H4).new (o := .lst (bR (eV Prod.snd ps (p:Int)))) zS
  have go2:(upd H4 o2 (.lst (bR (eV Prod.snd ps (p:Int))))) o2=some (.lst (bR (eV Prod.snd ps (p:Int)))):=ac
  have MA:(upd H4 o2 (.lst (bR (eV Prod.snd ps (p:Int))))) o1=some (.lst [.zm]):=by rw[ae (ag Bv zS)];exact Bv
  generalize upd H4 o2 (.lst (bR (eV Prod.snd ps (p:Int))))=H5 at u3 go2 MA ⊢
  have O7:=Xh Prod.snd
  refine⟨o1,o2,_,_,rfl,rfl,MA,go2,by unfold bR;rw[length_map,sizeLine_eq];simp only[length_singleton];omega,fun C hC=>?_⟩
  rw[we]
  have u4:=(yW.refl H5).new (o := .lst ((bC ps p).map cV)) hC
  have gC:(upd H5 C (.lst ((bC ps p).map cV))) C=some (.lst ((bC ps p).map cV)):=ac
  have Xi:yW H2 H5:=u1.trans (u2.trans u3)
  have nC:C ≠ D:=Ne.symm (ag (Xi _ _ g2) hC)
  show c4 6 (V.ref C) _ (upd H5 C (.lst ((bC ps p).map cV))) _
  generalize upd H5 C (.lst ((bC ps p).map cV))=H6 at u4 gC ⊢
  have SE:=Xi.trans u4
  have gO6:=u4 _ _ (u3 _ _ (u2 _ _ gO))
  refine⟨_,rfl,(n:Int),rfl,by omega,by omega,?_⟩
  rw[toNat_natCast]
  refine bH (n:=n) (fun i σ H7=>∃ (a7 a8 a9 CH:Option V)(zk:List V)(rs:List Rw),yW H H7/\H7 D=some (.lst zk)/\H7 Ou=some (.lst (bR (eV Prod.fst ps (p:Int))))/\H7 C=some (.lst ((bC ps p).map cV))/\Bu D H7 zk rs/\Dh n ps ((p * 100 + i) * 100) rs/\σ=[some (.int n),some (.ref l),some (.int cl),some (.ref D),some (.int (p:Int)),some (.ref Ou),some (.ref C),a7,a8,a9,CH])
   ⟨_,_,_,_,zk,rs,s2.trans SE,SE _ _ g2,gO6,gC,hR.same SE,hO.up (by omega),rfl⟩ ?_ ?_
  rotate_left
  ·rintro σ H7 ⟨a7,a8,a9,CH,zk,rs,s7,g7,_,_,SG,SH,rfl⟩
   exact⟨_,_,_,_,_,_,_,zk,rs,s7,g7,SG,SH.up (by omega),rfl⟩
  rintro i σ H7 hi ⟨a7,a8,a9,CH,zk,rs,s7,g7,gO7,Xj,SG,SH,rfl⟩
  rw[zero_add]
  refine⟨_,rfl,C,rfl,⟨_,zb.of Xj⟩,?_⟩
  have Dx:((bC ps p).map cV).length=(bC ps p).length:=length_map ..
  refine hU (K:=K) (a:=C) (xs:=(bC ps p).map cV) (fun j σ Hb=>∃ (a8 a9 CH:Option V)(zk:List V)(rs:List Rw),yW H Hb/\Hb D=some (.lst zk)/\Hb Ou=some (.lst (bR (eV Prod.fst ps (p:Int))))/\Hb C=some (.lst ((bC ps p).map cV))/\Bu D Hb zk rs/\Dh n ps ((p * 100 + i) * 100 + lim ((bC ps p).map uB) j) rs/\σ=[some (.int n),some (.ref l),some (.int cl),some (.ref D),some (.int (p:Int)),some (.ref Ou),some (.ref C),some (.int (i:Int)),a8,a9,CH])
   ⟨_,_,_,zk,rs,s7,g7,gO7,Xj,SG,SH.up (by omega),rfl⟩ (fun j σ Hb _ ⟨_,_,_,_,_,_,_,_,g,_⟩=>zb.of g) ?_ ?_
  rotate_left
  ·rintro σ Hb ⟨a8,a9,CH,zk,rs,sb,gb,Ig,Pf,MB,Jo,rfl⟩
   rw[Dx,← length_map (f:=uB) (as:=bC ps p)]at Jo
   have:=vO (xs:=(bC ps p).map uB) fun x hx=>by
    obtain⟨cc,Oj,rfl⟩:=mem_map.mp hx
    have:=(kd Oj).1
    omega
   exact⟨_,_,_,_,zk,rs,sb,gb,Ig,Pf,MB,Jo.up (by omega),rfl⟩
  rintro j v σ Hb hv ⟨a8,a9,CH,zk,rs,sb,gb,Ig,Pf,MB,Jo,rfl⟩
  obtain⟨cc,hcj,rfl⟩:∃ cc,(bC ps p)[j]? = some cc/\cV cc=v:=by
   rw[List.getElem?_map]at hv
   cases hx:(bC ps p)[j]? with
   | none=>rw[hx]at hv;cases hv
   | some cc=>rw[hx]at hv;exact⟨cc,rfl,Option.some.inj hv⟩
  obtain⟨hcl2,SI⟩:=kd (mem_of_getElem? hcj)
  have MC:((bC ps p).map uB)[j]? = some (uB cc):=by rw[List.getElem?_map,hcj];rfl
  have hlp:=yw (oB ps p) MC
  have hls:=tX MC
  have EL:zk.length=rs.length:=Paired.length MB
  have hrm:=Jo.len
  refine⟨_,rfl,_,rfl,D,_,rfl, .inl (zb.of gb),_,rfl,_,_,rfl,rfl, .inl ⟨by decide,by decide⟩,_,_,rfl,rfl,_,rfl,_,_,rfl,rfl, .inl ⟨by decide,by decide⟩,_,_,rfl,rfl,cl,zk.length + 100 * p + 10 * i,?_,by omega,fun d hd=>?_⟩
  ·show [V.int cl,V.int (((zk.length:Nat):Int) + 100 * (p:Int) + 10 * (i:Int))] ++ []=_
   rw[show((zk.length + 100 * p + 10 * i:Nat):Int)=((zk.length:Nat):Int) + 100 * (p:Int) + 10 * (i:Int) by omega];rfl
  obtain⟨m,rfl⟩:∃ m:Nat,d=(m:Int):=⟨d.toNat,by omega⟩
  generalize MD:eV Prod.fst ps (p:Int)=out at Ig ⊢
  have Hs:out.length <= 10:=by rw[← MD];exact Xh _
  refine⟨_,rfl,Ou,rfl,⟨_,zb.of Ig⟩,?_⟩
  refine qY (fun k=>m.testBit (3 + k) || decide ((m:Int) % 3=0)) (by rw[sizeLine_eq];omega) (zb.of Ig) (fun k acc N hk h=>?_) (fun Wa SJ=>?_)
  ·refine⟨_,rfl,_,rfl,_,_,rfl,rfl,_,_,rfl,rfl,(show (0:Int) <= 3 + (k:Int) by omega),_,_,rfl,rfl,rfl,_,rfl,?_⟩
   dsimp only
   rw[show (3:Int) + (k:Int)=((3 + k:Nat):Int) by omega,SA]
   cases hb:m.testBit (3 + k) with
   | true=>rw[hb,Bool.true_or]at h;exact aK (aK ⟨_,rfl,h⟩)
   | false =>
    rw[hb,Bool.false_or]at h
    refine aI ⟨_,rfl,_,_,rfl,rfl,(by show (0:Int) < 3;decide),rfl,_,rfl,?_⟩
    rw[gq]
    cases Kw:decide ((m:Int) % 3=0) with
    | true=>rw[Kw]at h;exact aK ⟨_,rfl,h⟩
    | false=>rw[Kw]at h;exact aI h
  generalize Xk:(out.filter fun k=>m.testBit (3 + k) || decide ((m:Int) % 3=0))=us at SJ ⊢
  have husl:us.length <= 10:=by rw[← Xk];exact le_trans (length_filter_le _ _) Hs
  have SK:∀ k ∈ us,k ∈ out:=fun k hk=>by rw[← Xk]at hk;exact(mem_filter.mp hk).1
  have u5:=(yW.refl Hb).new (o := .lst (bR us)) SJ
  have gW:(upd Hb Wa (.lst (bR us))) Wa=some (.lst (bR us)):=ac
  have nW:Wa ≠ D:=Ne.symm (ag gb SJ)
  show c4 10 (V.ref Wa) _ (upd Hb Wa (.lst (bR us))) _
  generalize upd Hb Wa (.lst (bR us))=Hc at u5 gW ⊢
  refine⟨_,rfl,_,rfl,rfl,_,rfl,?_⟩
  rw[gq]
  by_cases SM:(p:Int)=(i:Int)
  ·rw[decide_eq_true SM]
   exact aI ⟨_,_,_,zk,rs,sb.trans u5,u5 _ _ gb,u5 _ _ Ig,u5 _ _ Pf,MB.same u5,Jo.up (by omega),rfl⟩
  rw[decide_eq_false SM]
  refine aK ⟨_,rfl, .inl ⟨rfl,_,zb.of (u5 _ _ gb)⟩,_,rfl,_,rfl,_,rfl,_,rfl,by show 4 <= sizeLine;decide,fun tt CT=>?_⟩
  have u6:=u5.new (o := .tup [.int (p:Int), .int (i:Int),cV cc, .ref Wa]) CT
  have gT:(upd Hc tt (.tup [.int (p:Int), .int (i:Int),cV cc, .ref Wa])) tt=some (.tup [.int (p:Int), .int (i:Int),cV cc, .ref Wa]):=ac
  have Xl:(upd Hc tt (.tup [.int (p:Int), .int (i:Int),cV cc, .ref Wa])) Wa=some (.lst (bR us)):=by rw[ae (ag gW CT)];exact gW
  generalize upd Hc tt (.tup [.int (p:Int), .int (i:Int),cV cc, .ref Wa])=Hf at u6 gT Xl ⊢
  have Xm:=u6 _ _ gb
  refine⟨D,zk,_,rfl,rfl,Xm,by rw[sizeLine_eq];omega,?_⟩
  have SN:eW n ps ⟨(p:Int),(i:Int),cc,us⟩ = true:=by
   unfold eW
   have ho:j8 n ((p:Int),(i:Int))=true:=by
    unfold j8
    simp only[Bool.and_eq_true,decide_eq_true_eq,Bool.not_eq_true',decide_eq_false_iff_not]
    exact⟨⟨by omega,by omega⟩,⟨by omega,by omega⟩,SM⟩
   rw[ho,Bool.true_and]
   have hs:(us.all fun z=>decide (z ∈ eV Prod.fst ps (p:Int)))=true:=by
    rw[all_eq_true]
    exact fun z hz=>decide_eq_true (by rw[MD];exact SK z hz)
   dsimp only
   rw[hs,Bool.and_true]
   cases cc with
   | none=>rfl
   | some k=>exact decide_eq_true (SI k rfl)
  have Xn:sN ⟨(p:Int),(i:Int),cc,us⟩ = (p * 100 + i) * 100 + uB cc:=by
   unfold sN
   show(((p:Int)).toNat * 100 + ((i:Int)).toNat) * 100 + uB cc=_
   rw[toNat_natCast,toNat_natCast]
  have hOn:=Jo.snoc (r:=⟨(p:Int),(i:Int),cc,us⟩) (by rw[Xn];omega) SN (by show us.length <= 40;omega)
  refine⟨_,_,_,zk ++ [.ref tt],rs ++ [⟨(p:Int),(i:Int),cc,us⟩],fun b o e=>by rw[ae (ag e hD)];exact u6 _ _ (sb _ _ e),ac,?_,?_,?_,hOn.up (by rw[Xn,hls];omega),rfl⟩
  ·rw[ae nO];exact u6 _ _ Ig
  ·rw[ae nC];exact u6 _ _ Pf
  ·have hRf:=Bu.snoc (r:=⟨(p:Int),(i:Int),cc,us⟩) ⟨tt,Wa,rfl,⟨gT,Xl⟩,nW⟩ (MB.same u6)
   exact Bu.off Xm hRf
noncomputable def TC (ts:Ts)(tn:mY):Bool->Addr
 | true=>tn.near
 | false=>ts.told
noncomputable def JJ (P:Program)(w:World)(ts:Ts)(tn:mY):Bool->TJ
 | true=>Jl P w tn
 | false=>BH P w ts
noncomputable def okE (n:Nat)(e:Nat × Nat):j8 n (zp e)=true↔(e.1 < n/\e.2 < n/\e.1 ≠ e.2):=by
 unfold j8 zp
 simp only[Bool.and_eq_true,decide_eq_true_eq,Bool.not_eq_true',decide_eq_false_iff_not]
 constructor
 ·rintro⟨⟨h1,h2⟩,⟨h3,h4⟩,h5⟩;exact⟨by omega,by omega,fun z=>h5 (by rw[z])⟩
 ·rintro⟨h1,h2,h3⟩;exact⟨⟨by omega,by omega⟩,⟨by omega,by omega⟩,by omega⟩
noncomputable def wQ (n:Nat)(kvs:List dQ):Wf:=fun p g k=>if p < n/\g < n then M5 kvs p g k else []
theorem rm {n:Nat}{es:Es}{kvs:List dQ}(h:mZ n es kvs n)(p g:Nat)(k:Option Nat):(∀ z ∈ wQ n kvs p g k,z < es.length)/\(wQ n kvs p g k).length <= es.length:=by
 have h1:∀ z ∈ wQ n kvs p g k,z < es.length:=fun z hz=>by
  unfold wQ at hz
  by_cases CI:p < n/\g < n
  ·rw[if_pos CI]at hz;exact wR h CI.2 hz
  ·rw[if_neg CI]at hz;cases hz
 refine⟨h1,dW _ _ ?_ h1⟩
 unfold wQ
 by_cases CI:p < n/\g < n
 ·rw[if_pos CI];exact m7 _
 ·rw[if_neg CI];exact nodup_nil
noncomputable def rS (P:Program)(w:World)(K:Frag)(c:Cs)(ts:Ts)(tn:mY):Sp:=fun vs H Q _=>∃ (sc:Addr)(ns:List Int),vs=[.ref sc]/\zb K H sc (ns.map V.int) /\
 ∀ (b:Bool)(x lx zx lt:Addr)(n:Nat)(zg:List V)(ps:List (Int × Int))(wy:Wf)(H':Hp),yW H H'->H x=none->zY c (TC ts tn b) (JJ P w ts tn b) H' x lx zx lt n zg ps wy->(∀ p g k,(wy p g k).length <= 400)->(∀ p ∈ ps,j8 n p=true)->ps.length <= 8->2 <= n->n <= 5->Q (.ref x) H'
structure TbM (P:Program)(w:World)(K:Frag)(mg:Str->Option Value)(base:Heap)(c:Cs)(ts:Ts)(tn:mY)(fc fl fi fn ft fr:Addr)(dc dl di dn dt dr:FuncData):Prop where
 mc:mg "_law_cell_at" = some (.ref fc)
 kc:keepIn K (.ref fc)=true
 bc:Binds K dc ["_law_script", "_law_k"] []
 Gc:yX P w K mg base aD 1 fc dc ["_law_script", "_law_k"] (nA K)
 ml:mg "_law_lanes" = some (.ref fl)
 kl:keepIn K (.ref fl)=true
 bl:Binds K dl ["_law_places", "_law_amount", "_law_cell"] []
 Gl:yX P w K mg base aD 2 fl dl ["_law_places", "_law_amount", "_law_cell"] oW
 mi:mg "Land" = some (.ref c.land)
 Mi:Mk K c.land fi
 bi:Binds K di ["self", "places", "lanes"] []
 Gi:yX P w K mg base (eR P w) 4 fi di ["self", "places", "lanes"] (rV K c)
 mn:mg "Nearer" = some (.ref tn.near)
 Mn:Mk K tn.near fn
 bn:Binds K dn ["self", "land"] []
 Gn:yX P w K mg base aD 3 fn dn ["self", "land"] (rM P w c tn)
 mt:mg "Told" = some (.ref ts.told)
 Mt:Mk K ts.told ft
 bt:Binds K dt ["self", "land", "rows"] []
 Gt:yX P w K mg base (eR P w) 5 ft dt ["self", "land", "rows"] (rF P w K c ts)
 mr:mg "_law_rows" = some (.ref fr)
 kr:keepIn K (.ref fr)=true
 br:Binds K dr ["_law_places", "_law_lanes_here", "_law_cell"] []
 Gr:yX P w K mg base aD 2 fr dr ["_law_places", "_law_lanes_here", "_law_cell"] rJ
noncomputable def iJ (a:YA)(ps:List (Int × Int)):Prop:=∀ p ∈ ps,∃ x y:Nat,p=((x:Int),(y:Int))/\x < a.n/\y < a.n/\x ≠ y/\a.wy x y none ≠ []
noncomputable def pb (c:Cs)(C:Addr)(J:TJ):Sp:=fun vs H Q _=>∃ (a:YA),vs=[.ref a.tb]/\uy c C J H a/\∀ (D:Addr)(Aa:List V)(bs:List (Int × Int))(H':Hp),yW H H'->H D=none->H' D=some (.lst Aa)->zl H' Aa bs->iJ a bs->bs.length <= 1000->Q (.ref D) H'
noncomputable def lA (c:Cs)(C:Addr)(J:TJ):Sp:=fun vs H Q _=>∃ (a:YA)(cl:Int),vs=[.ref a.tb, .int cl]/\uy c C J H a/\∀ (D:Addr)(rs:List Int)(H':Hp),yW H H'->H D=none->H' D=some (.lst (rs.map V.int))->rs.length=a.ps.length->(∀ r ∈ rs,1 <= r/\r <= 60)->Q (.ref D) H'
noncomputable def vb (t:ci):List V:=[.str "post", .int t.start, .int t.goal, .int t.len, .int t.word]
noncomputable def PD (s:YS):Prop:=s.done=s.U.map vb
noncomputable def lB (K:Frag)(c:Cs)(TC:Addr)(J:TJ)(ys:Ys):Sp:=fun vs H Q _=>∃ (a:YA)(s:YS)(bg cs:Addr)(Aa:List V)(bs:List (Int × Int))(ns:List Int),vs=[.ref a.y, .ref bg, .ref cs]/\zT K ys H a s/\uy c TC J H a/\E5 a s/\PD s/\H bg=some (.lst Aa)/\zl H Aa bs/\iJ a bs/\bs.length <= 1000/\bg ∉ a.four/\H cs=some (.lst (ns.map V.int))/\cs ∉ a.four/\ns.length <= 10/\s.U.length <= 40 /\
 ∀ (H':Hp)(s':YS),zh [a.le,a.dn] H H'->zT K ys H' a s'->E5 a s'->PD s'->s'.U.length <= s.U.length + ns.length->Q .zm H'
theorem Fg:ao ["_law_script", "_law_places", "_law_lanes_here", "_law_land"] ["_law_script"] (aj sH):=L2.zy
theorem v5 {c:Cs}{ts:Ts}{tn:mY}{f fc fl fi fn ft fr:Addr}{fd dc dl di dn dt dr:FuncData}(F:zt K "_law_table" "_law_table" sH f fd)(M:TbM P w K mg base c ts tn fc fl fi fn ft fr dc dl di dn dt dr) :
  yX P w K mg base aD 7 f fd ["_law_script"] (rS P w K c ts tn):=by
 refine F.ok Fg (fun vs H Q E h=>?_) (fun cdv A outer s H vs Q E hr h=>?_)
 ·obtain⟨sc,ns,rfl,_⟩:=h
  rfl
 ·obtain⟨sc,ns,rfl,hS,q⟩:=h
  have zL:zi 1 _:=hr.mono (by decide)
  have Ay:zi 2 _:=hr.mono (by decide)
  have Cp:zi 4 _:=hr.mono (by decide)
  have Ji:zi 5 _:=hr.mono (by decide)
  refine⟨_,af (aA (i:=1) Fg.nd rfl (Or.inl rfl) (az bB ah (az bX (aw M.Gc zL rfl M.mc M.kc M.bc .nil aq (aa (pv 0) (aa ah ad))) ah)))
   (af (aA (i:=2) Fg.nd rfl (Or.inl rfl) (aw M.Gl Ay rfl M.ml M.kl M.bl .nil aq (aa (pv 1) (aa (az bX (az fT (aw M.Gc zL rfl M.mc M.kc M.bc .nil aq (aa (pv 0) (aa ah ad))) ah) ah) (aa (aw M.Gc zL rfl M.mc M.kc M.bc .nil aq (aa (pv 0) (aa ah ad))) ad)))))
   (af (aA (i:=3) Fg.nd rfl (Or.inl rfl) (dD M.Mi M.Gi Ji rfl M.mi M.bi .nil io (aa (pv 1) (aa (pv 2) ad))))
   (af (aN (ax bv (az bX (aw M.Gc zL rfl M.mc M.kc M.bc .nil aq (aa (pv 0) (aa ah ad))) ah) ah (aB _)) (ak (au (dD M.Mn M.Gn Cp rfl M.mn M.bn .nil aq (aa (pv 3) ad)))) aE)
   (ak (au (dD M.Mt M.Gt hr rfl M.mt M.bt .nil io (aa (pv 3) (aa (aw M.Gr Ay rfl M.mr M.kr M.br .nil aq (aa (pv 1) (aa (pv 2) (aa (az fT (aw M.Gc zL rfl M.mc M.kc M.bc .nil aq (aa (pv 0) (aa ah ad))) ah) ad)))) ad)))))))),?_⟩
  refine⟨_,rfl,sc,ns,0,rfl,hS,fun d0=>⟨_,_,rfl,rfl,(by show (0:Int) < 4;decide),_,_,rfl,rfl,?_⟩⟩
  obtain⟨n,hn,DB,Jn⟩:∃ n:Nat,(2:Int) + d0 % 4=(n:Int)/\2 <= n/\n <= 5:=⟨(2 + d0 % 4).toNat,by omega,by omega,by omega⟩
  dsimp only
  rw[hn]
  refine⟨_,rfl,_,rfl,sc,ns,0,rfl,hS,fun d1=>⟨_,_,rfl,rfl,⟨by decide,by decide⟩,_,_,rfl,rfl,(by show (0:Int) < 9;decide),_,rfl,sc,ns,1,rfl,hS,fun d2=>?_⟩⟩
  obtain⟨m,hm,hm9⟩:∃ m:Nat,d1 / 4 % 9=(m:Int)/\m < 9:=⟨(d1 / 4 % 9).toNat,by omega,by omega⟩
  refine⟨n,m,d2,by rw[← hm];rfl,DB,by omega,by omega,fun l lvs es H1 s1 nl gl ES Bt Bx DK=>?_⟩
  have DH:lvs.length=es.length:=by rw[Paired.length ES,length_map]
  have AJ:(es.map zp).length=es.length:=length_map ..
  have ze:∀ p ∈ es.map zp,j8 n p=true:=fun p hp=>by
   obtain⟨e,he,rfl⟩:=mem_map.mp hp
   exact(okE n e).mpr ⟨(Bt e he).1,(Bt e he).2,Bx e he⟩
  have gd:=ui (ps:=es.map zp) (n:=n) (by omega) (by omega) (by omega) ze
  refine⟨_,rfl,_,rfl,fun xl Bh nx Lz L4=>?_⟩
  have s2:yW H1 (upd (upd H1 Bh (.own xl)) xl (.ins c.land Bh [])):=yW.new (yW.new (yW.refl H1) Lz) (by rw[ae (Ne.symm L4)];exact nx)
  refine⟨xl,Bh,(n:Int),l,lvs,_,rfl,ac,zb.of (s2 _ _ gl),zl.same s2 ES,by omega,(fun h=>by rw[gd]at h;cases h),(fun k h=>by rw[gd]at h;cases h),(fun k h=>by rw[gd]at h;cases h),fun _ H3 lt zg off hL=>⟨rfl,?_⟩⟩
  have s3:yW H1 H3:=fun b o e=>off b o (ag e nx) (s2 _ _ e)
  have Jp:=s1.trans s3
  refine⟨_,rfl,sc,ns,2,rfl,Jp.seq hS,fun d3=>⟨_,_,rfl,rfl,(by show (0:Int) < 2;decide),rfl,_,rfl,?_⟩⟩
  cases hb:decide (V.int (d3 % 2)=V.int 0) with
  | true =>
   refine aK ⟨_,rfl,fun tb Ek nt SO SQ=>?_⟩
   have s4:yW H3 (upd (upd H3 Ek (.own tb)) tb (.ins tn.near Ek [])):=yW.new (yW.new (yW.refl H3) SO) (by rw[ae (Ne.symm SQ)];exact nt)
   refine⟨tb,Ek,xl,Bh,lt,zg,n,es,rfl,ac,⟨s4 _ _ hL.1,s4 _ _ hL.2.1,zl.same s4 hL.2.2⟩,Bt,by omega,by omega,fun H5 de kvs SR Xo hE=>⟨rfl,?_⟩⟩
   have s5:yW H3 H5:=fun b o e=>SR b o (ag e nt) (s4 _ _ e)
   refine q true tb xl Bh lt n zg (es.map zp) (wQ n kvs) H5 (Jp.trans s5) (Jp.free nt) ⟨⟨Ek,xl,de,kvs,es,Xo,hE,by omega,fun p g k hp hg=>by unfold wQ;rw[if_pos ⟨hp,hg⟩]⟩,⟨Ek,_,Xo.1,rfl,rfl⟩,⟨s5 _ _ hL.1,s5 _ _ hL.2.1,zl.same s5 hL.2.2⟩,by omega,by omega,fun p g k _ _ z hz=>by rw[AJ];exact(rm hE p g k).1 z hz⟩ (fun p g k=>by have:=(rm hE p g k).2;omega) ze (by omega) DB Jn
  | false =>
   refine aI ⟨_,rfl,_,rfl,_,rfl,_,rfl,sc,ns,2,rfl,Jp.seq hS,fun d4=>⟨_,_,rfl,rfl,⟨by decide,by decide⟩,?_⟩⟩
   refine⟨l,lvs,es.map zp,n,_,rfl,s3 _ _ gl,zl.same s3 ES,ze,by omega,DB,Jn,fun D zk rs H4 s4 hD gD hR hO=>?_⟩
   have EL:zk.length=rs.length:=Paired.length hR
   have hrm:=hO.len
   refine fun tb Ek nt SO SQ=>?_
   have s6:yW H4 (upd (upd H4 Ek (.own tb)) tb (.ins ts.told Ek [])):=yW.new (yW.new (yW.refl H4) SO) (by rw[ae (Ne.symm SQ)];exact nt)
   have Fi:=s4.trans s6
   refine⟨tb,Ek,xl,Bh,lt,D,(n:Int),zg,zk,es.map zp,rs,rfl,ac,⟨Fi _ _ hL.1,Fi _ _ hL.2.1,zl.same Fi hL.2.2⟩,zb.of (s6 _ _ gD),C1.same s6 hR,by omega,by omega,fun r hr=>⟨fun k hk=>by have:=jU (hO.fit r hr) k hk;omega,by have:=hO.zX r hr;omega⟩,(fun i e=>by rw[hO.good]at e;cases e),fun _ H7 de kvs SS Xp hd7 hv7=>⟨rfl,?_⟩⟩
   have s7:yW H4 H7:=fun b o e=>SS b o (ag e nt) (s6 _ _ e)
   have Gz:=s4.trans s7
   have Fb:∀ r ∈ rs,∀ k ∈ r.s,k < (es.map zp).length:=fun r hr=>jU (hO.fit r hr)
   refine q false tb xl Bh lt n zg (es.map zp) (Jm rs) H7 (Jp.trans Gz) (Jp.free (s4.free nt)) ⟨⟨Ek,de,_,kvs,rs,Xp,hd7,hv7,(fun r hr k hk=>by have:=Fb r hr k hk;omega),rfl⟩,⟨Ek,_,Xp,rfl,rfl⟩,⟨Gz _ _ hL.1,Gz _ _ hL.2.1,zl.same Gz hL.2.2⟩,by omega,by omega,fun p g k _ _ z hz=>(rl Fb p g k).1 z hz⟩ (fun p g k=>by have:=(rl Fb p g k).2;omega) ze (by omega) DB Jn
noncomputable abbrev NBg:List Str:=["_law_table_here", "_law_found", "_law_place", "_law_goal"]
theorem Fj:ao NBg ["_law_table_here"] (aj nR):=L2.zy
theorem tO {c:Cs}{J:TJ}{C f fw:Addr}{fd dw:FuncData}(F:zt K "_law_begins" "_law_begins" nR f fd)(T:eO mg)(L:ku K c)(W:Wy K C fw dw J)(Gw:yX P w K mg base aD 3 fw dw ["self", "place", "goal", "came"] (eC J)) :
  yX P w K mg base aD 4 f fd ["_law_table_here"] (pb c C J):=by
 refine F.ok Fj (fun vs H Q E h=>?_) (fun cdv A outer s H vs Q E hr h=>?_)
 ·obtain⟨a,rfl,_⟩:=h
  rfl
 ·obtain⟨a,rfl,hT,q⟩:=h
  have hu:=hr.units
  have hn:=hT.R1
  refine⟨_,af (aA (i:=1) Fj.nd rfl (Or.inl rfl) (aV ad))
   (af (bN PassesOwn.never rfl (aM rfl T.range (aa (al (al (pv 0) rfl) rfl) ad)) (av (i:=2) Fj.nd rfl (Or.inl rfl))
    (ak (bN PassesOwn.never rfl (aM rfl T.range (aa (al (al (pv 0) rfl) rfl) ad)) (av (i:=3) Fj.nd rfl (Or.inl rfl))
     (ak (aN (iI (PW.pt (sQ (ax lV (pv 2) (pv 3) (aB _)) (pf (ax (xU hu) (aF (pv 0) W.cl W.m Gw hr W.b .nil aq (aa (pv 2) (aa (pv 3) (aa cp ad)))) (aV ad) (aB _))))))
      (ak (aR (cz plainAttrs_list PySem.F.slot_list_append PySem.F.type_list_append bG (pv 1) (aa (aW (aa (pv 2) (aa (pv 3) ad))) ad)))) aE)))))
   (ak (au (pv 1)))),?_⟩
  obtain⟨BD,fst,B5,zF,AG⟩:=hT.i
  refine⟨zero_le _,fun D hD=>?_⟩
  have s0:=(yW.refl H).new (o := .lst []) hD
  have g0:(upd H D (.lst [])) D=some (.lst []):=ac
  show c4 1 (V.ref D) _ _ _
  generalize upd H D (.lst [])=H0 at s0 g0 ⊢
  refine⟨_,rfl,a.tb,C,BD,fst,_,rfl,s0 _ _ B5,W.cl,W.nl,zF,a.lx,c.land,a.zx,_,_,rfl,s0 _ _ hT.l.1,L.cl,L.np,rfl,(a.n:Int),rfl,by omega,by omega,?_⟩
  rw[toNat_natCast]
  refine bH (n:=a.n) (fun i σ H2=>∃ (a2 a3:Option V)(Aa:List V)(bs:List (Int × Int)),yW H H2/\H2 D=some (.lst Aa)/\zl H2 Aa bs/\iJ a bs/\bs.length <= i * 12/\σ=[some (.ref a.tb),some (.ref D),a2,a3])
   ⟨none,none,[],[],s0,g0, .nil,(fun p hp=>by cases hp),by show 0 <= _;omega,rfl⟩ ?_ ?_
  rotate_left
  ·rintro σ H2 ⟨a2,a3,Aa,bs,s2,g2,hL,hP,Pg,rfl⟩
   exact⟨_,rfl,q D Aa bs H2 s2 hD g2 hL hP (by omega)⟩
  rintro i σ H2 hi ⟨a2,a3,Aa,bs,s2,g2,hL,hP,Pg,rfl⟩
  rw[zero_add]
  refine⟨_,rfl,a.tb,C,BD,fst,_,rfl,s2 _ _ B5,W.cl,W.nl,zF,a.lx,c.land,a.zx,_,_,rfl,s2 _ _ hT.l.1,L.cl,L.np,rfl,(a.n:Int),rfl,by omega,by omega,?_⟩
  rw[toNat_natCast]
  refine bH (n:=a.n) (fun j σ H3=>∃ (a3:Option V)(Aa:List V)(bs:List (Int × Int)),yW H H3/\H3 D=some (.lst Aa)/\zl H3 Aa bs/\iJ a bs/\bs.length <= i * 12 + j/\σ=[some (.ref a.tb),some (.ref D),some (.int (i:Int)),a3])
   ⟨_,Aa,bs,s2,g2,hL,hP,by omega,rfl⟩ ?_ ?_
  rotate_left
  ·rintro σ H3 ⟨a3,Aa,bs,s3,g3,BO,Ph,hb3,rfl⟩
   exact⟨_,_,Aa,bs,s3,g3,BO,Ph,by omega,rfl⟩
  rintro j σ H3 hj ⟨a3,Aa,bs,s3,g3,BO,Ph,hb3,rfl⟩
  rw[zero_add]
  have hbl3:Aa.length=bs.length:=Paired.length BO
  refine⟨fun b H4=>yW H3 H4/\b=decide (i ≠ j/\a.wy i j none ≠ []),?_,?_⟩
  ·refine⟨_,rfl,_,rfl,rfl,_,rfl,?_⟩
   rw[bD]
   by_cases Xq:(i:Int)=(j:Int)
   ·rw[decide_eq_true Xq]
    exact aI ⟨yW.refl H3,by rw[decide_eq_false (fun z=>z.1 (by omega))]⟩
   ·rw[decide_eq_false Xq]
    refine aK ⟨_,rfl,a.tb,BD,fst,rfl,s3 _ _ B5,AG,_,rfl,_,rfl,a.tb,a.n,a.wy,i,j,none,rfl,(zY.keep W hT (yW.zu s3)).j,hi,hj,fun Dw H4 s4 hDw Xr=>⟨zero_le _,fun o7 Pj=>?_⟩⟩
    have s5:=s4.new (o := .lst []) Pj
    have MF:(upd H4 o7 (.lst [])) Dw=some (.lst (nV (a.wy i j none))):=by rw[ae (ag Xr Pj)];exact Xr
    have g7:(upd H4 o7 (.lst [])) o7=some (.lst (([]:List Int).map V.int)):=ac
    generalize upd H4 o7 (.lst [])=H5 at s5 MF g7 ⊢
    refine⟨Dw,o7,iz (a.wy i j none),[],rfl,rfl,by rw[← pE];exact zb.of MF,zb.of g7,_,rfl,s5,?_⟩
    by_cases hw:a.wy i j none=[]
    ·rw[decide_eq_true (show iz (a.wy i j none)=[] by rw[hw];rfl),decide_eq_false (fun z=>z.2 hw)];rfl
    ·rw[decide_eq_false (show ¬ iz (a.wy i j none)=[] from fun z=>hw (by unfold iz at z;exact List.map_eq_nil_iff.mp z)),decide_eq_true ⟨by omega,hw⟩];rfl
  rintro b H4 ⟨s4,rfl⟩
  by_cases hw:i ≠ j/\a.wy i j none ≠ []
  ·rw[decide_eq_true hw]
   refine aK ⟨_,rfl, .inl ⟨rfl,_,zb.of (s4 _ _ g3)⟩,_,rfl,_,rfl,by show 2 <= sizeLine;decide,fun t1 h1=>?_⟩
   have u1:=s4.new (o := .tup [.int (i:Int), .int (j:Int)]) h1
   have v1:(upd H4 t1 (.tup [.int (i:Int), .int (j:Int)])) t1=some (.tup [.int (i:Int), .int (j:Int)]):=ac
   generalize upd H4 t1 (.tup [.int (i:Int), .int (j:Int)])=H5 at u1 v1 ⊢
   have Xt:=u1 _ _ g3
   have Xu:zA H5 (upd H5 D (.lst (Aa ++ [.ref t1]))):=fG Xt
   refine⟨D,Aa,_,rfl,rfl,Xt,by rw[sizeLine_eq];omega,?_⟩
   refine⟨_,Aa ++ [.ref t1],bs ++ [((i:Int),(j:Int))],fun b o e=>by rw[ae (ag e hD)];exact u1 _ _ (s3 _ _ e),ac,zl.snoc (p:=((i:Int),(j:Int))) ⟨t1,rfl,Xu _ _ v1 True.intro⟩ (Xu.zO (zl.same u1 BO)),fun p hp=>?_,by rw[length_append,length_singleton];omega,rfl⟩
   rcases mem_append.mp hp with hp | hp
   ·exact Ph p hp
   ·rw[mem_singleton.mp hp];exact⟨i,j,rfl,hi,hj,hw.1,hw.2⟩
  ·rw[decide_eq_false hw]
   exact aI ⟨_,Aa,bs,s3.trans s4,s4 _ _ g3,zl.same s4 BO,Ph,by omega,rfl⟩
theorem SU:ao ["_law_table_here", "_law_cell"] ["_law_table_here", "_law_cell"] (aj gM):=L2.zy
theorem SV:Ae ["_law_table_here", "_law_cell"] (aj gM) (uS ((aH gM).getD 0 (.Pass ⟨0,0,0,0⟩))) ["_law_cell"] [1]:=L2.Bf
theorem SW:(["_law_lane", "_law_cell"]:List Str).Nodup:=by decide +kernel
theorem qA {c:Cs}{J:TJ}{C f fw fm:Addr}{fd dw dm:FuncData}(F:zt K "_law_rooms" "_law_rooms" gM f fd)(T:eO mg)(L:ku K c)(W:Wy K C fw dw J)(mm:mg "_law_mixed" = some (.ref fm))(km:keepIn K (.ref fm)=true)(bm:Binds K dm ["_law_cell", "_law_k"] [])(Gm:yX P w K mg base aD 1 fm dm ["_law_cell", "_law_k"] l9) :
  yX P w K mg base aD 2 f fd ["_law_table_here", "_law_cell"] (lA c C J):=by
 refine F.ok SU (fun vs H Q E h=>?_) (fun cdv A outer s H vs Q E hr h=>?_)
 ·obtain⟨a,cl,rfl,_⟩:=h
  rfl
 ·obtain⟨a,cl,rfl,hT,q⟩:=h
  have h40:=hT.zX
  refine⟨_,ak (au (bz (own:=["_law_lane"]) (capN:=["_law_cell"]) (cap:=[1]) SV rfl (aM rfl T.range (aa (aG ay rfl T.len PySem.boot_len (aa (al (al (pv 0) rfl) rfl) ad)) ad)) (fun C s' H' fp=>⟨av (i:=0) SW rfl (Or.inl rfl),bJ,az bB ah (az bX (aw Gm hr rfl mm km bm .nil aq (aa (pv 1) (aa (pv 0) ad))) ah)⟩))),?_⟩
  obtain⟨BD,fst,B5,zF,AG⟩:=hT.i
  have SX:a.zg.length=a.ps.length:=Paired.length hT.l.2.2
  refine⟨_,rfl,a.tb,C,BD,fst,_,rfl,B5,W.cl,W.nl,zF,a.lx,c.land,a.zx,_,_,rfl,hT.l.1,L.cl,L.nl,rfl,a.lt,_,rfl, .inr (zc.of hT.l.2.1),((a.zg.length:Nat):Int),rfl,by omega,by omega,?_⟩
  rw[toNat_natCast,SX]
  refine bI a.ps.length (by rw[sizeLine_eq];omega) (fun i acc H'=>H' = H/\∃ rs:List Int,acc=rs.map V.int/\rs.length=i/\∀ r ∈ rs,1 <= r/\r <= 60) ⟨rfl,[],rfl,rfl,fun r hr=>by cases hr⟩ (fun i acc H' h=>by obtain⟨_,rs,rfl,e,_⟩:=h;rw[length_map];omega) (fun i acc H' hi h=>?_) (fun acc H' h=>?_)
  ·obtain⟨rfl,rs,rfl,e,Lb⟩:=h
   refine⟨hi,fun v H2 y=>?_⟩
   obtain⟨rfl,rfl⟩:=y
   rw[zero_add]
   refine⟨_,rfl,_,rfl,cl,i,rfl,by omega,fun d hd=>⟨_,_,rfl,rfl,(by show (0:Int) < 3;decide),_,_,rfl,rfl,rfl,rs ++ [1 + d % 3],by rw[map_append];rfl,by rw[length_append,e];rfl,fun r hr=>?_⟩⟩
   rcases mem_append.mp hr with hr | hr
   ·exact Lb r hr
   ·rw[mem_singleton.mp hr];omega
  ·obtain⟨rfl,rs,rfl,e,Lb⟩:=h
   exact⟨le_refl _,fun D hD=>q D rs _ ((yW.refl H').new hD) hD ac e Lb⟩
theorem PD.post {s:YS}(h:PD s)(a b l u:Int):PD (pi s a b l u):=by
 unfold PD at *
 show s.done ++ [[V.str "post", .int a, .int b, .int l, .int u]]=(s.U ++ [(⟨a,b,l,u,0,[]⟩:ci)]).map vb
 rw[map_append,h];rfl
noncomputable def BI (N:Addr->Prop)(H:Hp)(v:V)(ln:bV):Prop:=∃ t ql zf,v = .ref t/\H t=some (.tup [.int ln.r, .int ln.b,hV ln.h, .ref ql])/\H ql=some (.lst zf)/\zl H zf ln.qs/\N ql
noncomputable def Cw (N:Addr->Prop)(H:Hp)(v:V)(way:List Nat):Prop:=∃ t,v = .ref t/\H t=some (.lst (nV way))/\N t
noncomputable def Di (N:Addr->Prop)(H:Hp)(v:V)(qs:List (Int × Int)):Prop:=∃ t zf,v = .ref t/\H t=some (.lst zf)/\zl H zf qs/\N t
theorem BI.same {N:Addr->Prop}{H H':Hp}(s:yW H H')(v:V)(ln:bV)(h:BI N H v ln):BI N H' v ln:=by
 obtain⟨t,ql,zf,e,h1,h2,h3,h4⟩:=h
 exact⟨t,ql,zf,e,s _ _ h1,s _ _ h2,zl.same s h3,h4⟩
theorem Cw.same {N:Addr->Prop}{H H':Hp}(s:yW H H')(v:V)(y:List Nat)(h:Cw N H v y):Cw N H' v y:=by
 obtain⟨t,e,h1,h2⟩:=h
 exact⟨t,e,s _ _ h1,h2⟩
theorem Di.same {N:Addr->Prop}{H H':Hp}(s:yW H H')(v:V)(qs:List (Int × Int))(h:Di N H v qs):Di N H' v qs:=by
 obtain⟨t,zf,e,h1,h2,h3⟩:=h
 exact⟨t,zf,e,s _ _ h1,zl.same s h2,h3⟩
structure E6 (N:Addr->Prop)(H:Hp)(v:V)(zO:List bV)(AI:List (List Nat))(Dj:List (List (Int × Int)))(t L W X:Addr)(lvs zP zW:List V):Prop where
 e:v = .ref t
 t:H t=some (.tup [.ref L, .ref W, .ref X])
 gl:H L=some (.lst lvs)
 pl:Paired (BI N H) lvs zO
 gw:H W=some (.lst zP)
 pw:Paired (Cw N H) zP AI
 gx:H X=some (.lst zW)
 px:Paired (Di N H) zW Dj
 nl:N L
 nw:N W
 nx:N X
theorem E6.same {N:Addr->Prop}{H H':Hp}{v:V}{zO:List bV}{AI:List (List Nat)}{Dj:List (List (Int × Int))}{t L W X:Addr}{lvs zP zW:List V}(s:yW H H')(h:E6 N H v zO AI Dj t L W X lvs zP zW):E6 N H' v zO AI Dj t L W X lvs zP zW :=
 ⟨h.e,s _ _ h.t,s _ _ h.gl,Paired.mono (fun v l=>BI.same s v l) h.pl,s _ _ h.gw,Paired.mono (fun v l=>Cw.same s v l) h.pw,s _ _ h.gx,Paired.mono (fun v l=>Di.same s v l) h.px,h.nl,h.nw,h.nx⟩
noncomputable def hD:Option Int->PyData
 | none => .none
 | some z => .int z
noncomputable def lnD (ln:bV):PyData := .tuple [.int ln.r, .int ln.b,hD ln.h, .list (ln.qs.map jI)]
noncomputable def wyD (y:List Nat):PyData := .list (y.map fun z:Nat => .int z)
noncomputable def hpD (qs:List (Int × Int)):PyData := .list (qs.map jI)
noncomputable def SY (zO:List bV)(AI:List (List Nat))(Dj:List (List (Int × Int))):PyData := .tuple [.list (zO.map lnD), .list (AI.map wyD), .list (Dj.map hpD)]
theorem pQ {K:Frag}{H:Hp}:∀ us:List Nat,ik K H (nV us) (us.map fun z:Nat=>PyData.int z)
 | [] => .nil
 | u :: us => .cons (.int _) (pQ us)
theorem iP {K:Frag}{H:Hp}{α:Type}{R:V->α->Prop}{f:α->PyData}(h:∀ v a,R v a->iQ K H v (f a)):∀ {vs:List V}{as:List α},Paired R vs as->ik K H vs (as.map f)
 | _,_, .nil => .nil
 | _,_, .cons x r => .cons (h _ _ x) (iP h r)
theorem MG {K:Frag}{H:Hp}(h:Option Int):iQ K H (hV h) (hD h):=by cases h<;>first | exact .zm | exact .int _
theorem uo {K:Frag}{N:Addr->Prop}{H:Hp}{v:V}{zO:List bV}{AI:List (List Nat)}{Dj:List (List (Int × Int))}{t L W X:Addr}{lvs zP zW:List V}(h:E6 N H v zO AI Dj t L W X lvs zP zW):iQ K H v (SY zO AI Dj):=by
 rw[h.e]
 refine .tup (zc.of h.t) (.cons (.lst (zb.of h.gl) (iP (fun v ln h=>?_) h.pl)) (.cons (.lst (zb.of h.gw) (iP (fun v y h=>?_) h.pw)) (.cons (.lst (zb.of h.gx) (iP (fun v qs h=>?_) h.px)) .nil)))
 ·obtain⟨t,ql,zf,rfl,h1,h2,h3,_⟩:=h
  exact .tup (zc.of h1) (.cons (.int _) (.cons (.int _) (.cons (MG _) (.cons (.lst (zb.of h2) (ia h3)) .nil))))
 ·obtain⟨t,rfl,h1,_⟩:=h
  exact .lst (zb.of h1) (pQ _)
 ·obtain⟨t,zf,rfl,h1,h2,_⟩:=h
  exact .lst (zb.of h1) (ia h2)
theorem pc (ps:List (Int × Int)):Bc (.list (ps.map jI)) 2:=ck (m:=1) fun z hz=>by
 obtain⟨p,_,rfl⟩:=mem_map.mp hz
 exact c9 (m:=0) fun y hy=>by
  simp only[mem_cons,not_mem_nil,or_false]at hy
  rcases hy with rfl | rfl<;>exact bU _
theorem xj (zO:List bV)(AI:List (List Nat))(Dj:List (List (Int × Int))):Bc (SY zO AI Dj) 64:=(c9 (m:=4) fun y hy=>by
 simp only[mem_cons,not_mem_nil,or_false]at hy
 rcases hy with rfl | rfl | rfl
 ·refine ck (m:=3) fun z hz=>?_
  obtain⟨ln,_,rfl⟩:=mem_map.mp hz
  refine c9 (m:=2) fun y hy=>?_
  simp only[mem_cons,not_mem_nil,or_false]at hy
  rcases hy with rfl | rfl | rfl | rfl
  ·exact(bU _).le (by decide)
  ·exact(bU _).le (by decide)
  ·cases ln.h with
   | none=>exact DX.le (by decide)
   | some z=>exact(bU _).le (by decide)
  ·exact pc _
 ·refine(ck (m:=1) fun z hz=>?_).le (by decide)
  obtain⟨y,_,rfl⟩:=mem_map.mp hz
  refine ck (m:=0) fun x hx=>?_
  obtain⟨u,_,rfl⟩:=mem_map.mp hx
  exact bU _
 ·refine(ck (m:=2) fun z hz=>?_).le (by decide)
  obtain⟨qs,_,rfl⟩:=mem_map.mp hz
  exact pc _).le (by decide)
theorem ie {α:Type}{R:Hp->V->α->Prop}{g:TG}{te:TE}{σ0:St}{H:Hp}{Q:VK}(mono:∀ {H H':Hp},yW H H'->∀ v a,R H v a->R H' v a)(as:List α)(hn:as.length < sizeLine)
  (hs:∀ (i:Nat)(a:α)(H1:Hp)(N:V->Hp->Prop),as[i]? = some a->yW H H1->(∀ v H2,yW H1 H2->R H2 v a->N v H2)->g (.int i) σ0 H1 fun σ2 H2=>te σ2 H2 N)
  (hq:∀ D vs H1,yW H H1->H1 D=none->Paired (R H1) vs as->Q (.ref D) (upd H1 D (.lst vs))):dF (u0 0 as.length) g l7 te σ0 Q H:=by
 refine bI as.length hn (fun i acc H'=>yW H H'/\Paired (R H') acc (as.take i)) ⟨yW.refl _, .nil⟩ (fun i acc H' h=>by rw[Paired.length h.2];exact length_take_le _ _) (fun i acc H' hi h=>?_) (fun acc H' h=>?_)
 ·obtain⟨s,hL⟩:=h
  refine⟨hi,fun v H2 y=>?_⟩
  obtain⟨rfl,rfl⟩:=y
  rw[zero_add]
  refine hs i as[i] H2 (fun y H4=>yW H H4/\Paired (R H4) (acc ++ [y]) (as.take (i + 1))) (List.getElem?_eq_getElem hi) s fun v H3 s3 hv=>⟨s.trans s3,?_⟩
  rw[take_succ,List.getElem?_eq_getElem hi]
  exact Paired.snoc hv (Paired.mono (mono s3) hL)
 ·obtain⟨s,hL⟩:=h
  rw[take_length]at hL
  exact⟨le_refl _,fun D hD=>hq D acc H' s hD hL⟩
noncomputable def bE (s:YS):List (List Nat):=s.U.map fun t=>t.way
noncomputable def oO (K:Frag)(ys:Ys):Sp:=fun vs H Q _=>∃ (N:Addr->Prop)(a:YA)(s:YS),(∀ z,H z=none->N z)/\vs=[.ref a.y, .int s.lanes.length, .int s.lies.length]/\zT K ys H a s/\s.lanes.length <= 900/\s.lies.length <= 900/\s.U.length <= 900 /\
 ∀ (t L W X:Addr)(lvs zP zW:List V)(H':Hp),yW H H'->E6 N H' (.ref t) s.lanes (bE s) s.lies t L W X lvs zP zW->Q (.ref t) H'
noncomputable def Ta (s:Stmt):Scope:=match s with
 | .Return (some (.Tuple (.ListComp _ _ sc _ :: _) _ _)) _=>sc
 | _=>{ kind := .function,names:=[],isGenerator:=false,isCoroutine:=false }
noncomputable def Tb (s:Stmt):Scope:=match s with
 | .Return (some (.Tuple [_,_, .ListComp _ _ sc _] _ _)) _=>sc
 | _=>{ kind := .function,names:=[],isGenerator:=false,isCoroutine:=false }
noncomputable abbrev Pk:List Str:=["_law_yard", "_law_lanes_here", "_law_places", "_law_ways"]
noncomputable abbrev NLp:List Str:=["_law_yard", "_law_begins_here", "_law_cells", "_law_cell", "_law_start", "_law_goal"]
theorem Fl:ao NLp ["_law_yard", "_law_begins_here", "_law_cells"] (aj kI):=L2.zy
theorem qB {c:Cs}{ys:Ys}{x:Xs}{J:TJ}{TC f fw fp:Addr}{fd dw dp:FuncData}(F:zt K "_law_posts" "_law_posts" kI f fd)(T:eO mg)(Y:i5 K ys)(W:Wy K TC fw dw J)
  (mp:b6 K ys.yZ "post" fp) (bp:Binds K dp LO []) (Gp:yX P w K mg base (eR P w) 4 fp dp LO (n0 K c TC J ys x)) :
  yX P w K mg base aD 5 f fd ["_law_yard", "_law_begins_here", "_law_cells"] (lB K c TC J ys):=by
 refine F.ok Fl (fun vs H Q E h=>?_) (fun cdv A outer s H vs Q E hr h=>?_)
 ·obtain⟨a,s,bg,cs,Aa,bs,ns,rfl,_⟩:=h
  rfl
 ·obtain⟨a,st,bg,cs,Aa,bs,ns,rfl,hY,hT,hP,hD,gbg,MH,Tc,Pg,nbg,Xv,ncs,hnl,O7,q⟩:=h
  have hu:=hr.units
  refine⟨_,ak (bN PassesOwn.never rfl (bO (pv 2)) (av (i:=3) Fl.nd rfl (Or.inl rfl))
   (ak (aN (ax (jk hu) (pv 1) (aV ad) (aB _))
    (af (dH (ap aJ (pv 1) (az bX (az fT (pv 3) ah) (aG ay rfl T.len PySem.boot_len (aa (pv 1) ad))) (fun _ _=>rfl)) (fB rfl (aO (av (i:=4) Fl.nd rfl (Or.inl rfl)) (aO (av (i:=5) Fl.nd rfl (Or.inl rfl)) dC))))
    (ak (aR (aF (pv 0) Y.cl mp Gp hr bp .nil io (aa (pv 4) (aa (pv 5) (aa (az bB ah (az bX (pv 3) ah)) (aa (az bX (az fT (pv 3) ah) (az tp ah ah)) ad)))))))) aE))),?_⟩
  refine⟨_,rfl,cs,rfl,⟨_,zb.of Xv⟩,?_⟩
  refine hU (K:=K) (a:=cs) (xs:=ns.map V.int) (fun i σ H2=>∃ (a4 a5 a6:Option V)(s2:YS),zh [a.le,a.dn] H H2/\H2 cs=some (.lst (ns.map V.int))/\H2 bg=some (.lst Aa)/\zT K ys H2 a s2/\E5 a s2/\PD s2/\s2.U.length <= st.U.length + i/\σ=[some (.ref a.y),some (.ref bg),some (.ref cs),a4,a5,a6])
   ⟨none,none,none,st,yW.zE (yW.refl H),Xv,gbg,hY,hP,hD,by omega,rfl⟩ (fun i σ H2 _ ⟨_,_,_,_,_,g,_⟩=>zb.of g) ?_ ?_
  rotate_left
  ·rintro σ H2 ⟨a4,a5,a6,s2,o2,_,_,B6,Pl,Bk,h1,rfl⟩
   rw[length_map]at h1
   exact q H2 s2 o2 B6 Pl Bk h1
  rintro i v σ H2 hv ⟨a4,a5,a6,s2,o2,g2,MI,B6,Pl,Bk,h1,rfl⟩
  have hi:i < ns.length:=by have:=(List.getElem?_eq_some_iff.mp hv).1;rw[length_map]at this;exact this
  obtain⟨d,rfl⟩:∃ d,v=V.int d:=by
   rw[List.getElem?_map,List.getElem?_eq_getElem hi]at hv
   exact⟨_,(Option.some.inj hv).symm⟩
  have MJ:∀ b ∈ [a.le,a.dn],∃ xs,H b=some (.lst xs):=fun b hb=>by
   simp only[mem_cons,not_mem_nil,or_false]at hb
   rcases hb with rfl | rfl
   ·exact hY.Cr _ (by simp)
   ·exact hY.Cr _ (by simp)
  have hT2:uy c TC J H2 a:=zY.keep W hT (zh.zu MJ o2)
  have Td:zl H2 Aa bs:=(zh.zu MJ o2).zO MH
  have hbv:Aa.length=bs.length:=Paired.length MH
  have in4:∀ z:Addr,z ∉ a.four->z ∉ [a.le,a.dn]:=fun z hz h=>hz (by simp only[mem_cons,not_mem_nil,or_false]at h ⊢;rcases h with h | h<;>simp[h])
  refine⟨_,rfl,zero_le _,fun o7 Pj=>?_⟩
  have s4:=(yW.refl H2).new (o := .lst []) Pj
  have g7:(upd H2 o7 (.lst [])) o7=some (.lst []):=ac
  generalize upd H2 o7 (.lst [])=H4 at s4 g7 ⊢
  have HK:=zd.same B6 s4
  have o4:zh [a.le,a.dn] H H4:=o2.trans (yW.zE s4)
  have MK:=zl.same s4 Td
  refine neN (f:=jI) (l:=bs) (.lst (zb.of (s4 _ _ MI)) (ia MK)) (.lst (zb.of g7) .nil) (qh _) ⟨_,rfl,?_⟩
  cases BV:bs.isEmpty with
  | true=>exact aI ⟨_,_,_,s2,o4,s4 _ _ g2,s4 _ _ MI,HK,Pl,Bk,by omega,rfl⟩
  | false =>
  have Tf:0 < Aa.length:=by
   rw[hbv]
   cases bs with
   | nil=>cases BV
   | cons _ _=>exact succ_pos _
  have np:(0:Int) < ((Aa.length:Nat):Int):=by omega
  have z1:=emod_nonneg (d / 4) (show((Aa.length:Nat):Int) ≠ 0 by omega)
  have z2:=emod_lt_of_pos (d / 4) np
  obtain⟨k,hk,Tg⟩:∃ k:Nat,d / 4 % ((Aa.length:Nat):Int)=(k:Int)/\k < Aa.length:=⟨(d / 4 % ((Aa.length:Nat):Int)).toNat,by omega,by omega⟩
  have Ih:=List.getElem?_eq_getElem Tg
  obtain⟨pr,hpr,pt,Jq,Av⟩:=Paired.at MK Ih
  rw[Jq]at Ih
  obtain⟨a',b',rfl,Xw,Xx,FV,hw⟩:=Tc pr (mem_of_getElem? hpr)
  refine aK ⟨_,rfl,_,rfl,_,_,rfl,rfl,⟨by decide,by decide⟩,_,rfl,bg,_,rfl, .inl (zb.of (s4 _ _ MI)),_,_,rfl,rfl,np,bg,Aa,(k:Int), .ref pt,rfl,congrArg V.int hk,zb.of (s4 _ _ MI),ai Ih,pt,_,rfl,zc.of Av,rfl,_,_,rfl,_,_,rfl,rfl,?_⟩
  refine⟨_,rfl,a.y,a.dy,_,rfl,HK.ins,rfl,_,rfl,_,rfl,_,rfl,_,_,rfl,rfl,(by show (0:Int) < 4;decide),_,_,rfl,rfl,_,rfl,_,_,rfl,rfl,⟨by decide,by decide⟩,_,_,rfl,rfl,⟨by decide,by decide,by decide⟩,_,_,rfl,rfl,(by show (0:Int) < 10 ^ (60:Int).toNat;decide +kernel),?_⟩
  have w1:=emod_nonneg (d / 4) (show(10 ^ (60:Int).toNat:Int) ≠ 0 by decide +kernel)
  have w2:=emod_lt_of_pos (d / 4) (show (0:Int) < 10 ^ (60:Int).toNat by decide +kernel)
  have l1:=emod_nonneg d (show (4:Int) ≠ 0 by decide)
  have l2:=emod_lt_of_pos d (show (0:Int) < 4 by decide)
  dsimp only
  generalize d / 4 % 10 ^ (60:Int).toNat=wd at w1 w2 ⊢
  have hwd:Je (.int wd)=true:=by
   unfold Je
   exact decide_eq_true (by rw[if_neg (by omega)];exact w2)
  obtain⟨len,hlen,Ll⟩:∃ len:Int,1 + d % 4=len/\1 <= len/\len <= 60:=⟨_,rfl,by omega,by omega⟩
  rw[hlen]
  have gd:=qq (n:=a.n) (wy:=a.wy) (m:=s2.U.length) Xw Xx Ll hwd FV hw (by omega)
  have Lc:uy c TC J H4 a:=zY.keep W hT2 (yW.zu s4)
  have Ht:s2.done.length <= 10000:=by rw[Bk,length_map];omega
  refine⟨a.y,a.dy,a.tb,a.ro,a.la,a.le,a.li,a.dn,a.lx,a.zx,a.lt,a.n,a.zg,a.ps,a.wy,s2, .int a', .int b', .int len, .int wd,rfl,HK,Lc, .int _, .int _, .int _, .int _,by omega,Ht,(fun h=>by rw[gd]at h;cases h),(fun h=>by rw[gd]at h;cases h),(fun h=>by rw[gd]at h;cases h),(fun h=>by rw[gd]at h;cases h),(fun h=>by rw[gd]at h;cases h),fun _ H5 o5 EU=>?_⟩
  refine⟨_,_,_,pi s2 a' b' len wd,o4.trans o5,o5 _ _ (in4 _ ncs) (s4 _ _ g2),o5 _ _ (in4 _ nbg) (s4 _ _ MI),EU,Pl.post Xw Xx ⟨by omega,Ll.2⟩,Bk.post _ _ _ _,?_,rfl⟩
  show(s2.U ++ [_]).length <= _
  rw[length_append,length_singleton];omega
theorem ML:ao Pk ["_law_yard", "_law_lanes_here", "_law_places"] (aj eD):=L2.zy
theorem MN:Ae Pk (aj eD) (re ((aH eD).getD 0 (.Pass ⟨0,0,0,0⟩))) ["_law_yard"] [0]:=L2.Bf
theorem MO:Ae Pk (aj eD) (Ta ((aH eD).getD 1 (.Pass ⟨0,0,0,0⟩))) ["_law_yard"] [0]:=L2.Bf
theorem MP:Ae Pk (aj eD) (Tb ((aH eD).getD 1 (.Pass ⟨0,0,0,0⟩))) ["_law_yard"] [0]:=L2.Bf
theorem MQ:(["_law_number", "_law_yard"]:List Str).Nodup:=by decide +kernel
theorem MR:(["_law_lane", "_law_yard"]:List Str).Nodup:=by decide +kernel
theorem MS:(["_law_place", "_law_yard"]:List Str).Nodup:=by decide +kernel
theorem t8 {ys:Ys}{f ft fw fp fy:Addr}{fd dt dw dp dy:FuncData}(F:zt K "_law_stand" "_law_stand" eD f fd)(T:eO mg)(Y:i5 K ys)
  (mt:b6 K ys.yZ "lane_told" ft) (bt:Binds K dt ["self", "lane"] []) (Gt:yX P w K mg base aD 2 ft dt ["self", "lane"] (oX K ys))
  (mw:b6 K ys.yZ "way_told" fw) (bw:Binds K dw ["self", "number"] []) (Gw:yX P w K mg base aD 1 fw dw ["self", "number"] (rD K ys))
  (mp:b6 K ys.yZ "posted" fp) (bp:Binds K dp ["self"] []) (Gp:yX P w K mg base aD 1 fp dp ["self"] (jc K ys))
  (my:b6 K ys.yZ "lying" fy) (So:Binds K dy ["self", "place"] []) (Gy:yX P w K mg base aD 1 fy dy ["self", "place"] (oU K ys)) :
  yX P w K mg base aD 3 f fd ["_law_yard", "_law_lanes_here", "_law_places"] (oO K ys):=by
 refine F.ok ML (fun vs H Q E h=>?_) (fun cdv A outer s H vs Q E hr h=>?_)
 ·obtain⟨_,a,s,_,rfl,_⟩:=h
  rfl
 ·obtain⟨N,a,st,Bl,rfl,hY,OR,Et,W8,q⟩:=h
  have zL:zi 1 _:=hr.mono (by decide)
  refine⟨_,af (cv (i:=3) (own:=["_law_number"]) (capN:=["_law_yard"]) (cap:=[0]) MN rfl ML.nd rfl rfl (aM rfl T.range (aa (b9 (pv 0) Y.cl mp Gp zL bp .nil aq) ad)) (fun C s' H' fp=>⟨av (i:=0) MQ rfl (Or.inl rfl),bJ,aF (pv 1) Y.cl mw Gw zL bw .nil aq (aa (pv 0) ad)⟩))
   (ak (au (aW (aa (bz (own:=["_law_lane"]) (capN:=["_law_yard"]) (cap:=[0]) MO rfl (aM rfl T.range (aa (pv 1) ad)) (fun C s' H' fp=>⟨av (i:=0) MR rfl (Or.inl rfl),bJ,aF (pv 1) Y.cl mt Gt hr bt .nil aq (aa (pv 0) ad)⟩))
    (aa (pv 3) (aa (bz (own:=["_law_place"]) (capN:=["_law_yard"]) (cap:=[0]) MP rfl (aM rfl T.range (aa (pv 2) ad)) (fun C s' H' fp=>⟨av (i:=0) MS rfl (Or.inl rfl),bJ,aF (pv 1) Y.cl my Gy zL So .nil aq (aa (pv 0) ad)⟩)) ad)))))),?_⟩
  refine⟨_,rfl,a.y,a.dy,_,rfl,hY.ins,rfl,a.y,a.dy,a.tb,a.ro,a.la,a.le,a.li,a.dn,st,rfl,hY,(st.U.length:Int),rfl,by omega,by omega,?_⟩
  have CO:(bE st).length=st.U.length:=length_map ..
  rw[toNat_natCast,← CO]
  refine ie (R:=Cw N) (fun s=>Cw.same s) (bE st) (by rw[sizeLine_eq];omega) (fun i y H1 N hy s1 hN=>?_) (fun W zP H1 s1 hW pW=>?_)
  ·have BE:=zd.same hY s1
   obtain⟨t,ht,rfl⟩:∃ t,st.U[i]? = some t/\t.way=y:=by
    unfold bE at hy
    rw[List.getElem?_map]at hy
    cases hx:st.U[i]? with
    | none=>rw[hx]at hy;cases hy
    | some t=>rw[hx]at hy;exact⟨t,rfl,Option.some.inj hy⟩
   exact⟨_,rfl,a.y,a.dy,_,rfl,BE.ins,rfl,_,rfl,a.y,a.dy,a.tb,a.ro,a.la,a.le,a.li,a.dn,st,i,t,rfl,BE,ht,fun x H2 s2 hx gx=>hN _ H2 s2 ⟨x,rfl,gx,Bl _ (s1.free hx)⟩⟩
  have s2:=(yW.refl H1).new (o := .lst zP) hW
  have gW:(upd H1 W (.lst zP)) W=some (.lst zP):=ac
  show c4 3 (V.ref W) _ (upd H1 W (.lst zP)) _
  generalize upd H1 W (.lst zP)=H2 at s2 gW ⊢
  have Ti:=Paired.mono (fun v l=>Cw.same s2 v l) pW
  have B6:=zd.same hY (s1.trans s2)
  refine⟨_,rfl,(st.lanes.length:Int),rfl,by omega,by omega,?_⟩
  rw[toNat_natCast]
  refine ie (R:=BI N) (fun s=>BI.same s) st.lanes (by rw[sizeLine_eq];omega) (fun i ln H3 N zB s3 hN=>?_) (fun L lvs H3 s3 hL pL=>?_)
  ·have BF:=zd.same B6 s3
   exact⟨_,rfl,a.y,a.dy,_,rfl,BF.ins,rfl,_,rfl,a.y,a.dy,a.tb,a.ro,a.la,a.le,a.li,a.dn,st,i,ln,rfl,BF,zB,fun t ql zf H4 s4 BP gt RH CJ=>hN _ H4 s4 ⟨t,ql,zf,rfl,gt,RH,CJ,Bl _ ((s1.trans (s2.trans s3)).free BP)⟩⟩
  have s4:=(yW.refl H3).new (o := .lst lvs) hL
  have gL:(upd H3 L (.lst lvs)) L=some (.lst lvs):=ac
  generalize upd H3 L (.lst lvs)=H4 at s4 gL ⊢
  have pL4:=Paired.mono (fun v l=>BI.same s4 v l) pL
  have Pm:=s3.trans s4
  have HK:=zd.same B6 Pm
  refine⟨_,rfl,_,rfl,(st.lies.length:Int),rfl,by omega,by omega,?_⟩
  rw[toNat_natCast]
  refine ie (R:=Di N) (fun s=>Di.same s) st.lies (by rw[sizeLine_eq];omega) (fun i qs H5 N By s5 hN=>?_) (fun X zW H5 s5 hX pX=>?_)
  ·have EU:=zd.same HK s5
   exact⟨_,rfl,a.y,a.dy,_,rfl,EU.ins,rfl,_,rfl,a,st,i,qs,rfl,EU,By,fun D zf H6 s6 hD gD CJ=>hN _ H6 s6 ⟨D,zf,rfl,gD,CJ,Bl _ ((s1.trans (s2.trans (Pm.trans s5))).free hD)⟩⟩
  have s6:=(yW.refl H5).new (o := .lst zW) hX
  have gX:(upd H5 X (.lst zW)) X=some (.lst zW):=ac
  generalize upd H5 X (.lst zW)=H6 at s6 gX ⊢
  have pX6:=Paired.mono (fun v l=>Di.same s6 v l) pX
  have Fi:=s5.trans s6
  refine⟨by show 3 <= sizeLine;decide,fun t ht=>?_⟩
  have s7:=(yW.refl H6).new (o := .tup [.ref L, .ref W, .ref X]) ht
  have Gz:=Fi.trans s7
  have Tj:=Pm.trans Gz
  exact q t L W X lvs zP zW _ (s1.trans (s2.trans Tj)) ⟨rfl,ac,Gz _ _ gL,Paired.mono (fun v l=>BI.same Gz v l) pL4,Tj _ _ gW,Paired.mono (fun v l=>Cw.same Tj v l) Ti,s7 _ _ gX,Paired.mono (fun v l=>Di.same s7 v l) pX6,Bl _ ((s1.trans (s2.trans s3)).free hL),Bl _ (s1.free hW),Bl _ ((s1.trans (s2.trans (Pm.trans s5))).free hX)⟩
theorem lq (xs:List V)(k:Nat):fM xs none (some (k:Int))=xs.take k:=by
 unfold fM
 have e0:HT.Bi xs.length 0 none=0:=rfl
 rw[e0,show HT.Bi xs.length xs.length (some (k:Int))=min k xs.length from HT.AE _ _ k,List.drop_zero,Nat.sub_zero]
 rcases Nat.le_total k xs.length with h | h
 ·rw[min_eq_left h]
 ·rw[min_eq_right h,take_of_length_le h,take_of_length_le (le_refl _)]
theorem fV (xs:List V)(k:Nat)(h:k <= xs.length):fM xs (some (k:Int)) none=xs.drop k:=by
 unfold fM
 have e1:HT.Bi xs.length xs.length none=xs.length:=rfl
 rw[e1,show HT.Bi xs.length 0 (some (k:Int))=min k xs.length from HT.AE _ _ k,min_eq_left h,take_of_length_le (by rw[length_drop];omega)]
theorem kE {lvs:List V}{k:Nat}{v:V}(h:k < lvs.length):lvs.take k ++ [v] ++ lvs.drop (k + 1)=lvs.set k v:=by
 rw[List.set_eq_take_append_cons_drop,if_pos h,append_assoc];rfl
noncomputable def l8:Sp:=fun vs H Q _=>∃ (N:Addr->Prop)(L:Addr)(lvs:List V)(zO:List bV)(k:Nat)(lk:bV),(∀ z,H z=none->N z)/\vs=[.ref L, .int k]/\H L=some (.lst lvs)/\Paired (BI N H) lvs zO/\zO[k]? = some lk/\0 < lk.qs.length/\lvs.length <= 900/\∀ (D:Addr)(zJ:List V)(H':Hp),yW H H'->H' D=some (.lst zJ)->N D->Paired (BI N H') zJ (zO.set k (bP lk))->Q (.ref D) H'
noncomputable def rT:Sp:=fun vs H Q _=>∃ (N:Addr->Prop)(L:Addr)(lvs:List V)(zO:List bV)(k:Nat)(lk:bV)(pt:Addr)(m c len:Int),(∀ z,H z=none->N z)/\vs=[.ref L, .int k, .ref pt, .int len]/\H L=some (.lst lvs)/\Paired (BI N H) lvs zO/\zO[k]? = some lk/\H pt=some (.tup [.int m, .int c])/\lvs.length <= 900/\lk.qs.length <= 10000/\∀ (D:Addr)(zJ:List V)(H':Hp),yW H H'->H' D=some (.lst zJ)->N D->Paired (BI N H') zJ (zO.set k (fK lk m c len))->Q (.ref D) H'
noncomputable def ly (AI:List (List Nat))(m:Nat)(c:Int)(l:Nat):List (List Nat):=if c=0 then AI.set m (AI.getD m [] ++ [l]) else AI
noncomputable def oY:Sp:=fun vs H Q _=>∃ (N:Addr->Prop)(st L0 W X L:Addr)(lvs zP:List V)(zO:List bV)(AI:List (List Nat))(l m:Nat)(lk:bV)(pt:Addr)(c len:Int),(∀ z,H z=none->N z)/\vs=[.ref st, .ref L, .int l, .ref pt, .int len]/\H st=some (.tup [.ref L0, .ref W, .ref X])/\H W=some (.lst zP)/\Paired (Cw N H) zP AI/\H L=some (.lst lvs)/\Paired (BI N H) lvs zO/\zO[l]? = some lk/\H pt=some (.tup [.int m, .int c])/\m < AI.length/\lvs.length <= 900/\lk.qs.length <= 10000/\(∀ y ∈ AI,y.length <= 1000) /\
 ∀ (t D W':Addr)(zJ AS:List V)(H':Hp),yW H H'->H' t=some (.tup [.ref D, .ref W', .ref X])->H' D=some (.lst zJ)->N D->Paired (BI N H') zJ (zO.set l (fK lk m c len))->H' W' = some (.lst AS)->N W'->Paired (Cw N H') AS (ly AI m c l)->Q (.ref t) H'
noncomputable abbrev NPu:List Str:=["_law_lanes_here", "_law_lane", "_law_rights", "_law_back", "_law_holder", "_law_queue"]
theorem El:ao NPu ["_law_lanes_here", "_law_lane"] (aj kF):=L2.zy
theorem qy {f:Addr}{fd:FuncData}(F:zt K "_law_pulled" "_law_pulled" kF f fd):yX P w K mg base aD 1 f fd ["_law_lanes_here", "_law_lane"] l8:=by
 refine F.ok El (fun vs H Q E h=>?_) (fun cdv A outer s H vs Q E hr h=>?_)
 ·obtain⟨_,L,lvs,zO,k,lk,_,rfl,_⟩:=h
  rfl
 ·obtain⟨N,L,lvs,zO,k,lk,Bl,rfl,gL,pL,hk,Pn,OM,q⟩:=h
  refine⟨_,af (dH (ap aJ (pv 0) (pv 1) (fun _ _=>rfl)) (fB rfl (aO (av (i:=2) El.nd rfl (Or.inl rfl)) (aO (av (i:=3) El.nd rfl (Or.inl rfl)) (aO (av (i:=4) El.nd rfl (Or.inl rfl)) (aO (av (i:=5) El.nd rfl (Or.inl rfl)) dC))))))
   (ak (au (az dL (az dL (cn c6 (pv 0) dB (cy (pv 1))) (aV (aa (aW (aa (pv 2) (aa (az bB (pv 3) ah) (aa (pv 4) (aa (cn c6 (pv 5) (cy ah) dB) ad))))) ad))) (cn c6 (pv 0) (cy (az bB (pv 1) ah)) dB)))),?_⟩
  obtain⟨v,hv,t,ql,zf,rfl,ht,BP,CJ,MT⟩:=Paired.at2 pL hk
  have AO:k < lvs.length:=(List.getElem?_eq_some_iff.mp hv).1
  have AJ:zf.length=lk.qs.length:=Paired.length CJ
  refine⟨_,rfl,_,rfl,L,lvs,(k:Int),_,rfl,rfl,zb.of gL,ai hv,t,_,rfl,zc.of ht,rfl,_,_,rfl,_,_,rfl,_,_,rfl,_,_,rfl,rfl,?_⟩
  refine⟨_,rfl,_,rfl,_,rfl,L,_,rfl,zb.of gL,fun o1 Ca=>?_⟩
  rw[lq]
  have v1:=(yW.refl H).new (o := .lst (lvs.take k)) Ca
  have Bv:(upd H o1 (.lst (lvs.take k))) o1=some (.lst (lvs.take k)):=ac
  generalize upd H o1 (.lst (lvs.take k))=H1 at v1 Bv ⊢
  refine⟨_,rfl,_,rfl,_,_,rfl,rfl,_,rfl,_,rfl,_,rfl,ql,_,rfl,zb.of (v1 _ _ BP),fun q1 EF=>?_⟩
  rw[show fM zf (some 1) none=zf.drop 1 from fV zf 1 (by omega)]
  have v2:=v1.new (o := .lst (zf.drop 1)) EF
  have Ii:(upd H1 q1 (.lst (zf.drop 1))) q1=some (.lst (zf.drop 1)):=ac
  have CK:(upd H1 q1 (.lst (zf.drop 1))) o1=some (.lst (lvs.take k)):=by rw[ae (ag Bv EF)];exact Bv
  generalize upd H1 q1 (.lst (zf.drop 1))=H2 at v2 Ii CK ⊢
  refine⟨by show 4 <= sizeLine;decide,fun t1 Fm=>?_⟩
  have v3:=v2.new (o := .tup [.int lk.r, .int (lk.b + 1),hV lk.h, .ref q1]) Fm
  have Fn:(upd H2 t1 (.tup [.int lk.r, .int (lk.b + 1),hV lk.h, .ref q1])) t1=some (.tup [.int lk.r, .int (lk.b + 1),hV lk.h, .ref q1]):=ac
  have MU:(upd H2 t1 (.tup [.int lk.r, .int (lk.b + 1),hV lk.h, .ref q1])) q1=some (.lst (zf.drop 1)):=by rw[ae (ag Ii Fm)];exact Ii
  have Cy:(upd H2 t1 (.tup [.int lk.r, .int (lk.b + 1),hV lk.h, .ref q1])) o1=some (.lst (lvs.take k)):=by rw[ae (ag CK Fm)];exact CK
  generalize upd H2 t1 (.tup [.int lk.r, .int (lk.b + 1),hV lk.h, .ref q1])=H3 at v3 Fn MU Cy ⊢
  refine⟨by show 1 <= sizeLine;decide,fun o2 zS=>?_⟩
  have w1:=(yW.refl H3).new (o := .lst [.ref t1]) zS
  have go2:(upd H3 o2 (.lst [.ref t1])) o2=some (.lst [.ref t1]):=ac
  generalize upd H3 o2 (.lst [.ref t1])=G0 at w1 go2 ⊢
  refine⟨o1,o2,_,_,rfl,rfl,w1 _ _ Cy,go2,by rw[length_take,sizeLine_eq];simp only[length_singleton];omega,fun o3 MV=>?_⟩
  have w2:=w1.new (o := .lst (lvs.take k ++ [.ref t1])) MV
  have Em:(upd G0 o3 (.lst (lvs.take k ++ [.ref t1]))) o3=some (.lst (lvs.take k ++ [.ref t1])):=ac
  generalize upd G0 o3 (.lst (lvs.take k ++ [.ref t1]))=En at w2 Em ⊢
  refine⟨_,rfl,_,rfl,_,_,rfl,rfl,_,rfl,L,_,rfl,zb.of (w2 _ _ (v3 _ _ gL)),fun o4 G5=>?_⟩
  rw[show fM lvs (some ((k:Int) + 1)) none=lvs.drop (k + 1) from fV lvs (k + 1) (by omega)]
  have w3:=w2.new (o := .lst (lvs.drop (k + 1))) G5
  have G6:(upd En o4 (.lst (lvs.drop (k + 1)))) o4=some (.lst (lvs.drop (k + 1))):=ac
  have Cz:(upd En o4 (.lst (lvs.drop (k + 1)))) o3=some (.lst (lvs.take k ++ [.ref t1])):=by rw[ae (ag Em G5)];exact Em
  generalize upd En o4 (.lst (lvs.drop (k + 1)))=G7 at w3 G6 Cz ⊢
  refine⟨o3,o4,_,_,rfl,rfl,Cz,G6,by rw[length_append,length_take,length_drop,sizeLine_eq];simp only[length_singleton];omega,fun Dn CU=>?_⟩
  rw[kE (v := .ref t1) (k:=k) (lvs:=lvs) (by omega)]
  have w4:=w3.new (o := .lst (lvs.set k (.ref t1))) CU
  have G8:(upd G7 Dn (.lst (lvs.set k (.ref t1)))) Dn=some (.lst (lvs.set k (.ref t1))):=ac
  generalize upd G7 Dn (.lst (lvs.set k (.ref t1)))=Jr at w4 G8 ⊢
  have s4:=v3.trans w4
  refine q Dn _ Jr s4 G8 (Bl _ (v3.free (w3.free CU))) (Paired.set ⟨t1,q1,zf.drop 1,rfl,w4 _ _ Fn,w4 _ _ MU,?_,Bl _ (v1.free EF)⟩ k (Paired.mono (fun v l=>BI.same s4 v l) pL))
  have hz:=zl.same s4 CJ
  show zl Jr (zf.drop 1) lk.qs.tail
  generalize lk.qs=qs0 at hz ⊢
  cases hz with
  | nil=>exact .nil
  | cons _ r=>exact r
noncomputable abbrev NPt:List Str:=["_law_lanes_here", "_law_lane", "_law_piece", "_law_length", "_law_rights", "_law_back", "_law_holder", "_law_queue"]
theorem CL:ao NPt ["_law_lanes_here", "_law_lane", "_law_piece", "_law_length"] (aj sI):=L2.zy
theorem v6 {f:Addr}{fd:FuncData}(F:zt K "_law_put" "_law_put" sI f fd):yX P w K mg base aD 1 f fd ["_law_lanes_here", "_law_lane", "_law_piece", "_law_length"] rT:=by
 refine F.ok CL (fun vs H Q E h=>?_) (fun cdv A outer s H vs Q E hr h=>?_)
 ·obtain⟨_,L,lvs,zO,k,lk,pt,m,c,len,_,rfl,_⟩:=h
  rfl
 ·obtain⟨N,L,lvs,zO,k,lk,pt,m,c,len,Bl,rfl,gL,pL,hk,Av,OM,Xy,q⟩:=h
  refine⟨_,af (dH (ap aJ (pv 0) (pv 1) (fun _ _=>rfl)) (fB rfl (aO (av (i:=4) CL.nd rfl (Or.inl rfl)) (aO (av (i:=5) CL.nd rfl (Or.inl rfl)) (aO (av (i:=6) CL.nd rfl (Or.inl rfl)) (aO (av (i:=7) CL.nd rfl (Or.inl rfl)) dC))))))
   (af (aA (i:=6) CL.nd rfl (Or.inl rfl) (ap ar (pv 2) ah (fun _ _=>rfl)))
   (af (gQ (aN (ax bv (ap ar (pv 2) ah (fun _ _=>rfl)) (az c5 (pv 3) ah) (aB _)) (ak (aA (i:=6) CL.nd rfl (Or.inl rfl) cp)) aE))
   (ak (au (az dL (az dL (cn c6 (pv 0) dB (cy (pv 1))) (aV (aa (aW (aa (az c5 (pv 4) ah) (aa (pv 5) (aa (pv 6) (aa (az dL (pv 7) (aV (aa (pv 2) ad))) ad))))) ad))) (cn c6 (pv 0) (cy (az bB (pv 1) ah)) dB)))))),?_⟩
  obtain⟨v,hv,t,ql,zf,rfl,ht,BP,CJ,MT⟩:=Paired.at2 pL hk
  have AO:k < lvs.length:=(List.getElem?_eq_some_iff.mp hv).1
  have AJ:zf.length=lk.qs.length:=Paired.length CJ
  refine⟨_,rfl,_,rfl,L,lvs,(k:Int),_,rfl,rfl,zb.of gL,ai hv,t,_,rfl,zc.of ht,rfl,_,_,rfl,_,_,rfl,_,_,rfl,_,_,rfl,rfl,?_⟩
  refine⟨_,rfl,pt,_,0,_,rfl,rfl,zc.of Av,ai (j:=0) rfl,?_⟩
  refine⟨fun σ' H'=>H' = H/\σ' = [some (.ref L),some (.int k),some (.ref pt),some (.int len),some (.int lk.r),some (.int lk.b),some (hV (if decide (c=len - 1)=true then none else some m)),some (.ref ql)],?_,?_⟩
  ·refine⟨_,rfl,pt,_,1,_,rfl,rfl,zc.of Av,ai (j:=1) rfl,_,rfl,_,_,rfl,rfl,rfl,_,rfl,?_⟩
   rw[bD]
   by_cases hc:c=len - 1
   ·rw[decide_eq_true hc]
    exact aK ⟨rfl,rfl⟩
   ·rw[decide_eq_false hc]
    exact aI ⟨rfl,rfl⟩
  rintro σ' H0 ⟨rfl,rfl⟩
  refine⟨_,rfl,_,rfl,_,rfl,L,_,rfl,zb.of gL,fun o1 Ca=>?_⟩
  rw[lq]
  have v1:=(yW.refl H0).new (o := .lst (lvs.take k)) Ca
  have Bv:(upd H0 o1 (.lst (lvs.take k))) o1=some (.lst (lvs.take k)):=ac
  generalize upd H0 o1 (.lst (lvs.take k))=H1 at v1 Bv ⊢
  refine⟨_,rfl,_,_,rfl,rfl,_,rfl,_,rfl,_,rfl,_,rfl,by show 1 <= sizeLine;decide,fun o5 Xz=>?_⟩
  have v2:=v1.new (o := .lst [.ref pt]) Xz
  have X0:(upd H1 o5 (.lst [.ref pt])) o5=some (.lst [.ref pt]):=ac
  have CK:(upd H1 o5 (.lst [.ref pt])) o1=some (.lst (lvs.take k)):=by rw[ae (ag Bv Xz)];exact Bv
  generalize upd H1 o5 (.lst [.ref pt])=H2 at v2 X0 CK ⊢
  refine⟨ql,o5,_,_,rfl,rfl,v2 _ _ BP,X0,by rw[sizeLine_eq];simp only[length_singleton];omega,fun q1 EF=>?_⟩
  have X6:=v2.new (o := .lst (zf ++ [.ref pt])) EF
  have Ii:(upd H2 q1 (.lst (zf ++ [.ref pt]))) q1=some (.lst (zf ++ [.ref pt])):=ac
  have Eo:(upd H2 q1 (.lst (zf ++ [.ref pt]))) o1=some (.lst (lvs.take k)):=by rw[ae (ag CK EF)];exact CK
  generalize upd H2 q1 (.lst (zf ++ [.ref pt]))=Po at X6 Ii Eo ⊢
  generalize hho:(if decide (c=len - 1)=true then none else some m)=ho
  refine⟨by show 4 <= sizeLine;decide,fun t1 Fm=>?_⟩
  have v3:=X6.new (o := .tup [.int (lk.r - 1), .int lk.b,hV ho, .ref q1]) Fm
  have Fn:(upd Po t1 (.tup [.int (lk.r - 1), .int lk.b,hV ho, .ref q1])) t1=some (.tup [.int (lk.r - 1), .int lk.b,hV ho, .ref q1]):=ac
  have MU:(upd Po t1 (.tup [.int (lk.r - 1), .int lk.b,hV ho, .ref q1])) q1=some (.lst (zf ++ [.ref pt])):=by rw[ae (ag Ii Fm)];exact Ii
  have Cy:(upd Po t1 (.tup [.int (lk.r - 1), .int lk.b,hV ho, .ref q1])) o1=some (.lst (lvs.take k)):=by rw[ae (ag Eo Fm)];exact Eo
  generalize upd Po t1 (.tup [.int (lk.r - 1), .int lk.b,hV ho, .ref q1])=H3 at v3 Fn MU Cy ⊢
  refine⟨by show 1 <= sizeLine;decide,fun o2 zS=>?_⟩
  have w1:=(yW.refl H3).new (o := .lst [.ref t1]) zS
  have go2:(upd H3 o2 (.lst [.ref t1])) o2=some (.lst [.ref t1]):=ac
  generalize upd H3 o2 (.lst [.ref t1])=G0 at w1 go2 ⊢
  refine⟨o1,o2,_,_,rfl,rfl,w1 _ _ Cy,go2,by rw[length_take,sizeLine_eq];simp only[length_singleton];omega,fun o3 MV=>?_⟩
  have w2:=w1.new (o := .lst (lvs.take k ++ [.ref t1])) MV
  have Em:(upd G0 o3 (.lst (lvs.take k ++ [.ref t1]))) o3=some (.lst (lvs.take k ++ [.ref t1])):=ac
  generalize upd G0 o3 (.lst (lvs.take k ++ [.ref t1]))=En at w2 Em ⊢
  refine⟨_,rfl,_,rfl,_,_,rfl,rfl,_,rfl,L,_,rfl,zb.of (w2 _ _ (v3 _ _ gL)),fun o4 G5=>?_⟩
  rw[show fM lvs (some ((k:Int) + 1)) none=lvs.drop (k + 1) from fV lvs (k + 1) (by omega)]
  have w3:=w2.new (o := .lst (lvs.drop (k + 1))) G5
  have G6:(upd En o4 (.lst (lvs.drop (k + 1)))) o4=some (.lst (lvs.drop (k + 1))):=ac
  have Cz:(upd En o4 (.lst (lvs.drop (k + 1)))) o3=some (.lst (lvs.take k ++ [.ref t1])):=by rw[ae (ag Em G5)];exact Em
  generalize upd En o4 (.lst (lvs.drop (k + 1)))=G7 at w3 G6 Cz ⊢
  refine⟨o3,o4,_,_,rfl,rfl,Cz,G6,by rw[length_append,length_take,length_drop,sizeLine_eq];simp only[length_singleton];omega,fun Dn CU=>?_⟩
  rw[kE (v := .ref t1) (k:=k) (lvs:=lvs) (by omega)]
  have w4:=w3.new (o := .lst (lvs.set k (.ref t1))) CU
  have G8:(upd G7 Dn (.lst (lvs.set k (.ref t1)))) Dn=some (.lst (lvs.set k (.ref t1))):=ac
  generalize upd G7 Dn (.lst (lvs.set k (.ref t1)))=Jr at w4 G8 ⊢
  have s4:=v3.trans w4
  refine q Dn _ Jr s4 G8 (Bl _ (v3.free (w3.free CU))) (Paired.set ⟨t1,q1,zf ++ [.ref pt],rfl,?_,w4 _ _ MU,zl.snoc ⟨pt,rfl,s4 _ _ Av⟩ (zl.same s4 CJ),Bl _ (v2.free EF)⟩ k (Paired.mono (fun v l=>BI.same s4 v l) pL))
  unfold fK
  rw[hho]
  exact w4 _ _ Fn
noncomputable abbrev NIn:List Str:=["_law_stand_here", "_law_lanes_here", "_law_lane", "_law_piece", "_law_length", "_law_ways"]
noncomputable abbrev Pp:List Str:=["_law_stand_here", "_law_lanes_here", "_law_lane", "_law_piece", "_law_length"]
theorem MW:ao NIn Pp (aj nM):=L2.zy
theorem tI {f fp:Addr}{fd dp:FuncData}(F:zt K "_law_into" "_law_into" nM f fd)(T:eO mg)(mp:mg "_law_put" = some (.ref fp))(kp:keepIn K (.ref fp)=true)(bp:Binds K dp ["_law_lanes_here", "_law_lane", "_law_piece", "_law_length"] [])(Gp:yX P w K mg base aD 1 fp dp ["_law_lanes_here", "_law_lane", "_law_piece", "_law_length"] rT) :
  yX P w K mg base aD 2 f fd Pp oY:=by
 refine F.ok MW (fun vs H Q E h=>?_) (fun cdv A outer s H vs Q E hr h=>?_)
 ·obtain⟨_,st,L0,W,X,L,lvs,zP,zO,AI,l,m,lk,pt,c,len,_,rfl,_⟩:=h
  rfl
 ·obtain⟨N,st,L0,W,X,L,lvs,zP,zO,AI,l,m,lk,pt,c,len,Bl,rfl,B1,gW,pW,gL,pL,hl,Av,hm,OM,Xy,hy9,q⟩:=h
  refine⟨_,af (aA (i:=5) MW.nd rfl (Or.inl rfl) (bF bA rfl T.list PySem.Pv.boot_list (aa (ap ar (pv 0) ah (fun _ _=>rfl)) ad)))
   (af (gQ (aN (ax bv (ap ar (pv 3) ah (fun _ _=>rfl)) ah (aB _)) (ak (dH (az dL (ap aJ (pv 5) (ap ar (pv 3) ah (fun _ _=>rfl)) (fun _ _=>rfl)) (aV (aa (pv 2) ad))) (im (pv 5) (ap ar (pv 3) ah (fun _ _=>rfl)) dS))) aE))
   (ak (au (aW (aa (aw Gp hr rfl mp kp bp .nil aq (aa (pv 1) (aa (pv 2) (aa (pv 3) (aa (pv 4) ad))))) (aa (pv 5) (aa (ap ar (pv 0) ah (fun _ _=>rfl)) ad))))))),?_⟩
  have CO:zP.length=AI.length:=Paired.length pW
  refine⟨_,rfl,st,_,1,_,rfl,rfl,zc.of B1,ai (j:=1) rfl,W,_,rfl, .inl (zb.of gW),fun W' Tn=>?_⟩
  have v1:=(yW.refl H).new (o := .lst zP) Tn
  have Fo:(upd H W' (.lst zP)) W' = some (.lst zP):=ac
  show c4 5 (V.ref W') _ (upd H W' (.lst zP)) _
  generalize upd H W' (.lst zP)=H1 at v1 Fo ⊢
  have X7:=Paired.mono (fun v l=>Cw.same v1 v l) pW
  refine⟨fun σ' H2=>yW H H2/\(∃ AS,H2 W' = some (.lst AS)/\Paired (Cw N H2) AS (ly AI m c l))/\σ' = [some (.ref st),some (.ref L),some (.int l),some (.ref pt),some (.int len),some (.ref W')],?_,?_⟩
  ·refine⟨_,rfl,pt,_,1,_,rfl,rfl,zc.of (v1 _ _ Av),ai (j:=1) rfl,rfl,_,rfl,?_⟩
   rw[bD]
   unfold ly
   by_cases hc:c=0
   ·rw[decide_eq_true hc,if_pos hc]
    have To:m < zP.length:=by omega
    obtain⟨y,hy,wa,ev,gwa,_⟩:=Paired.at X7 (List.getElem?_eq_getElem To)
    have hvm:zP[m]? = some (.ref wa):=by rw[List.getElem?_eq_getElem To,ev]
    have Tp:=hy9 y (mem_of_getElem? hy)
    have Jb:AI.getD m []=y:=by rw[getD_eq_getElem?_getD,hy];rfl
    rw[Jb]
    refine aK ⟨_,rfl,_,rfl,pt,_,0,_,rfl,rfl,zc.of (v1 _ _ Av),ai (j:=0) rfl,W',zP,(m:Int),_,rfl,rfl,zb.of Fo,ai hvm,_,rfl,by show 1 <= sizeLine;decide,fun o1 Ca=>?_⟩
    have v2:=(yW.refl H1).new (o := .lst [.int l]) Ca
    have Bv:(upd H1 o1 (.lst [.int l])) o1=some (.lst [.int l]):=ac
    generalize upd H1 o1 (.lst [.int l])=H2 at v2 Bv ⊢
    refine⟨wa,o1,_,_,rfl,rfl,v2 _ _ gwa,Bv,by rw[cU,sizeLine_eq];simp only[length_singleton];omega,fun o2 zS=>?_⟩
    have v3:=v2.new (o := .lst (nV y ++ [.int l])) zS
    have go2:(upd H2 o2 (.lst (nV y ++ [.int l]))) o2=some (.lst (nV (y ++ [l]))):=by rw[ac,nU];rfl
    generalize upd H2 o2 (.lst (nV y ++ [.int l]))=H3 at v3 go2 ⊢
    refine⟨_,rfl,_,rfl,pt,_,0,_,rfl,rfl,zc.of (v3 _ _ (v1 _ _ Av)),ai (j:=0) rfl,W',zP,(m:Int),m,rfl,rfl,v3 _ _ Fo,eL To,?_⟩
    have X8:H W' = none:=Tn
    have n2:o2 ≠ W':=fun z=>by rw[z,v2 _ _ Fo]at zS;cases zS
    refine⟨fun b o e=>by rw[ae (ag e X8)];exact v3 _ _ (v1 _ _ e),⟨zP.set m (.ref o2),ac,?_⟩,rfl⟩
    have MX:∀ v y',Cw N H3 v y'->v ≠ .ref W'->Cw N (upd H3 W' (.lst (zP.set m (.ref o2)))) v y':=fun v y' ⟨x,e,hx,CY⟩ nv=>⟨x,e,by rw[ae (fun z=>nv (by rw[e,z]))];exact hx,CY⟩
    have pW3:Paired (fun v y'=>Cw N H3 v y'/\v ≠ .ref W') zP AI:=Paired.mono (fun v y' ⟨x,e,hx,CY⟩=>⟨⟨x,e,v3 _ _ (v1 _ _ hx),CY⟩,fun z=>by rw[e]at z;cases z;rw[X8]at hx;cases hx⟩) pW
    have:=Paired.set (v := .ref o2) (r:=y ++ [l]) ⟨⟨o2,rfl,go2,Bl _ (v1.free (v2.free zS))⟩,fun z=>n2 (by cases z;rfl)⟩ m pW3
    exact Paired.mono (fun v y' z=>MX v y' z.1 z.2) this
   ·rw[decide_eq_false hc,if_neg hc]
    exact aI ⟨v1,⟨zP,Fo,X7⟩,rfl⟩
  rintro σ' H2 ⟨s2,⟨AS,gW2,Ti⟩,rfl⟩
  refine⟨_,rfl,_,rfl,_,rfl,_,rfl,N,L,lvs,zO,l,lk,pt,(m:Int),c,len,(fun z hz=>Bl z (s2.free hz)),rfl,s2 _ _ gL,Paired.mono (fun v l=>BI.same s2 v l) pL,hl,s2 _ _ Av,OM,Xy,fun D zJ H3 s3 gD nD pD=>?_⟩
  refine⟨_,rfl,_,rfl,st,_,2,_,rfl,rfl,zc.of (s3 _ _ (s2 _ _ B1)),ai (j:=2) rfl,by show 3 <= sizeLine;decide,fun t ht=>?_⟩
  have s4:=(yW.refl H3).new (o := .tup [.ref D, .ref W', .ref X]) ht
  exact q t D W' zJ AS _ (s2.trans (s3.trans s4)) ac (s4 _ _ gD) nD (Paired.mono (fun v l=>BI.same s4 v l) pD) (s4 _ _ (s3 _ _ gW2)) (Bl _ Tn) (Paired.mono (fun v l=>Cw.same (s3.trans s4) v l) Ti)
noncomputable def Ao (H:Hp)(v:V)(t:ci):Prop:=∃ x,v = .ref x/\H x=some (.tup [.int t.start, .int t.goal, .int t.len, .int t.word])
theorem Ao.same {H H':Hp}(s:yW H H')(v:V)(t:ci)(h:Ao H v t):Ao H' v t:=by
 obtain⟨x,e,h1⟩:=h
 exact⟨x,e,s _ _ h1⟩
theorem eZ {α:Type}{L:List α}{k:Nat}{x:α}(h:L[k]? = some x):L.set k x=L:=by
 obtain⟨hk,e⟩:=List.getElem?_eq_some_iff.mp h
 rw[← e];exact List.set_getElem_self hk
theorem iR {s:YS}{m:Nat}{t:ci}(h:s.U[m]? = some t):(bE s)[m]? = some t.way:=by unfold bE;rw[List.getElem?_map,h];rfl
theorem jD {s:YS}{k:Nat}{t:ci}(h:s.U[k]? = some t):bE (el s k t)=bE s:=by
 show(s.U.set k { t with gone:=t.gone + 1 }).map (fun t=>t.way)=_
 rw[map_set]
 exact eZ (L:=bE s) (x:=t.way) (iR h)
theorem iS {s:YS}{m l:Nat}{c:Int}{t t':ci}{ln:bV}(h:(bE s)[m]? = some t'.way)(e:t.way=t'.way):bE (dz s m c l t ln)=ly (bE s) m c l:=by
 unfold ly
 show(if c=0 then s.U.set m { t with way:=t.way ++ [l] } else s.U).map (fun t=>t.way)=_
 by_cases hc:c=0
 ·rw[if_pos hc,if_pos hc,map_set]
  have:(bE s).getD m []=t.way:=by rw[getD_eq_getElem?_getD,h,e];rfl
  rw[this];rfl
 ·rw[if_neg hc,if_neg hc];rfl
noncomputable def lC (c:Cs):Sp:=fun vs H Q _=>∃ (N:Addr->Prop)(a:YA)(s s':YS)(m:Mv)(st L W X:Addr)(lvs zP zW:List V)(mv Lt:Addr)(zz:List V)(Se:Addr),(∀ z,H z=none->N z)/\vs=[.ref a.lx, .ref st, .ref mv, .ref Lt, .ref Se]/\cr H c a.lx a.zx a.lt (a.n:Int) a.zg a.ps/\wO a/\AX a s/\AQ a s m s'/\E6 N H (.ref st) s.lanes (bE s) s.lies st L W X lvs zP zW/\H mv=some (.tup (eT m))/\H Lt=some (.lst zz)/\Paired (Ao H) zz s.U/\H Se=some (.lst ((s.U.map fun t=>t.gone).map V.int)) /\
 ∀ (t L' W' X':Addr)(LV AS Tq:List V)(H':Hp),yW H H'->E6 N H' (.ref t) s'.lanes (bE s') s'.lies t L' W' X' LV AS Tq->Q (.ref t) H'
noncomputable abbrev NBh:List Str:=["_law_land", "_law_stand_here", "_law_move", "_law_letters", "_law_sent", "_law_lanes_here", "_law_rights", "_law_back", "_law_holder", "_law_queue", "_law_told", "_law_piece", "_law_heaps", "_law_place"]
noncomputable abbrev Pq:List Str:=["_law_land", "_law_stand_here", "_law_move", "_law_letters", "_law_sent"]
theorem B8:ao NBh Pq (aj kJ):=L2.zy
theorem qC {c:Cs}{f fi fp fe:Addr}{fd di dp de:FuncData}(F:zt K "_law_behind" "_law_behind" kJ f fd)(T:eO mg)(L':ku K c)
  (mi:mg "_law_into" = some (.ref fi)) (ki:keepIn K (.ref fi)=true) (bi:Binds K di Pp []) (Gi:yX P w K mg base aD 2 fi di Pp oY)
  (mp:mg "_law_pulled" = some (.ref fp)) (kp:keepIn K (.ref fp)=true) (bp:Binds K dp ["_law_lanes_here", "_law_lane"] []) (Gp:yX P w K mg base aD 1 fp dp ["_law_lanes_here", "_law_lane"] l8)
  (M:u8 K c fe de) (Ge:yX P w K mg base aD 1 fe de ["self", "lane"] (lD c Prod.snd)):yX P w K mg base aD 3 f fd Pq (lC c):=by
 refine F.ok B8 (fun vs H Q E h=>?_) (fun cdv A outer s H vs Q E hr h=>?_)
 ·obtain⟨_,a,s,s',m,st,L,W,X,lvs,zP,zW,mv,Lt,zz,Se,_,rfl,_⟩:=h
  rfl
 ·obtain⟨N,a,s1,s',m,st,L,W,X,lvs,zP,zW,mv,Lt,zz,Se,Bl,rfl,Pr,hO,hJ,Tr,hS,Ah,Dk,MY,Ij,q⟩:=h
  have zL:zi 1 _:=hr.mono (by decide)
  refine⟨_,af (aA (i:=5) B8.nd rfl (Or.inl rfl) (ap ar (pv 1) ah (fun _ _=>rfl)))
   (af (aN (ax bv (ap ar (pv 2) ah (fun _ _=>rfl)) aX (aB _))
    (af (dH (ap aJ (pv 5) (ap ar (pv 2) ah (fun _ _=>rfl)) (fun _ _=>rfl)) (fB rfl (aO (av (i:=6) B8.nd rfl (Or.inl rfl)) (aO (av (i:=7) B8.nd rfl (Or.inl rfl)) (aO (av (i:=8) B8.nd rfl (Or.inl rfl)) (aO (av (i:=9) B8.nd rfl (Or.inl rfl)) dC))))))
    (af (aA (i:=10) B8.nd rfl (Or.inl rfl) (aW (aa (az bB (pv 6) ah) (aa (az c5 (pv 7) ah) (aa (pv 8) (aa (pv 9) ad))))))
    (ak (au (aW (aa (az dL (az dL (cn c6 (pv 5) dB (cy (ap ar (pv 2) ah (fun _ _=>rfl)))) (aV (aa (pv 10) ad))) (cn c6 (pv 5) (cy (az bB (ap ar (pv 2) ah (fun _ _=>rfl)) ah)) dB)) (aa (ap ar (pv 1) ah (fun _ _=>rfl)) (aa (ap ar (pv 1) ah (fun _ _=>rfl)) ad)))))))) aE)
   (af (aN (ax bv (ap ar (pv 2) ah (fun _ _=>rfl)) aX (aB _))
    (ak (au (aw Gi hr rfl mi ki bi .nil aq (aa (pv 1) (aa (pv 5) (aa (ap ar (pv 2) ah (fun _ _=>rfl)) (aa (aW (aa (ap ar (pv 2) ah (fun _ _=>rfl)) (aa (ap aJ (pv 4) (ap ar (pv 2) ah (fun _ _=>rfl)) (fun _ _=>rfl)) ad))) (aa (ap ar (ap aJ (pv 3) (ap ar (pv 2) ah (fun _ _=>rfl)) (fun _ _=>rfl)) ah (fun _ _=>rfl)) ad)))))))) aE)
   (af (aA (i:=11) B8.nd rfl (Or.inl rfl) (ap aJ (ap ar (ap aJ (pv 5) (ap ar (pv 2) ah (fun _ _=>rfl)) (fun _ _=>rfl)) ah (fun _ _=>rfl)) ah (fun _ _=>rfl)))
   (af (aN (ax bv (ap ar (pv 2) ah (fun _ _=>rfl)) aX (aB _))
    (ak (au (aw Gi hr rfl mi ki bi .nil aq (aa (pv 1) (aa (aw Gp zL rfl mp kp bp .nil aq (aa (pv 5) (aa (ap ar (pv 2) ah (fun _ _=>rfl)) ad))) (aa (ap ar (pv 2) ah (fun _ _=>rfl)) (aa (pv 11) (aa (ap ar (ap aJ (pv 3) (ap ar (pv 11) ah (fun _ _=>rfl)) (fun _ _=>rfl)) ah (fun _ _=>rfl)) ad)))))))) aE)
   (af (aA (i:=12) B8.nd rfl (Or.inl rfl) (bF bA rfl T.list PySem.Pv.boot_list (aa (ap ar (pv 1) ah (fun _ _=>rfl)) ad)))
   (af (aA (i:=13) B8.nd rfl (Or.inl rfl) (aF (pv 0) L'.cl M.m Ge zL M.b .nil aq (aa (ap ar (pv 2) ah (fun _ _=>rfl)) ad)))
   (af (dH (az dL (ap aJ (pv 12) (pv 13) (fun _ _=>rfl)) (aV (aa (pv 11) ad))) (im (pv 12) (pv 13) dS))
   (ak (au (aW (aa (aw Gp zL rfl mp kp bp .nil aq (aa (pv 5) (aa (ap ar (pv 2) ah (fun _ _=>rfl)) ad))) (aa (ap ar (pv 1) ah (fun _ _=>rfl)) (aa (pv 12) ad))))))))))))),?_⟩
  have OO:lvs.length=s1.lanes.length:=Paired.length hS.pl
  have hl40:lvs.length <= 40:=by rw[OO,hJ.lanes];exact hJ.Eh
  have hY:=hJ.ok
  have Pt:=(hJ.done []).WX (zero_le _)
  have Tp:∀ y ∈ bE s1,y.length <= 1000:=fun y hy=>by
   obtain⟨t,ht,rfl⟩:=mem_map.mp hy
   obtain⟨i,hi⟩:=kW ht
   exact(hY.An i t hi).2
  have CO:(bE s1).length=s1.U.length:=length_map ..
  refine⟨_,rfl,st,_,0,_,rfl,rfl,zc.of hS.t,ai (j:=0) rfl,?_⟩
  cases Tr with
  | @back k lk hk hb =>
   have Ah:H mv=some (.tup [.str "back", .int k]):=Ah
   refine⟨_,rfl,mv,_,0,_,rfl,rfl,zc.of (Ah),ai (j:=0) rfl,rfl,_,rfl,?_⟩
   rw[fj]
   obtain⟨v,hv,t,ql,zf,rfl,ht,BP,CJ,MT⟩:=Paired.at2 hS.pl hk
   have AO:k < lvs.length:=(List.getElem?_eq_some_iff.mp hv).1
   refine aK ⟨_,rfl,_,rfl,mv,_,1,_,rfl,rfl,zc.of (Ah),ai (j:=1) rfl,L,lvs,(k:Int),_,rfl,rfl,zb.of hS.gl,ai hv,t,_,rfl,zc.of ht,rfl,_,_,rfl,_,_,rfl,_,_,rfl,_,_,rfl,rfl,?_⟩
   refine⟨_,rfl,_,_,rfl,rfl,_,rfl,_,_,rfl,rfl,_,rfl,_,rfl,by show 4 <= sizeLine;decide,fun t1 Fm=>?_⟩
   have v3:=(yW.refl H).new (o := .tup [.int (lk.r + 1), .int (lk.b - 1),hV lk.h, .ref ql]) Fm
   have Fn:(upd H t1 (.tup [.int (lk.r + 1), .int (lk.b - 1),hV lk.h, .ref ql])) t1=some (.tup [.int (lk.r + 1), .int (lk.b - 1),hV lk.h, .ref ql]):=ac
   show c4 10 (V.ref t1) _ (upd H t1 (.tup [.int (lk.r + 1), .int (lk.b - 1),hV lk.h, .ref ql])) _
   generalize upd H t1 (.tup [.int (lk.r + 1), .int (lk.b - 1),hV lk.h, .ref ql])=H1 at v3 Fn ⊢
   refine⟨_,rfl,_,rfl,mv,_,1,_,rfl,rfl,zc.of (v3 _ _ Ah),ai (j:=1) rfl,_,rfl,L,_,rfl,zb.of (v3 _ _ hS.gl),fun o1 Ca=>?_⟩
   rw[lq]
   have v4:=v3.new (o := .lst (lvs.take k)) Ca
   have Cy:(upd H1 o1 (.lst (lvs.take k))) o1=some (.lst (lvs.take k)):=ac
   have Jd:(upd H1 o1 (.lst (lvs.take k))) t1=some (.tup [.int (lk.r + 1), .int (lk.b - 1),hV lk.h, .ref ql]):=by rw[ae (ag Fn Ca)];exact Fn
   generalize upd H1 o1 (.lst (lvs.take k))=H3 at v4 Cy Jd ⊢
   refine⟨_,rfl,?_⟩
   refine⟨by show 1 <= sizeLine;decide,fun o2 zS=>?_⟩
   have w1:=(yW.refl H3).new (o := .lst [.ref t1]) zS
   have go2:(upd H3 o2 (.lst [.ref t1])) o2=some (.lst [.ref t1]):=ac
   generalize upd H3 o2 (.lst [.ref t1])=G0 at w1 go2 ⊢
   refine⟨o1,o2,_,_,rfl,rfl,w1 _ _ Cy,go2,by rw[length_take,sizeLine_eq];simp only[length_singleton];omega,fun o3 MV=>?_⟩
   have w2:=w1.new (o := .lst (lvs.take k ++ [.ref t1])) MV
   have Em:(upd G0 o3 (.lst (lvs.take k ++ [.ref t1]))) o3=some (.lst (lvs.take k ++ [.ref t1])):=ac
   generalize upd G0 o3 (.lst (lvs.take k ++ [.ref t1]))=En at w2 Em ⊢
   refine⟨_,rfl,_,rfl,mv,_,1,_,rfl,rfl,zc.of (w2 _ _ (v4 _ _ Ah)),ai (j:=1) rfl,_,_,rfl,rfl,_,rfl,L,_,rfl,zb.of (w2 _ _ (v4 _ _ hS.gl)),fun o4 G5=>?_⟩
   rw[show fM lvs (some ((k:Int) + 1)) none=lvs.drop (k + 1) from fV lvs (k + 1) (by omega)]
   have w3:=w2.new (o := .lst (lvs.drop (k + 1))) G5
   have G6:(upd En o4 (.lst (lvs.drop (k + 1)))) o4=some (.lst (lvs.drop (k + 1))):=ac
   have Cz:(upd En o4 (.lst (lvs.drop (k + 1)))) o3=some (.lst (lvs.take k ++ [.ref t1])):=by rw[ae (ag Em G5)];exact Em
   generalize upd En o4 (.lst (lvs.drop (k + 1)))=G7 at w3 G6 Cz ⊢
   refine⟨o3,o4,_,_,rfl,rfl,Cz,G6,by rw[length_append,length_take,length_drop,sizeLine_eq];simp only[length_singleton];omega,fun Dn CU=>?_⟩
   rw[kE (v := .ref t1) (k:=k) (lvs:=lvs) (by omega)]
   have w4:=w3.new (o := .lst (lvs.set k (.ref t1))) CU
   have G8:(upd G7 Dn (.lst (lvs.set k (.ref t1)))) Dn=some (.lst (lvs.set k (.ref t1))):=ac
   generalize upd G7 Dn (.lst (lvs.set k (.ref t1)))=Jr at w4 G8 ⊢
   have s4:=v4.trans w4
   have Ik:=hS.same s4
   refine⟨_,rfl,st,_,1,_,rfl,rfl,zc.of Ik.t,ai (j:=1) rfl,_,rfl,st,_,2,_,rfl,rfl,zc.of Ik.t,ai (j:=2) rfl,by show 3 <= sizeLine;decide,fun tt CT=>?_⟩
   have s5:=(yW.refl Jr).new (o := .tup [.ref Dn, .ref W, .ref X]) CT
   have G9:=Ik.same s5
   exact q tt Dn W X _ zP zW _ (s4.trans s5) ⟨rfl,ac,s5 _ _ G8,Paired.set ⟨t1,ql,zf,rfl,s5 _ _ (w4 _ _ Jd),s5 _ _ (s4 _ _ BP),zl.same (s4.trans s5) CJ,MT⟩ k G9.pl,G9.gw,G9.pw,G9.gx,G9.px,Bl _ (v4.free (w3.free CU)),hS.nw,hS.nx⟩
  | @Ag k l t ln ht hg hl zB ho =>
   have Ah:H mv=some (.tup [.str "in", .int k, .int l]):=Ah
   refine⟨_,rfl,mv,_,0,_,rfl,rfl,zc.of (Ah),ai (j:=0) rfl,rfl,_,rfl,?_⟩
   rw[dG (by decide +kernel)]
   refine aI ⟨_,rfl,mv,_,0,_,rfl,rfl,zc.of (Ah),ai (j:=0) rfl,rfl,_,rfl,?_⟩
   rw[fj]
   have AO:k < s1.U.length:=(List.getElem?_eq_some_iff.mp ht).1
   have Tt:((s1.U.map fun t=>t.gone).map V.int)[k]? = some (.int t.gone):=by rw[List.getElem?_map,List.getElem?_map,ht];rfl
   obtain⟨v,hv,xt,rfl,Tv⟩:=Paired.at2 MY ht
   refine aK ⟨_,rfl,_,rfl,_,rfl,mv,_,2,_,rfl,rfl,zc.of (Ah),ai (j:=2) rfl,_,rfl,mv,_,1,_,rfl,rfl,zc.of (Ah),ai (j:=1) rfl,_,rfl,_,rfl,mv,_,1,_,rfl,rfl,zc.of (Ah),ai (j:=1) rfl,Se,_,(k:Int),_,rfl,rfl,zb.of Ij,ai Tt,by show 2 <= sizeLine;decide,fun pt Av=>?_⟩
   have v1:=(yW.refl H).new (o := .tup [.int k, .int t.gone]) Av
   have X9:(upd H pt (.tup [.int k, .int t.gone])) pt=some (.tup [.int k, .int t.gone]):=ac
   generalize upd H pt (.tup [.int k, .int t.gone])=H1 at v1 X9 ⊢
   have CM:=hS.same v1
   refine⟨_,rfl,_,rfl,mv,_,1,_,rfl,rfl,zc.of (v1 _ _ Ah),ai (j:=1) rfl,Lt,zz,(k:Int),_,rfl,rfl,zb.of (v1 _ _ Dk),ai hv,xt,_,2,_,rfl,rfl,zc.of (v1 _ _ Tv),ai (j:=2) rfl,?_⟩
   refine⟨N,st,L,W,X,L,lvs,zP,s1.lanes,bE s1,l,k,ln,pt,t.gone,t.len,(fun z hz=>Bl z (v1.free hz)),rfl,CM.t,CM.gw,CM.pw,CM.gl,CM.pl,zB,X9,by omega,by omega,Pt.q l ln zB,Tp,fun tt D W' zJ AS H2 s2 gt gD nD pD Fo Tw Tx=>?_⟩
   refine q tt D W' X zJ AS zW H2 (v1.trans s2) ⟨rfl,gt,gD,pD,Fo,?_,s2 _ _ CM.gx,Paired.mono (fun v l=>Di.same s2 v l) CM.px,nD,Tw,CM.nx⟩
   rw[iS (t:={ t with gone:=t.gone + 1 }) (t':=t) (by rw[jD ht];exact iR ht) rfl,jD ht]
   exact Tx
  | @on k l m c lk ln t hk hq ht hl zB ho =>
   have Ah:H mv=some (.tup [.str "on", .int k, .int l]):=Ah
   refine⟨_,rfl,mv,_,0,_,rfl,rfl,zc.of (Ah),ai (j:=0) rfl,rfl,_,rfl,?_⟩
   rw[dG (by decide +kernel)]
   refine aI ⟨_,rfl,mv,_,0,_,rfl,rfl,zc.of (Ah),ai (j:=0) rfl,rfl,_,rfl,?_⟩
   rw[dG (by decide +kernel)]
   obtain⟨v,hv,t0,ql,zf,rfl,Ct,BP,CJ,MT⟩:=Paired.at2 hS.pl hk
   obtain⟨vp,Tz,pt,rfl,Av⟩:=zl.CD (i:=0) CJ (jv hq)
   refine aI ⟨_,rfl,_,rfl,mv,_,1,_,rfl,rfl,zc.of (Ah),ai (j:=1) rfl,L,lvs,(k:Int),_,rfl,rfl,zb.of hS.gl,ai hv,t0,_,3,_,rfl,rfl,zc.of Ct,ai (j:=3) rfl,ql,zf,0,_,rfl,rfl,zb.of BP,ai (j:=0) Tz,?_⟩
   refine⟨_,rfl,mv,_,0,_,rfl,rfl,zc.of (Ah),ai (j:=0) rfl,rfl,_,rfl,?_⟩
   rw[fj]
   have Pn:0 < lk.qs.length:=by
    cases hz:lk.qs with
    | nil=>rw[hz]at hq;cases hq
    | cons _ _=>exact succ_pos _
   obtain⟨vx,hvx,xt,rfl,Tv⟩:=Paired.at2 MY ht
   have OT:m < s1.U.length:=(List.getElem?_eq_some_iff.mp ht).1
   refine aK ⟨_,rfl,_,rfl,_,rfl,mv,_,1,_,rfl,rfl,zc.of (Ah),ai (j:=1) rfl,N,L,lvs,s1.lanes,k,lk,Bl,rfl,hS.gl,hS.pl,hk,Pn,by omega,fun D0 XA H1 v1 gD0 nD0 XB=>?_⟩
   have CM:=hS.same v1
   refine⟨_,rfl,mv,_,2,_,rfl,rfl,zc.of (v1 _ _ Ah),ai (j:=2) rfl,_,rfl,_,rfl,_,rfl,pt,_,0,_,rfl,rfl,zc.of (v1 _ _ Av),ai (j:=0) rfl,Lt,zz,(m:Int),_,rfl,rfl,zb.of (v1 _ _ Dk),ai hvx,xt,_,2,_,rfl,rfl,zc.of (v1 _ _ Tv),ai (j:=2) rfl,?_⟩
   have hd0:XA.length=lvs.length:=by rw[Paired.length XB,length_set,← OO]
   have hlq:ln.qs.length <= 10000:=by
    rcases eM zB with ⟨_,rfl⟩ | ⟨_,h⟩
    ·have:=Pt.q k lk hk
     show lk.qs.tail.length <= _
     rw[List.length_tail];omega
    ·exact Pt.q l ln h
   refine⟨N,st,L,W,X,D0,XA,zP,s1.lanes.set k (bP lk),bE s1,l,m,ln,pt,c,t.len,(fun z hz=>Bl z (v1.free hz)),rfl,CM.t,CM.gw,CM.pw,gD0,XB,zB,v1 _ _ Av,by omega,by omega,hlq,Tp,fun tt D W' zJ AS H2 s2 gt gD nD pD Fo Tw Tx=>?_⟩
   refine q tt D W' X zJ AS zW H2 (v1.trans s2) ⟨rfl,gt,gD,pD,Fo,?_,s2 _ _ CM.gx,Paired.mono (fun v l=>Di.same s2 v l) CM.px,nD,Tw,CM.nx⟩
   rw[iS (s:={ s1 with lanes:=s1.lanes.set k (bP lk) }) (t':=t) (iR (s:={ s1 with lanes:=s1.lanes.set k (bP lk) }) ht) rfl]
   exact Tx
  | @Br k m e c lk t qs hk hq ht hg he By =>
   have Ah:H mv=some (.tup [.str "lie", .int k]):=Ah
   refine⟨_,rfl,mv,_,0,_,rfl,rfl,zc.of (Ah),ai (j:=0) rfl,rfl,_,rfl,?_⟩
   rw[dG (by decide +kernel)]
   refine aI ⟨_,rfl,mv,_,0,_,rfl,rfl,zc.of (Ah),ai (j:=0) rfl,rfl,_,rfl,?_⟩
   rw[dG (by decide +kernel)]
   obtain⟨v,hv,t0,ql,zf,rfl,Ct,BP,CJ,MT⟩:=Paired.at2 hS.pl hk
   obtain⟨vp,Tz,pt,rfl,Av⟩:=zl.CD (i:=0) CJ (jv hq)
   refine aI ⟨_,rfl,_,rfl,mv,_,1,_,rfl,rfl,zc.of (Ah),ai (j:=1) rfl,L,lvs,(k:Int),_,rfl,rfl,zb.of hS.gl,ai hv,t0,_,3,_,rfl,rfl,zc.of Ct,ai (j:=3) rfl,ql,zf,0,_,rfl,rfl,zb.of BP,ai (j:=0) Tz,?_⟩
   refine⟨_,rfl,mv,_,0,_,rfl,rfl,zc.of (Ah),ai (j:=0) rfl,rfl,_,rfl,?_⟩
   rw[dG (by decide +kernel)]
   have Pn:0 < lk.qs.length:=by
    cases hz:lk.qs with
    | nil=>rw[hz]at hq;cases hq
    | cons _ _=>exact succ_pos _
   have AO:k < s1.lanes.length:=(List.getElem?_eq_some_iff.mp hk).1
   have E4:k < a.ps.length:=by rw[← hJ.lanes];exact AO
   have Jq:=List.getElem?_eq_getElem E4
   have D6:a.ps.getD k (0,0)=a.ps[k]:=by rw[getD_eq_getElem?_getD,Jq];rfl
   rw[D6]at he
   refine aI ⟨_,rfl,st,_,2,_,rfl,rfl,zc.of hS.t,ai (j:=2) rfl,X,_,rfl, .inl (zb.of hS.gx),fun X' T1=>?_⟩
   have v1:=(yW.refl H).new (o := .lst zW) T1
   have MZ:(upd H X' (.lst zW)) X' = some (.lst zW):=ac
   show c4 12 (V.ref X') _ (upd H X' (.lst zW)) _
   generalize upd H X' (.lst zW)=H1 at v1 MZ ⊢
   refine⟨_,rfl,a.lx,a.zx,_,rfl,v1 _ _ Pr.1,rfl,_,rfl,mv,_,1,_,rfl,rfl,zc.of (v1 _ _ Ah),ai (j:=1) rfl,a.lx,a.zx,a.lt,(a.n:Int),a.zg,a.ps,k,_,rfl,⟨v1 _ _ Pr.1,v1 _ _ Pr.2.1,zl.same v1 Pr.2.2⟩,Jq,?_⟩
   rw[he]
   have hxl:zW.length=s1.lies.length:=Paired.length hS.px
   have DK:e < zW.length:=by rw[hxl];exact(List.getElem?_eq_some_iff.mp By).1
   obtain⟨vq,hvq,hx,Na,rfl,ghx,XC,hNx⟩:=Paired.at2 hS.px By
   have hql9:=Pt.l e qs By
   have hpxl:Na.length=qs.length:=Paired.length XC
   refine⟨_,rfl,_,rfl,X',zW,(e:Int),_,rfl,rfl,zb.of MZ,ai hvq,_,rfl,by show 1 <= sizeLine;decide,fun o1 Ca=>?_⟩
   have v2:=(yW.refl H1).new (o := .lst [.ref pt]) Ca
   have Bv:(upd H1 o1 (.lst [.ref pt])) o1=some (.lst [.ref pt]):=ac
   generalize upd H1 o1 (.lst [.ref pt])=H2 at v2 Bv ⊢
   refine⟨hx,o1,_,_,rfl,rfl,v2 _ _ (v1 _ _ ghx),Bv,by rw[sizeLine_eq];simp only[length_singleton];omega,fun o2 zS=>?_⟩
   have v3:=v2.new (o := .lst (Na ++ [.ref pt])) zS
   have go2:(upd H2 o2 (.lst (Na ++ [.ref pt]))) o2=some (.lst (Na ++ [.ref pt])):=ac
   generalize upd H2 o2 (.lst (Na ++ [.ref pt]))=H3 at v3 go2 ⊢
   refine⟨_,rfl,_,rfl,X',zW,(e:Int),e,rfl,rfl,v3 _ _ MZ,eL DK,?_⟩
   have n2:o2 ≠ X':=fun z=>by rw[z,v2 _ _ MZ]at zS;cases zS
   have v13:=v1.trans v3
   have s4:yW H (upd H3 X' (.lst (zW.set e (.ref o2)))):=fun b o eb=>by rw[ae (ag eb T1)];exact v13 _ _ eb
   have XD:(upd H3 X' (.lst (zW.set e (.ref o2)))) X' = some (.lst (zW.set e (.ref o2))):=ac
   have kk4:zA H3 (upd H3 X' (.lst (zW.set e (.ref o2)))):=fG (v3 _ _ MZ)
   have XE:Paired (Di N (upd H3 X' (.lst (zW.set e (.ref o2))))) (zW.set e (.ref o2)) (s1.lies.set e (qs ++ [((m:Int),c)])) :=
    Paired.set ⟨o2,_,rfl,by rw[ae n2];exact go2,zl.snoc ⟨pt,rfl,s4 _ _ Av⟩ (zl.same s4 XC),Bl _ (v1.free (v2.free zS))⟩ e (Paired.mono (fun v q'=>Di.same s4 v q') hS.px)
   show _
   generalize upd H3 X' (.lst (zW.set e (.ref o2)))=H4 at s4 XD kk4 XE ⊢
   have Ik:=hS.same s4
   refine⟨_,rfl,_,rfl,mv,_,1,_,rfl,rfl,zc.of (s4 _ _ Ah),ai (j:=1) rfl,N,L,lvs,s1.lanes,k,lk,(fun z hz=>Bl z (s4.free hz)),rfl,Ik.gl,Ik.pl,hk,Pn,by omega,fun D zJ H5 s5 gD nD pD=>?_⟩
   have G9:=Ik.same s5
   refine⟨_,rfl,st,_,1,_,rfl,rfl,zc.of G9.t,ai (j:=1) rfl,_,rfl,by show 3 <= sizeLine;decide,fun tt CT=>?_⟩
   have s6:=(yW.refl H5).new (o := .tup [.ref D, .ref W, .ref X']) CT
   have XF:=G9.same s6
   have Fi:=s5.trans s6
   exact q tt D W X' zJ zP _ _ (s4.trans Fi) ⟨rfl,ac,s6 _ _ gD,Paired.mono (fun v l=>BI.same s6 v l) pD,XF.gw,XF.pw,Fi _ _ XD,Paired.mono (fun v l=>Di.same Fi v l) XE,nD,hS.nw,Bl _ T1⟩
theorem AQ.det {a:YA}{s s1 s2:YS}{m:Mv}(h1:AQ a s m s1)(h2:AQ a s m s2):s1=s2:=by
 cases h1 with
 | @Ag k l t ln ht hg hl zB ho =>
  cases h2 with
  | Ag Js hg' DD Bs DN =>
   rw[ht]at Js
   cases Js
   rw[zB]at Bs
   cases Bs
   rfl
 | @on k l m c lk ln t hk hq ht hl zB ho =>
  cases h2 with
  | @on _ _ m' c' Ie Ar t' DG AB Js DD Bs DN =>
   rw[hk]at DG
   cases DG
   rw[hq]at AB
   injection AB with AB
   injection AB with e1 e2
   have:m=m':=by omega
   subst this e2
   rw[ht]at Js
   cases Js
   rw[zB]at Bs
   cases Bs
   rfl
 | @Br k m e c lk t qs hk hq ht hg he By =>
  cases h2 with
  | @Br _ m' e' c' Ie t' qs' DG AB Js hg' he' Nb =>
   rw[hk]at DG
   cases DG
   rw[hq]at AB
   injection AB with AB
   injection AB with e1 e2
   have:m=m':=by omega
   subst this e2
   have:e=e':=by rw[he]at he';omega
   subst this
   rw[By]at Nb
   cases Nb
   rfl
 | @back k lk hk hb =>
  cases h2 with
  | back DG Bb =>
   rw[hk]at DG
   cases DG
   rfl
noncomputable def m8 (t:ci):Int × Int × Int × Int:=(t.start,t.goal,t.len,t.word)
theorem AQ.lets {a:YA}{s s':YS}{m:Mv}(h:AQ a s m s'):s'.U.map m8=s.U.map m8:=by
 cases h with
 | @Ag k l t ln ht hg hl zB ho =>
  have e1:(el s k t).U.map m8=s.U.map m8:=by
   show(s.U.set k { t with gone:=t.gone + 1 }).map m8=_
   rw[map_set]
   exact eZ (L:=s.U.map m8) (x:=m8 t) (by rw[List.getElem?_map,ht];rfl)
  show(if t.gone=0 then (el s k t).U.set k { ({ t with gone:=t.gone + 1 }:ci) with way:=t.way ++ [l] } else (el s k t).U).map m8=_
  by_cases hc:t.gone=0
  ·rw[if_pos hc,map_set,e1]
   exact eZ (L:=s.U.map m8) (x:=m8 t) (by rw[List.getElem?_map,ht];rfl)
  ·rw[if_neg hc,e1]
 | @on k l m c lk ln t hk hq ht hl zB ho =>
  show(if c=0 then s.U.set m { t with way:=t.way ++ [l] } else s.U).map m8=_
  by_cases hc:c=0
  ·rw[if_pos hc,map_set]
   exact eZ (L:=s.U.map m8) (x:=m8 t) (by rw[List.getElem?_map,ht];rfl)
  ·rw[if_neg hc]
 | Br=>rfl
 | back=>rfl
theorem Ab {α β γ:Type}{R:α->γ->Prop}{f:β->γ}:∀ {as:List α}{bs:List β},Paired (fun a b=>R a (f b)) as bs↔Paired R as (bs.map f)
 | [],[]=>⟨fun _ => .nil,fun _ => .nil⟩
 | [],_ :: _=>⟨(fun h=>by cases h),(fun h=>by cases h)⟩
 | _ :: _,[]=>⟨(fun h=>by cases h),(fun h=>by cases h)⟩
 | _ :: _,_ :: _=>⟨(fun h=>by cases h with | cons x r=>exact .cons x (Ab.mp r)),(fun h=>by cases h with | cons x r=>exact .cons x (Ab.mpr r))⟩
noncomputable def Nc (H:Hp)(v:V)(q:Int × Int × Int × Int):Prop:=∃ x,v=V.ref x/\H x=some (.tup [.int q.1, .int q.2.1, .int q.2.2.1, .int q.2.2.2])
theorem qI {H:Hp}{zz:List V}{s s':YS}(e:s'.U.map m8=s.U.map m8)(h:Paired (Ao H) zz s.U):Paired (Ao H) zz s'.U:=by
 have h2:=(Ab (R:=Nc H) (f:=m8)).mp h
 rw[← e]at h2
 exact(Ab (R:=Nc H) (f:=m8)).mpr h2
noncomputable def aS (s:YS):List Int:=s.U.map fun t=>t.gone
theorem AQ.gone {a:YA}{s s':YS}{m:Mv}(h:AQ a s m s'):aS s' = match m with
  | .Ag k _=>(aS s).set k ((aS s).getD k 0 + 1)
  | _=>aS s:=by
 cases h with
 | @Ag k l t ln ht hg hl zB ho =>
  have e0:(aS s).getD k 0=t.gone:=by unfold aS;rw[getD_eq_getElem?_getD,List.getElem?_map,ht];rfl
  have e1:aS (el s k t)=(aS s).set k (t.gone + 1):=by
   show(s.U.set k { t with gone:=t.gone + 1 }).map (fun t=>t.gone)=_
   rw[map_set];rfl
  show aS _=(aS s).set k ((aS s).getD k 0 + 1)
  rw[e0]
  show(if t.gone=0 then (el s k t).U.set k { ({ t with gone:=t.gone + 1 }:ci) with way:=t.way ++ [l] } else (el s k t).U).map (fun t=>t.gone)=_
  by_cases hc:t.gone=0
  ·rw[if_pos hc,map_set]
   show(aS (el s k t)).set k (t.gone + 1)=_
   rw[e1,List.set_set]
  ·rw[if_neg hc];exact e1
 | @on k l m c lk ln t hk hq ht hl zB ho =>
  show(if c=0 then s.U.set m { t with way:=t.way ++ [l] } else s.U).map (fun t=>t.gone)=aS s
  by_cases hc:c=0
  ·rw[if_pos hc,map_set]
   exact eZ (L:=aS s) (x:=t.gone) (by unfold aS;rw[List.getElem?_map,ht];rfl)
  ·rw[if_neg hc];rfl
 | Br=>rfl
 | back=>rfl
theorem zT.ex {K:Frag}{ys:Ys}{H:Hp}{a:YA}{s:YS}(h:zT K { ys with ex:=[] } H a s):∀ {xs:List Addr}{H':Hp},yW H H'->(∀ b ∈ xs,H b=none/\∃ zs,H' b=some (.lst zs))->zT K { ys with ex:=xs } H' a s:=by
 intro xs H' e hx
 have h':=zd.same h e
 obtain⟨v1,h1,p1⟩:=h.Au
 obtain⟨v2,h2,p2⟩:=h.hle
 have hn:∀ p:Addr,(∃ o,H p=some o)->p ∉ xs:=fun p ⟨o,ho⟩ z=>by rw[(hx p z).1]at ho;cases ho
 obtain⟨w1,g1,q1⟩:=h'.Au
 obtain⟨w2,g2,q2⟩:=h'.hle
 rw[e _ _ h1]at g1
 cases g1
 rw[e _ _ h2]at g2
 cases g2
 refine⟨h'.ins,h'.Lo,⟨v1,e _ _ h1,?_⟩,⟨v2,e _ _ h2,?_⟩,h'.BR,h'.B4,h'.ne,fun b hb=>(hx b hb).2⟩
 ·refine Paired.mono (fun v ln z=>?_) p1
  obtain⟨x,dx,pa,zf,ev,L,n⟩:=z
  refine⟨x,dx,pa,zf,ev,L.same e,fun z=>?_⟩
  have en:a.la :: a.le :: a.li :: a.dn :: xs=[a.la,a.le,a.li,a.dn] ++ xs:=rfl
  rw[show({ ys with ex:=xs }:Ys).ex=xs from rfl,en]at z
  rcases mem_append.mp z with z | z
  ·exact n z
  ·exact hn pa ⟨_,L.lst⟩ z
 ·refine Paired.mono (fun v t z=>?_) p2
  obtain⟨x,dx,wa,ev,BX,hw,n⟩:=z
  refine⟨x,dx,wa,ev,e _ _ BX,e _ _ hw,fun z=>?_⟩
  have en:a.la :: a.le :: a.li :: a.dn :: xs=[a.la,a.le,a.li,a.dn] ++ xs:=rfl
  rw[show({ ys with ex:=xs }:Ys).ex=xs from rfl,en]at z
  rcases mem_append.mp z with z | z
  ·exact n z
  ·exact hn wa ⟨_,hw⟩ z
theorem zT.chg {K:Frag}{ys:Ys}{H:Hp}{a:YA}{s:YS}(h:zT K ys H a s){x:Addr}(hx:x ∈ ys.ex)(Nd:x ∉ a.four){zs:List V}:zT K ys (upd H x (.lst zs)) a s:=by
 have o:zh (a.la :: a.le :: a.li :: a.dn :: ys.ex) H (upd H x (.lst zs)):=cj (by simp[hx])
 obtain⟨h1,h2,f1,f2,f3,f4⟩:=zd.off h o
 obtain⟨v1,a1,p1⟩:=h.Au
 obtain⟨v2,a2,p2⟩:=h.hle
 obtain⟨v3,a3,p3⟩:=h.BR
 obtain⟨v4,a4,p4⟩:=h.B4
 simp only[mem_cons,not_mem_nil,or_false,not_or]at Nd
 exact⟨h1,h2,⟨v1,by rw[ae (Ne.symm Nd.1)];exact a1,f1 _ _ p1⟩,⟨v2,by rw[ae (Ne.symm Nd.2.1)];exact a2,f2 _ _ p2⟩,⟨v3,by rw[ae (Ne.symm Nd.2.2.1)];exact a3,f3 _ _ p3⟩,⟨v4,by rw[ae (Ne.symm Nd.2.2.2)];exact a4,f4 _ _ p4⟩,h.ne,fun b hb=>ld (h.hex b hb)⟩
theorem xi {a:YA}{s:YS}{m:Mv}(G:AX a s)(O:wO a)(hm:m ∈ cY a s):∃ s',AQ a s m s':=by
 obtain⟨_,BG⟩:=jP hm
 have hG:=G.ok
 cases m with
 | Ag k l =>
  obtain⟨l',t,ln,e0,ht,hg,hl,zB,ho⟩:=nZ (show Mv.Ag k l ∈ gS a s k from BG)
  cases e0
  exact⟨_,AQ.Ag ht hg hl zB ho⟩
 | on k l =>
  obtain⟨l',pq,lk,ln,e0,hk,hq,hl,zB,ho⟩:=nY (show Mv.on k l ∈ ir a s k from BG)
  cases e0
  obtain⟨m,t,em,ht,Ib⟩:=hG.Am k lk hk pq (mem_of_head? hq)
  obtain⟨m0,cq⟩:=pq
  have em:m0=(m:Int):=em
  subst em
  have AO:k < s.lanes.length:=(List.getElem?_eq_some_iff.mp hk).1
  obtain⟨ln2,Fc,er,eh⟩:∃ ln2,(s.lanes.set k (bP lk))[l]? = some ln2/\ln2.r=ln.r/\ln2.h=ln.h:=by
   by_cases Eg:k=l
   ·subst Eg
    rw[hk]at zB
    cases zB
    exact⟨bP lk,by simp[AO],rfl,rfl⟩
   ·exact⟨ln,by rw[List.getElem?_set_ne Eg];exact zB,rfl,rfl⟩
  exact⟨_,AQ.on hk hq ht hl Fc (by rw[er,eh];exact ho)⟩
 | Br k =>
  obtain⟨pq,lk,t0,e0,hk,hq,Ct,hg⟩:=kU (show Mv.Br k ∈ eU a s k from BG)
  obtain⟨m,t,em,ht,Ib⟩:=hG.Am k lk hk pq (mem_of_head? hq)
  obtain⟨m0,cq⟩:=pq
  have em:m0=(m:Int):=em
  subst em
  have Ct:s.U[m]? = some t0:=by rw[← Ct];rfl
  rw[ht]at Ct
  cases Ct
  have AO:k < s.lanes.length:=(List.getElem?_eq_some_iff.mp hk).1
  have E4:k < a.ps.length:=by rw[← hG.lanes];exact AO
  have he:=List.getElem?_eq_getElem E4
  have D6:a.ps.getD k (0,0)=a.ps[k]:=by rw[getD_eq_getElem?_getD,he];rfl
  obtain⟨e,ee,HZ⟩:=O.ends k _ he
  rw[D6,ee]at hg
  have DK:e < s.lies.length:=by rw[hG.lies];exact HZ
  exact⟨_,AQ.Br hk hq ht hg (by rw[D6,ee]) (List.getElem?_eq_getElem DK)⟩
 | back k =>
  obtain⟨lk,e0,hk,hb⟩:=jp (show Mv.back k ∈ cX s k from BG)
  exact⟨_,AQ.back hk hb⟩
theorem E6.off {four:List Addr}{H H':Hp}{v:V}{zO:List bV}{AI:List (List Nat)}{Dj:List (List (Int × Int))}{t L W X:Addr}{lvs zP zW:List V}(h:E6 (fun z=>z ∉ four) H v zO AI Dj t L W X lvs zP zW)(k:zA H H')(o:zh four H H'):E6 (fun z=>z ∉ four) H' v zO AI Dj t L W X lvs zP zW:=by
 refine⟨h.e,k _ _ h.t True.intro,o _ _ h.nl h.gl,?_,o _ _ h.nw h.gw,?_,o _ _ h.nx h.gx,?_,h.nl,h.nw,h.nx⟩
 ·exact Paired.mono (fun v ln ⟨t,ql,zf,e,h1,h2,h3,h4⟩=>⟨t,ql,zf,e,k _ _ h1 True.intro,o _ _ h4 h2,k.zO h3,h4⟩) h.pl
 ·exact Paired.mono (fun v y ⟨t,e,h1,h2⟩=>⟨t,e,o _ _ h2 h1,h2⟩) h.pw
 ·exact Paired.mono (fun v q ⟨t,zf,e,h1,h2,h3⟩=>⟨t,zf,e,o _ _ h3 h1,k.zO h2,h3⟩) h.px
theorem Nf (m:Mv):∀ x ∈ eT m,yR x:=by
 cases m<;>intro x hx<;>simp only[eT,mem_cons,not_mem_nil,or_false]at hx
 ·rcases hx with rfl | rfl | rfl<;>first | exact Or.inl ⟨_,rfl⟩ | exact Or.inr ⟨_,rfl,by decide +kernel⟩
 ·rcases hx with rfl | rfl | rfl<;>first | exact Or.inl ⟨_,rfl⟩ | exact Or.inr ⟨_,rfl,by decide +kernel⟩
 ·rcases hx with rfl | rfl<;>first | exact Or.inl ⟨_,rfl⟩ | exact Or.inr ⟨_,rfl,by decide +kernel⟩
 ·rcases hx with rfl | rfl<;>first | exact Or.inl ⟨_,rfl⟩ | exact Or.inr ⟨_,rfl,by decide +kernel⟩
theorem qX {α:Type}{R:Hp->V->α->Prop}{K:Frag}{p:Addr}{xs:List V}{g:TG}{te:TE}{σ0:St}{H:Hp}{Q:VK}(mono:∀ {H H':Hp},yW H H'->∀ v a,R H v a->R H' v a)(as:List α)(hl:xs.length=as.length)(ha:H p=some (.lst xs))(hn:as.length < sizeLine)
  (hs:∀ (i:Nat)(x:V)(a:α)(H1:Hp)(N:V->Hp->Prop),xs[i]? = some x->as[i]? = some a->yW H H1->(∀ v H2,yW H1 H2->R H2 v a->N v H2)->g x σ0 H1 fun σ2 H2=>te σ2 H2 N)
  (hq:∀ D vs H1,yW H H1->H1 D=none->Paired (R H1) vs as->Q (.ref D) (upd H1 D (.lst vs))):dF (uC K p) g l7 te σ0 Q H:=by
 refine bI as.length hn (fun i acc H'=>yW H H'/\Paired (R H') acc (as.take i)) ⟨yW.refl _, .nil⟩ (fun i acc H' h=>by rw[Paired.length h.2];exact length_take_le _ _) (fun i acc H' hi h=>?_) (fun acc H' h=>?_)
 ·obtain⟨s,hL⟩:=h
  have hx:xs[i]? = some (xs[i]'(by omega)):=List.getElem?_eq_getElem (by omega)
  refine⟨⟨xs,_,zb.of (s _ _ ha),hx⟩,fun v H2 y=>?_⟩
  obtain⟨rfl,y⟩:=y
  have hv:=y xs (zb.of (s _ _ ha))
  refine hs i v as[i] H2 (fun y H4=>yW H H4/\Paired (R H4) (acc ++ [y]) (as.take (i + 1))) hv (List.getElem?_eq_getElem hi) s fun v H3 s3 hv=>⟨s.trans s3,?_⟩
  rw[take_succ,List.getElem?_eq_getElem hi]
  exact Paired.snoc hv (Paired.mono (mono s3) hL)
 ·obtain⟨s,hL⟩:=h
  rw[take_length]at hL
  exact⟨⟨xs,zb.of (s _ _ ha),by omega⟩,fun D hD=>hq D acc H' s hD hL⟩
noncomputable def oV (K:Frag):Sp:=fun vs H Q _=>∃ (a:Addr)(ns:List Int),vs=[.ref a]/\zb K H a (ns.map V.int)/\ns.length <= 63/\∀ H',Q (.bl true) H'
noncomputable abbrev Ng:List Str:=["_law_script", "_law_table_here", "_law_lanes_here", "_law_places", "_law_yard", "_law_amount", "_law_letters", "_law_history", "_law_sent", "_law_k", "_law_moves", "_law_stand_here", "_law_move", "_law_due", "_law_told"]
noncomputable def callC (s:Stmt):Scope:=match s with
 | .Expr (.Call _ [_,_, .ListComp _ _ sc _] _ _) _=>sc
 | _=>{ kind := .function,names:=[],isGenerator:=false,isCoroutine:=false }
noncomputable abbrev yx (ys:Ys)(ex:List Addr):Ys:={ ys with ex:=ex }
structure Fns (P:Program)(w:World)(K:Frag)(mg:Str->Option Value)(base:Heap)(c:Cs)(ts:Ts)(tn:mY)(ys:Ys)(nr:Addr)(fc fx ft Nh fy fb fp fl fq fm fs fh fd fi:Addr)(dc dx dt Pu dy db dp dl dq dm ds dh dd di:FuncData):Prop where
 mc:mg "_law_cell_at" = some (.ref fc)
 kc:keepIn K (.ref fc)=true
 bc:Binds K dc ["_law_script", "_law_k"] []
 Gc:yX P w K mg base aD 1 fc dc ["_law_script", "_law_k"] (nA K)
 mx:mg "_law_mixed" = some (.ref fx)
 kx:keepIn K (.ref fx)=true
 bx:Binds K dx ["_law_cell", "_law_k"] []
 Gx:yX P w K mg base aD 1 fx dx ["_law_cell", "_law_k"] l9
 mt:mg "_law_table" = some (.ref ft)
 kt:keepIn K (.ref ft)=true
 bt:Binds K dt ["_law_script"] []
 Gt:yX P w K mg base aD 7 ft dt ["_law_script"] (rS P w K c ts tn)
 mro:mg "_law_rooms" = some (.ref Nh)
 kro:keepIn K (.ref Nh)=true
 bro:Binds K Pu ["_law_table_here", "_law_cell"] []
 T2:∀ b,yX P w K mg base aD 2 Nh Pu ["_law_table_here", "_law_cell"] (lA c (TC ts tn b) (JJ P w ts tn b))
 my:mg "Yard" = some (.ref ys.yZ)
 My:Mk K ys.yZ fy
 T3:Binds K dy ["self", "table", "rooms"] []
 Gy:∀ b,yX P w K mg base (eR P w) 4 fy dy ["self", "table", "rooms"] (wu K c (TC ts tn b) (JJ P w ts tn b) ys nr)
 mb:mg "_law_begins" = some (.ref fb)
 kb:keepIn K (.ref fb)=true
 bb:Binds K db ["_law_table_here"] []
 Gb:∀ b,yX P w K mg base aD 4 fb db ["_law_table_here"] (pb c (TC ts tn b) (JJ P w ts tn b))
 mp:mg "_law_posts" = some (.ref fp)
 kp:keepIn K (.ref fp)=true
 bp:Binds K dp ["_law_yard", "_law_begins_here", "_law_cells"] []
 Gp:∀ b,yX P w K mg base aD 5 fp dp ["_law_yard", "_law_begins_here", "_law_cells"] (lB K c (TC ts tn b) (JJ P w ts tn b) (yx ys []))
 ml:b6 K ys.yZ "letter_told" fl
 bl:Binds K dl ["self", "number"] []
 Gl:yX P w K mg base aD 1 fl dl ["self", "number"] (rR K (yx ys []))
 mq:b6 K ys.yZ "posted" fq
 bq:Binds K dq ["self"] []
 Gq:yX P w K mg base aD 1 fq dq ["self"] (jc K (yx ys []))
 mm:b6 K ys.yZ "moves" fm
 bm:Binds K dm ["self"] []
 Gm:∀ b ex,yX P w K mg base aD 7 fm dm ["self"] (oS K c (TC ts tn b) (JJ P w ts tn b) (yx ys ex))
 ms:mg "_law_stand" = some (.ref fs)
 ks:keepIn K (.ref fs)=true
 bs:Binds K ds ["_law_yard", "_law_lanes_here", "_law_places"] []
 Gs:∀ ex,yX P w K mg base aD 3 fs ds ["_law_yard", "_law_lanes_here", "_law_places"] (oO K (yx ys ex))
 mh:mg "_law_behind" = some (.ref fh)
 kh:keepIn K (.ref fh)=true
 bh:Binds K dh Pq []
 Gh:yX P w K mg base aD 3 fh dh Pq (lC c)
 md:b6 K ys.yZ "do" fd
 bd:Binds K dd ["self", "move"] []
 Gd:∀ b ex,yX P w K mg base (eR P w) 8 fd dd ["self", "move"] (Mp K c (TC ts tn b) (JJ P w ts tn b) (yx ys ex))
 mi:b6 K ys.yZ "history" fi
 bi:Binds K di ["self"] []
 Gi:∀ ex,yX P w K mg base aD 1 fi di ["self"] (rW K (yx ys ex))
theorem dE {H H':Hp}(s:yW H H')(v:V)(m:List V)(h:Af H v m):Af H' v m:=h.keep (yW.zu s)
noncomputable abbrev P1 (P:Program)(w:World)(K:Frag)(c:Cs)(ts:Ts)(tn:mY)(ys:Ys)(H:Hp)(sc:Addr):St->Hp->Prop:=fun σ Hx=>∃ (b:Bool)(a:YA)(am:Nat)(Lt Hi Se:Addr)(st:YS)(zZ zz:List V),wO a/\a.ps.length <= 8/\a.n <= 5/\(∀ z ∈ a.four,H z=none)/\Se ∉ a.four/\Hi ∉ a.four/\Lt ∉ a.four/\Se ≠ Hi/\Lt ≠ Hi/\Lt ≠ Se/\H Hi=none/\H Se=none/\yW H Hx/\D4 K c (TC ts tn b) (JJ P w ts tn b) (yx ys [Se,Hi]) Hx a st/\AX a st/\Hx Se=some (.lst ((aS st).map V.int))/\Hx Lt=some (.lst zz)/\Paired (Ao Hx) zz st.U/\Hx Hi=some (.lst zZ)/\Paired (Af Hx) zZ st.done/\st.done.length <= 10/\(∀ d ∈ st.done,∀ x ∈ d,yR x)/\σ=[some (.ref sc),some (.ref a.tb),some (.int a.ps.length),some (.int a.n),some (.ref a.y),some (.int am),some (.ref Lt),some (.ref Hi),some (.ref Se),none,none,none,none,none,none]
noncomputable abbrev LI (P:Program)(w:World)(K:Frag)(c:Cs)(ts:Ts)(tn:mY)(ys:Ys)(H:Hp)(sc:Addr)(b:Bool)(a:YA)(am:Nat)(Lt Hi Se:Addr)(zz:List V):Nat->St->Hp->Prop:=fun i σ Ha=>∃ (a9 CH T4 T5 T6:Option V)(sa:YS)(zZ:List V),yW H Ha/\D4 K c (TC ts tn b) (JJ P w ts tn b) (yx ys [Se,Hi]) Ha a sa/\AX a sa/\Ha Se=some (.lst ((aS sa).map V.int))/\Ha Lt=some (.lst zz)/\Paired (Ao Ha) zz sa.U/\Ha Hi=some (.lst zZ)/\Paired (Af Ha) zZ sa.done/\sa.done.length <= 10 + i/\(∀ d ∈ sa.done,∀ x ∈ d,yR x)/\σ=[some (.ref sc),some (.ref a.tb),some (.int a.ps.length),some (.int a.n),some (.ref a.y),some (.int am),some (.ref Lt),some (.ref Hi),some (.ref Se),a9,CH,T4,T5,T6,none]
noncomputable abbrev P3 (P:Program)(w:World)(K:Frag)(c:Cs)(ts:Ts)(tn:mY)(ys:Ys)(H:Hp)(sc:Addr)(b:Bool)(a:YA)(am:Nat)(Lt Hi Se:Addr)(zz zZ:List V)(i:Nat)(Dm t1 p t2:Addr)(m:Mv)(sa s':YS):St->Hp->Prop:=fun σ' Hh=>σ' = [some (.ref sc),some (.ref a.tb),some (.int a.ps.length),some (.int a.n),some (.ref a.y),some (.int am),some (.ref Lt),some (.ref Hi),some (.ref Se),some (.int ((5 + i:Nat):Int)),some (.ref Dm),some (.ref t1),some (.ref p),some (.ref t2),none]/\yW H Hh/\D4 K c (TC ts tn b) (JJ P w ts tn b) (yx ys [Se,Hi]) Hh a { s' with done:=sa.done ++ [eT m] }/\Hh Se=some (.lst ((aS s').map V.int))/\Hh Lt=some (.lst zz)/\Paired (Ao Hh) zz s'.U/\Hh Hi=some (.lst zZ)/\Paired (Af Hh) zZ sa.done/\Hh p=some (.tup (eT m))
theorem A0:ao Ng ["_law_script"] (aj fu):=L2.zy
theorem Ni:Ae Ng (aj fu) (callC ((aH fu).getD 5 (.Pass ⟨0,0,0,0⟩))) ["_law_script"] [0]:=L2.Bf
theorem Nj:Ae Ng (aj fu) (re ((aH fu).getD 6 (.Pass ⟨0,0,0,0⟩))) ["_law_yard"] [4]:=L2.Bf
theorem Nk:Ae Ng (aj fu) (re ((aH fu).getD 7 (.Pass ⟨0,0,0,0⟩))) [] []:=L2.Bf
theorem Nl:Ae Ng (aj fu) (re ((aH fu).getD 8 (.Pass ⟨0,0,0,0⟩))) [] []:=L2.Bf
theorem Nm:(["_law_k", "_law_script"]:List Str).Nodup:=by decide +kernel
theorem Nn:(["_law_number", "_law_yard"]:List Str).Nodup:=by decide +kernel
theorem wK:(["_law_letter"]:List Str).Nodup:=by decide +kernel
theorem ym {c:Cs}{ts:Ts}{tn:mY}{ys:Ys}{nr f fc fx ft Nh fy fb fp fl fq fm fs fh fd fi:Addr}{fw:Bool->Addr}{dw:Bool->FuncData}{df dc dx dt Pu dy db dp dl dq dm ds dh dd di:FuncData}(F:zt K "law" "law" fu f df)(T:eO mg)(zll:kitOne K (.type "list") (.type "list")=some true)(L:ku K c)(Y:i5 K ys)(W:∀ b,Wy K (TC ts tn b) (fw b) (dw b) (JJ P w ts tn b))
  (D:Fns P w K mg base c ts tn ys nr fc fx ft Nh fy fb fp fl fq fm fs fh fd fi dc dx dt Pu dy db dp dl dq dm ds dh dd di):yX P w K mg base aD 10 f df ["_law_script"] (oV K):=by
 refine F.ok A0 (fun vs H Q E h=>?_) (fun cdv A outer s H vs Q E hr h=>?_)
 ·obtain⟨a,ns,rfl,_⟩:=h
  rfl
 ·obtain⟨sc,ns,rfl,hS,hlen,q⟩:=h
  have hu:=hr.units
  have zL:zi 1 _:=hr.mono (by decide)
  have Ay:zi 2 _:=hr.mono (by decide)
  have T7:zi 3 _:=hr.mono (by decide)
  have Cp:zi 4 _:=hr.mono (by decide)
  have Ji:zi 5 _:=hr.mono (by decide)
  have XG:zi 7 _:=hr.mono (by decide)
  have hr8:zi 8 _:=hr.mono (by decide)
  have GRo:=yX.ex D.T2
  have GY:=yX.ex D.Gy
  have GB:=yX.ex D.Gb
  have GP:=yX.ex D.Gp
  have GM:=yX.ex fun i:Bool × List Addr=>D.Gm i.1 i.2
  have GS:=yX.ex D.Gs
  have GD:=yX.ex fun i:Bool × List Addr=>D.Gd i.1 i.2
  have GI:=yX.ex D.Gi
  refine⟨_,sT 9 (af (aA (i:=1) A0.nd rfl (Or.inl rfl) (aw D.Gt XG rfl D.mt D.kt D.bt .nil aq (aa (pv 0) ad)))
   (af (aA (i:=2) A0.nd rfl (Or.inl rfl) (aG ay rfl T.len PySem.boot_len (aa (al (al (pv 1) rfl) rfl) ad)))
   (af (aA (i:=3) A0.nd rfl (Or.inl rfl) (al (al (pv 1) rfl) rfl))
   (af (aA (i:=4) A0.nd rfl (Or.inr rfl) (dD D.My GY Ji rfl D.my D.T3 .nil io (aa (pv 1) (aa (aw GRo Ay rfl D.mro D.kro D.bro .nil aq (aa (pv 1) (aa (aw D.Gc zL rfl D.mc D.kc D.bc .nil aq (aa (pv 0) (aa ah ad))) ad))) ad))))
   (af (aA (i:=5) A0.nd rfl (Or.inl rfl) (az bB ah (az bX (aw D.Gc zL rfl D.mc D.kc D.bc .nil aq (aa (pv 0) (aa ah ad))) ah)))
   (af (aR (aw GP Ji rfl D.mp D.kp D.bp .nil aq (aa (pv 4) (aa (aw GB Cp rfl D.mb D.kb D.bb .nil aq (aa (pv 1) ad)) (aa (bz (own:=["_law_k"]) (capN:=["_law_script"]) (cap:=[0]) Ni rfl (aM rfl T.range (aa (pv 5) ad)) (fun C s' H' fp=>⟨av (i:=0) Nm rfl (Or.inl rfl),bJ,aw D.Gx zL rfl D.mx D.kx D.bx .nil aq (aa (aw D.Gc zL rfl D.mc D.kc D.bc .nil aq (aa (pv 1) (aa ah ad))) (aa (pv 0) ad))⟩)) ad)))))
   (af (cv (i:=6) (own:=["_law_number"]) (capN:=["_law_yard"]) (cap:=[4]) Nj rfl A0.nd rfl rfl (aM rfl T.range (aa (b9 (pv 4) Y.cl D.mq D.Gq zL D.bq .nil aq) ad)) (fun C s' H' fp=>⟨av (i:=0) Nn rfl (Or.inl rfl),bJ,aF (pv 1) Y.cl D.ml D.Gl zL D.bl .nil aq (aa (pv 0) ad)⟩))
   (af (cv (i:=7) (own:=["_law_letter"]) (capN:=[]) (cap:=[]) Nk rfl A0.nd rfl rfl (bO (pv 6)) (fun C s' H' fp=>⟨av (i:=0) wK rfl (Or.inl rfl),bJ,az (show eP _ (binaryOp .Add) (wG K) from p8) (aW (aa aX ad)) (pv 0)⟩))
   (ak (cv (i:=8) (own:=["_law_letter"]) (capN:=[]) (cap:=[]) Nl rfl A0.nd rfl rfl (bO (pv 6)) (fun C s' H' fp=>⟨av (i:=0) wK rfl (Or.inl rfl),bJ,ah⟩)))))))))))
   (af (bN PassesOwn.never rfl (qo rfl T.range (aa ah (aa (aG (rb rfl) rfl T.min PyProof.Rows.boot_min (aa (aG ay rfl T.len PySem.boot_len (aa (pv 0) ad)) (aa ah ad))) ad))) (av (i:=9) A0.nd rfl (Or.inl rfl))
    (af (aA (i:=10) A0.nd rfl (Or.inl rfl) (b9 (pv 4) Y.cl D.mm GM XG D.bm .nil aq))
    (ak (aN (ax (jk hu) (pv 10) (aV ad) (aB _))
     (af (aA (i:=11) A0.nd rfl (Or.inl rfl) (aw GS T7 rfl D.ms D.ks D.bs .nil aq (aa (pv 4) (aa (pv 2) (aa (pv 3) ad)))))
     (af (aA (i:=12) A0.nd rfl (Or.inl rfl) (ap aJ (pv 10) (az bX (aw D.Gx zL rfl D.mx D.kx D.bx .nil aq (aa (ap aJ (pv 0) (pv 9) (fun _ _=>rfl)) (aa (pv 9) ad))) (aG ay rfl T.len PySem.boot_len (aa (pv 10) ad))) (fun _ _=>rfl)))
     (af (aA (i:=13) A0.nd rfl (Or.inl rfl) (aw D.Gh T7 rfl D.mh D.kh D.bh .nil aq (aa (al (pv 1) rfl) (aa (pv 11) (aa (pv 12) (aa (pv 6) (aa (pv 8) ad)))))))
     (af (aN (PW.pt (gP (ax p5 (aF (pv 4) Y.cl D.md GD hr8 D.bd .nil io (aa (pv 12) ad)) cp (aB _)) (eE (ax (jk hu) (aw GS T7 rfl D.ms D.ks D.bs .nil aq (aa (pv 4) (aa (pv 2) (aa (pv 3) ad)))) (pv 13) (aB _))))) (ak (au lU)) aE)
     (af (gQ (aN (ax bv (ap ar (pv 12) ah (fun _ _=>rfl)) aX (aB _)) (ak (dH (az bB (ap aJ (pv 8) (ap ar (pv 12) ah (fun _ _=>rfl)) (fun _ _=>rfl)) ah) (im (pv 8) (ap ar (pv 12) ah (fun _ _=>rfl)) dS))) aE))
     (ak (aR (cz plainAttrs_list PySem.F.slot_list_append PySem.F.type_list_append bG (pv 7) (aa (pv 12) ad))))))))) aE))))
   (af (aA (i:=14) A0.nd rfl (Or.inl rfl) (b9 (pv 4) Y.cl D.mi GI zL D.bi .nil aq))
   (af (aN (PW.pt (gP (bW (bK (aG fO rfl T.Hz PyProof.Rows.boot_isinstance (aa (pv 14) (aa (eJ (v := .ty "list") rfl T.list PySem.Pv.boot_list rfl) ad))))) (eE (ax (jk hu) (pv 14) (pv 7) (aB _))))) (ak (au lU)) aE)
   (af (aR (cz plainAttrs_list PySem.F.slot_list_append PySem.F.type_list_append bG (pv 14) (aa (aW (aa aX (aa ah ad))) ad)))
   (ak (au (c8 (xV hu) (b9 (pv 4) Y.cl D.mi GI zL D.bi .nil aq) (pv 7) (aB _)))))))),?_⟩
  refine⟨P1 P w K c ts tn ys H sc,?_,?_⟩
  refine⟨_,rfl,sc,ns,rfl,hS,fun b tb lx zx lt n zg ps wy H1 s1 R4 hT DQ ze hp8 DB Jn=>?_⟩
  obtain⟨BD,fst,B5,zF,AG⟩:=hT.i
  have SX:zg.length=ps.length:=Paired.length hT.l.2.2
  refine⟨_,rfl,tb,TC ts tn b,BD,fst,_,rfl,B5,(W b).cl,(W b).nl,zF,lx,c.land,zx,_,_,rfl,hT.l.1,L.cl,L.nl,rfl,lt,_,rfl, .inr (zc.of hT.l.2.1),?_⟩
  rw[SX]
  refine⟨_,rfl,tb,TC ts tn b,BD,fst,_,rfl,B5,(W b).cl,(W b).nl,zF,lx,c.land,zx,_,_,rfl,hT.l.1,L.cl,L.np,rfl,?_⟩
  refine⟨_,rfl,_,rfl,_,rfl,sc,ns,3,rfl,s1.seq hS,fun d3=>⟨b,⟨tb,tb,tb,tb,tb,tb,tb,tb,lx,zx,lt,n,zg,ps,wy⟩,d3,rfl,hT,fun Ro rs H2 s2 hRo gRo EL hrr=>?_⟩⟩
  have EL:rs.length=ps.length:=EL
  have T8:pA ps.length (rs.map V.int)=true:=by
   unfold pA
   rw[length_map,EL,decide_eq_true rfl,Bool.true_and,all_eq_true]
   intro v hv
   obtain⟨r,F3,rfl⟩:=mem_map.mp hv
   exact decide_eq_true (hrr r F3)
  refine fun y dy ny ndy ney=>?_
  have s4:yW H2 (upd (upd H2 dy (.own y)) y (.ins ys.yZ dy [])):=yW.new (yW.new (yW.refl H2) ndy) (by rw[ae (Ne.symm ney)];exact ny)
  refine⟨b,y,dy,tb,lx,zx,lt,n,zg,ps,wy,_,rs.map V.int,rfl,ac,hT.keep (W b) (yW.zu (s2.trans s4)), .inr ⟨Ro,rfl, .inl (zb.of (s4 _ _ gRo)),by rw[length_map];omega,(fun v hv=>by obtain⟨r,_,rfl⟩:=mem_map.mp hv;exact .int r),fun h=>by rw[T8]at h;cases h⟩,fun _ ro la le li dn H5 o5 FI HE LC OL hY=>⟨rfl,?_⟩⟩
  have s5:yW H2 H5:=fun b o e=>o5 b o (fun z=>by rw[mem_singleton.mp z,ny]at e;cases e) (s4 _ _ e)
  have XH:=s1.trans s2
  have T9:=XH.trans s5
  have fresh:∀ b ∈ [la,le,li,dn],H b=none:=fun b hb=>by
   have h4:yW H (upd (upd H2 dy (.own y)) y (.ins ys.yZ dy [])):=XH.trans s4
   simp only[mem_cons,not_mem_nil,or_false]at hb
   rcases hb with rfl | rfl | rfl | rfl
   ·exact h4.free FI
   ·exact h4.free HE
   ·exact h4.free LC
   ·exact h4.free OL
  have XI:zY c (TC ts tn b) (JJ P w ts tn b) H5 tb lx zx lt n zg ps wy:=hT.keep (W b) (yW.zu (s2.trans s5))
  obtain⟨a,ha⟩:∃ a:YA,a = ⟨y,dy,tb,ro,la,le,li,dn,lx,zx,lt,n,zg,ps,wy⟩:=⟨_,rfl⟩
  have Pw:zT K (yx ys []) H5 a (Y0 (rs.map V.int) a.n):=by rw[ha];exact hY
  have TB:uy c (TC ts tn b) (JJ P w ts tn b) H5 a:=by rw[ha];exact XI
  have e1:a.y=y:=by rw[ha]
  have e2:a.tb=tb:=by rw[ha]
  have e3:a.n=n:=by rw[ha]
  have e4:a.ps=ps:=by rw[ha]
  have e5:a.lx=lx:=by rw[ha]
  have CB:∀ b ∈ a.four,H b=none:=by rw[ha];exact fresh
  have GA:wO a:=by
   rw[ha]
   refine⟨fun l pr hl=>?_,DQ⟩
   have Np:=ze pr (mem_of_getElem? hl)
   unfold j8 at Np
   simp only[Bool.and_eq_true,decide_eq_true_eq,Bool.not_eq_true',decide_eq_false_iff_not]at Np
   exact⟨pr.2.toNat,by omega,by show pr.2.toNat < n;omega⟩
  have CW:a.ps.length <= 8:=by rw[e4];exact hp8
  have Nq:E5 a (Y0 (rs.map V.int) a.n):=SD (by rw[e4,length_map];exact EL)
  have EO:a.n <= 5:=by rw[e3];exact Jn
  clear hY XI hT o5 s4
  rw[← e1,← e2,← e3,← e4]
  refine⟨_,rfl,sc,ns,4,rfl,T9.seq hS,fun d4=>⟨_,_,rfl,rfl,(by show (0:Int) < 5;decide),_,_,rfl,rfl,?_⟩⟩
  obtain⟨am,ham,ham5⟩:∃ am:Nat,(1:Int) + d4 % 5=(am:Int)/\am <= 5:=⟨(1 + d4 % 5).toNat,by omega,by omega⟩
  dsimp only
  rw[ham]
  refine⟨_,rfl,_,rfl,b,a,rfl,TB,fun Bg Aa bs H6 s6 hBg XJ MH Tc Pg=>?_⟩
  refine⟨_,rfl,(am:Int),rfl,by omega,by omega,?_⟩
  rw[toNat_natCast]
  have sH6:=T9.trans s6
  refine bI am (by rw[sizeLine_eq];omega) (fun i acc H'=>H' = H6/\∃ ks:List Int,acc=ks.map V.int/\ks.length=i) ⟨rfl,[],rfl,rfl⟩ (fun i acc H' h=>by obtain⟨_,ks,rfl,e⟩:=h;rw[length_map];omega) (fun i acc H' hi h=>?_) (fun acc H' h=>?_)
  ·obtain⟨rfl,ks,rfl,e⟩:=h
   refine⟨hi,fun v H2 y=>?_⟩
   obtain⟨rfl,rfl⟩:=y
   rw[zero_add]
   exact⟨_,rfl,sc,ns,4,rfl,sH6.seq hS,fun d5=>⟨_,rfl,d5,i,rfl,by omega,fun d hd=>⟨rfl,ks ++ [d],by rw[map_append];rfl,by rw[length_append,e];rfl⟩⟩⟩
  obtain⟨rfl,ks,rfl,AO⟩:=h
  refine⟨le_refl _,fun Cs Kk=>?_⟩
  have s7:=s6.new (o := .lst (ks.map V.int)) Kk
  have TF:(upd H' Cs (.lst (ks.map V.int))) Cs=some (.lst (ks.map V.int)):=ac
  have Il:(upd H' Cs (.lst (ks.map V.int))) Bg=some (.lst Aa):=by rw[ae (ag XJ Kk)];exact XJ
  have Im:zl (upd H' Cs (.lst (ks.map V.int))) Aa bs:=zl.same ((yW.refl H').new Kk) MH
  have nCs:Cs ∉ a.four:=c3 (zd.same Pw s6) Kk
  have nBg:Bg ∉ a.four:=c3 Pw hBg
  generalize upd H' Cs (.lst (ks.map V.int))=H7 at s7 TF Il Im ⊢
  have Io:=zd.same Pw s7
  have Ip:=zY.keep (W b) TB (yW.zu s7)
  refine⟨b,a,Y0 (rs.map V.int) a.n,Bg,Cs,Aa,bs,ks,rfl,Io,Ip,Nq,rfl,Il,Im,Tc,Pg,nBg,TF,nCs,by omega,zero_le _,fun H8 st o8 Iq Px XN hl8=>?_⟩
  have two:∀ z:Addr,z ∈ [a.le,a.dn]->z ∈ a.four:=fun z hz=>by simp only[mem_cons,not_mem_nil,or_false]at hz ⊢;rcases hz with rfl | rfl<;>simp
  have TH:yW H H8:=lH (T9.trans s7) o8 fun z hz=>CB z (two z hz)
  have R5:uy c (TC ts tn b) (JJ P w ts tn b) H8 a:=zY.keep (W b) Ip (zh.zu (fun z hz=>Io.Cr z (two z hz)) o8)
  have hl8':st.U.length <= 10:=by
   have:(Y0 (rs.map V.int) a.n).U.length=0:=rfl
   omega
  have Py:AX a st:=Px.jnv (by omega) (by omega)
  have Ir:=Px.done
  have hg0:=fun m t h=>(Px.lets m t h).1
  clear o8 Px hl8 Nq Pw TB Io Ip Im MH Il TF
  refine⟨_,rfl,a.y,a.dy,_,rfl,Iq.ins,rfl,a.y,a.dy,a.tb,a.ro,a.la,a.le,a.li,a.dn,st,rfl,Iq,(st.U.length:Int),rfl,by omega,by omega,?_⟩
  rw[toNat_natCast]
  refine ie (R:=Ao) (fun s=>Ao.same s) st.U (by rw[sizeLine_eq];omega) (fun i t H9 N ht s9 hN=>?_) (fun Lt zz H9 s9 XO MY=>?_)
  ·have XQ:=zd.same Iq s9
   exact⟨_,rfl,a.y,a.dy,_,rfl,XQ.ins,rfl,_,rfl,a.y,a.dy,a.tb,a.ro,a.la,a.le,a.li,a.dn,st,i,t,rfl,XQ,ht,fun x Hx sx gx=>hN _ Hx sx ⟨x,rfl,gx⟩⟩
  have v1:=(yW.refl H9).new (o := .lst zz) XO
  have Dk:(upd H9 Lt (.lst zz)) Lt=some (.lst zz):=ac
  show c4 6 (V.ref Lt) _ (upd H9 Lt (.lst zz)) _
  generalize upd H9 Lt (.lst zz)=Eu at v1 Dk ⊢
  have GC:=Paired.mono (fun v t=>Ao.same v1 v t) MY
  have Nr:=s9.trans v1
  have Nt:zz.length=st.U.length:=Paired.length MY
  refine⟨_,rfl,Lt,rfl,⟨_,zb.of Dk⟩,?_⟩
  refine qX (R:=Af) (fun s=>dE s) (st.U.map vb) (by rw[length_map];exact Nt) Dk (by rw[length_map,sizeLine_eq];omega) (fun i x m Hx N hx hm sx hN=>?_) (fun Hi zZ Hx sx Nu pHi=>?_)
  ·obtain⟨t,ht,xt,rfl,gxt⟩:=Paired.at GC hx
   have em:m=vb t:=by rw[List.getElem?_map,ht]at hm;exact(Option.some.inj hm).symm
   subst em
   refine⟨by show 1 <= sizeLine;decide,fun o1 Ca=>⟨_,rfl,?_⟩⟩
   have u1:=(yW.refl Hx).new (o := .tup [.str "post"]) Ca
   have Bv:(upd Hx o1 (.tup [.str "post"])) o1=some (.tup [.str "post"]):=ac
   generalize upd Hx o1 (.tup [.str "post"])=Hy at u1 Bv ⊢
   exact⟨o1,xt,_,_,rfl,rfl,zc.of Bv,zc.of (u1 _ _ (sx _ _ gxt)),by simp,by rw[sizeLine_eq];simp,(fun z=>by cases z),fun _ p hp=>hN _ _ (u1.new hp) ⟨p,rfl,ac⟩⟩
  have v2:=sx.new (o := .lst zZ) Nu
  have TK:(upd Hx Hi (.lst zZ)) Hi=some (.lst zZ):=ac
  have Iu:=Paired.mono (fun v m=>dE ((yW.refl Hx).new (o := .lst zZ) Nu) v m) pHi
  show c4 7 (V.ref Hi) _ (upd Hx Hi (.lst zZ)) _
  generalize upd Hx Hi (.lst zZ)=Jt at v2 TK Iu ⊢
  rw[← XN]at Iu
  have Nv:=Nr.trans v2
  refine⟨_,rfl,Lt,rfl,⟨_,zb.of (v2 _ _ Dk)⟩,?_⟩
  refine bI zz.length (by rw[sizeLine_eq];omega) (fun i acc H'=>H' = Jt/\acc=(List.replicate i (0:Int)).map V.int) ⟨rfl,rfl⟩ (fun i acc H' h=>by rw[h.2,length_map,length_replicate];exact le_refl _) (fun i acc H' hi h=>?_) (fun acc H' h=>?_)
  ·obtain⟨rfl,rfl⟩:=h
   refine⟨⟨zz,zz[i],zb.of (v2 _ _ Dk),List.getElem?_eq_getElem hi⟩,fun v H2 y=>?_⟩
   obtain⟨rfl,_⟩:=y
   exact⟨rfl,by rw[replicate_succ',map_append];rfl⟩
  obtain⟨rfl,rfl⟩:=h
  refine⟨⟨zz,zb.of (v2 _ _ Dk),le_refl _⟩,fun Se Ju=>?_⟩
  have eg:List.replicate zz.length (0:Int)=aS st:=by
   rw[Nt]
   unfold aS
   refine List.ext_getElem? fun i=>?_
   rw[List.getElem?_map]
   cases ht:st.U[i]? with
   | none=>rw[List.getElem?_eq_none (by rw[length_replicate];exact List.getElem?_eq_none_iff.mp ht)];rfl
   | some t =>
    have hi:=(List.getElem?_eq_some_iff.mp ht).1
    rw[List.getElem?_replicate,if_pos hi]
    show some (0:Int)=some t.gone
    rw[hg0 i t ht]
  rw[eg]
  have v3:=(yW.refl H').new (o := .lst ((aS st).map V.int)) Ju
  have Ij:(upd H' Se (.lst ((aS st).map V.int))) Se=some (.lst ((aS st).map V.int)):=ac
  show c4 8 (V.ref Se) _ (upd H' Se (.lst ((aS st).map V.int))) _
  generalize upd H' Se (.lst ((aS st).map V.int))=Iv at v3 Ij ⊢
  have Iw:=Nv.trans v3
  have TL:H8 Hi=none:=Nr.free (sx.free Nu)
  have TM:H8 Se=none:=Nv.free Ju
  have Dp:=v3 _ _ TK
  have Fp:Se ≠ Hi:=fun z=>by rw[z,TK]at Ju;cases Ju
  have hYx:zT K (yx ys [Se,Hi]) Iv a st:=zT.ex Iq Iw (fun z hz=>by
   simp only[mem_cons,not_mem_nil,or_false]at hz
   rcases hz with rfl | rfl
   ·exact⟨TM,_,Ij⟩
   ·exact⟨TL,_,Dp⟩)
  have Fq:Se ∉ a.four:=c3 Iq TM
  have Ft:Hi ∉ a.four:=c3 Iq TL
  have Iy:Lt ∉ a.four:=c3 (zd.same Iq s9) XO
  have Iz:Lt ≠ Hi:=fun z=>by rw[← z,sx _ _ Dk]at Nu;cases Nu
  have I0:Lt ≠ Se:=fun z=>by rw[← z,v2 _ _ Dk]at Ju;cases Ju
  have IA:H Hi=none:=TH.free TL
  have IB:H Se=none:=TH.free TM
  have IC:D4 K c (TC ts tn b) (JJ P w ts tn b) (yx ys [Se,Hi]) Iv a st:=⟨hYx,zY.keep (W b) R5 (yW.zu Iw),GA,Py.ok⟩
  exact⟨b,a,am,Lt,Hi,Se,st,zZ,zz,GA,CW,EO,CB,Fq,Ft,Iy,Fp,Iz,I0,IA,IB,TH.trans Iw,IC,Py,Ij,v3 _ _ (v2 _ _ Dk),Paired.mono (fun v t=>Ao.same (v2.trans v3) v t) GC,Dp,Paired.mono (fun v m=>dE v3 v m) Iu,by rw[XN,length_map];omega,Ir,rfl⟩
  rintro σ Hx ⟨b,a,am,Lt,Hi,Se,st,zZ,zz,GA,CW,EO,CB,Fq,Ft,Iy,Fp,Iz,I0,IA,IB,XR,IC,Py,Ij,Dk,TN,Dp,TQ,hd10,Ir,rfl⟩
  refine⟨_,rfl,sc,_,rfl, .inl (XR.seq hS),_,_,rfl,5,_,rfl,⟨by decide,by decide,?_,?_⟩,?_⟩
  ·rw[length_map];split<;>omega
  ·rw[length_map];split<;>omega
  rw[length_map]
  refine bH (lo:=5) (LI P w K c ts tn ys H sc b a am Lt Hi Se zz)
   ⟨none,none,none,none,none,st,zZ,XR,IC,Py,Ij,Dk,TN,Dp,TQ,by omega,Ir,rfl⟩ ?_ ?_
  rotate_left
  ·rintro σ Ha ⟨a9,CH,T4,T5,T6,sa,zZ,Pz,Dg,Fu,P0,P2,Nw,Nx,Jv,hda,Fv,rfl⟩
   refine⟨_,rfl,a.y,a.dy,_,rfl,Dg.Y.ins,rfl,[Se,Hi],a.y,a.dy,a.tb,a.ro,a.la,a.le,a.li,a.dn,sa,rfl,Dg.Y,fun Tl Jw Hb sb hTl Ny XS=>?_⟩
   have XT:=Dg.same (W b) sb
   refine⟨_,rfl, .ref Tl,_, "list",true,rfl, .lst Ny,zll,_,rfl,aI ⟨_,rfl,_,rfl,?_⟩⟩
   have pHb:=Paired.mono (fun v m=>dE sb v m) Jv
   refine Wc (d := .list (sa.done.map uR)) (.lst (zb.of Ny) (e9 XS Fv)) (.lst (zb.of (sb _ _ Nx)) (e9 pHb Fv)) (lE Fv) ⟨_,rfl,aI ?_⟩
   have htll:Jw.length=sa.done.length:=Paired.length XS
   refine⟨_,rfl, .inl ⟨rfl,_,zb.of Ny⟩,by show 2 <= sizeLine;decide,fun o2 zS=>?_⟩
   have XU:=sb.new (o := .tup [.str "lie", .int 0]) zS
   have XW:(upd Hb o2 (.tup [.str "lie", .int 0])) Tl=some (.lst Jw):=by rw[ae (ag Ny zS)];exact Ny
   generalize upd Hb o2 (.tup [.str "lie", .int 0])=Hc at XU XW ⊢
   have h45:(if (45:Int) < (ns.length:Int) then (45:Int) else (ns.length:Int)) - 5 <= 45:=by split<;>omega
   have hts:Jw.length < sizeLine:=by rw[sizeLine_eq];omega
   refine⟨Tl,Jw,_,rfl,rfl,XW,hts,?_⟩
   have sd:yW Ha (upd Hc Tl (.lst (Jw ++ [.ref o2]))):=fun z o ez=>by rw[ae (ag ez hTl)];exact XU _ _ ez
   generalize upd Hc Tl (.lst (Jw ++ [.ref o2]))=Hd at sd ⊢
   have GF:=Dg.same (W b) sd
   refine⟨_,rfl,a.y,a.dy,_,rfl,GF.Y.ins,rfl,[Se,Hi],a.y,a.dy,a.tb,a.ro,a.la,a.le,a.li,a.dn,sa,rfl,GF.Y,fun Te tes He se Hn gTe pTe=>⟨_,rfl,?_⟩⟩
   exact eqS (d := .list (sa.done.map uR)) (.lst (zb.of gTe) (e9 pTe Fv)) (.lst (zb.of (se _ _ (sd _ _ Nx))) (e9 (Paired.mono (fun v m=>dE (sd.trans se) v m) Jv) Fv)) (lE Fv) (q _)
  rintro i σ Ha hi ⟨a9,CH,T4,T5,T6,sa,zZ,Pz,Dg,Fu,P0,P2,Nw,Nx,Jv,hda,Fv,rfl⟩
  have XX:5 + i < ns.length/\i < 45:=by
   have:i < ((if (45:Int) < (ns.length:Int) then (45:Int) else (ns.length:Int)) - 5).toNat:=hi
   split at this<;>omega
  rw[show (5:Int) + (i:Int)=((5 + i:Nat):Int) by omega]
  refine⟨_,rfl,a.y,a.dy,_,rfl,Dg.Y.ins,rfl,(b,[Se,Hi]),a,sa,rfl,Dg,fun Dm zG Hb sb hDm XY hpm=>?_⟩
  have XT:=Dg.same (W b) sb
  refine⟨_,rfl,zero_le _,fun o1 Ca=>?_⟩
  have Fw:=sb.new (o := .lst []) Ca
  have Bv:(upd Hb o1 (.lst [])) o1=some (.lst []):=ac
  have Fx:(upd Hb o1 (.lst [])) Dm=some (.lst zG):=by rw[ae (ag XY Ca)];exact XY
  have Fy:=Paired.mono (fun _ _ z=>z.keep (yW.zu ((yW.refl Hb).new (o := .lst []) Ca))) hpm
  generalize upd Hb o1 (.lst [])=Hc at Fw Bv Fx Fy ⊢
  have Nz:=Dg.same (W b) Fw
  refine neN (f:=uA) (l:=cY a sa) (.lst (zb.of Fx) (lm Fy)) (.lst (zb.of Bv) .nil) (uI _) ⟨_,rfl,?_⟩
  cases XZ:(cY a sa).isEmpty with
  | true=>exact aI ⟨_,_,_,_,_,sa,zZ,Pz.trans Fw,Nz,Fu,Fw _ _ P0,Fw _ _ P2,Paired.mono (fun v t=>Ao.same Fw v t) Nw,Fw _ _ Nx,Paired.mono (fun v m=>dE Fw v m) Jv,by omega,Fv,rfl⟩
  | false =>
  have DH:sa.lanes.length=a.ps.length:=Fu.lanes
  have TU:sa.lies.length=a.n:=Fu.lies
  have h60:=Fu.zX
  refine aK ⟨_,rfl,_,rfl,_,rfl,[Se,Hi],(fun z=>z ∉ a.four),a,sa,(fun z hz=>c3 Nz.Y hz),by rw[DH,TU];rfl,Nz.Y,by omega,by omega,by omega,fun t1 L1 W1 X1 TV TY Ua Hd sd N0=>?_⟩
  have GF:=Nz.same (W b) sd
  have N1:=Fw.trans sd
  have Ub:zG.length=(cY a sa).length:=by rw[Paired.length Fy,length_map]
  have Tf:0 < zG.length:=by
   rw[Ub]
   cases hx:cY a sa with
   | nil=>rw[hx]at XZ;cases XZ
   | cons _ _=>exact succ_pos _
  have np:(0:Int) < ((zG.length:Nat):Int):=by omega
  have hsx:(ns.map V.int)[5 + i]? = some (V.int (ns[5 + i]' XX.1)):=by rw[List.getElem?_map,List.getElem?_eq_getElem XX.1];rfl
  refine⟨_,rfl,_,rfl,_,rfl,sc,_,_,_,rfl,rfl,(Pz.trans N1).seq hS,ai hsx,_,rfl,_,5 + i,rfl,by omega,fun d hd=>?_⟩
  have z1:=emod_nonneg d (show((zG.length:Nat):Int) ≠ 0 by omega)
  have z2:=emod_lt_of_pos d np
  obtain⟨k,hk,Tg⟩:∃ k:Nat,d % ((zG.length:Nat):Int)=(k:Int)/\k < zG.length:=⟨(d % ((zG.length:Nat):Int)).toNat,by omega,by omega⟩
  have Ih:=List.getElem?_eq_getElem Tg
  obtain⟨mv,Ah,p,Jq,hp⟩:=Paired.at Fy Ih
  obtain⟨m,Ya,rfl⟩:∃ m,m ∈ cY a sa/\eT m=mv:=by
   rw[List.getElem?_map]at Ah
   cases hx:(cY a sa)[k]? with
   | none=>rw[hx]at Ah;cases Ah
   | some m=>rw[hx]at Ah;exact⟨m,mem_of_getElem? hx,Option.some.inj Ah⟩
  rw[Jq]at Ih
  refine⟨_,rfl,Dm,_,rfl, .inl (zb.of (sd _ _ Fx)),_,_,rfl,rfl,np,Dm,zG,(k:Int), .ref p,rfl,congrArg V.int hk,zb.of (sd _ _ Fx),ai Ih,?_⟩
  have Uc:=sd _ _ hp
  obtain⟨Ud,Ue,Ug,ID,Uh⟩:=GF.T.i
  obtain⟨Yb,N2⟩:∃ s',AQ a sa m s':=xi Fu GA Ya
  refine⟨_,rfl,a.tb,TC ts tn b,Ud,Ue,_,rfl,Ug,(W b).cl,(W b).nl,ID,_,rfl,_,rfl,_,rfl,_,rfl,(fun z=>z ∉ a.four),a,sa,Yb,m,t1,L1,W1,X1,TV,TY,Ua,p,Lt,zz,Se,(fun z hz=>c3 GF.Y hz),rfl,GF.T.l,GA,Fu,N2,N0,Uc,N1 _ _ P2,Paired.mono (fun v t=>Ao.same N1 v t) Nw,N1 _ _ P0,fun t2 L2 W2 X2 EX wvs2 xvs2 He se N3=>?_⟩
  have N4:=GF.same (W b) se
  have Jx:=N1.trans se
  refine⟨_,rfl,a.y,a.dy,_,rfl,N4.Y.ins,rfl,_,rfl,(b,[Se,Hi]),a,sa,p,m,rfl,N4,se _ _ Uc,Ya,Fu.WX (by omega),fun Hf s' B1 Cv Ui=>⟨rfl,_,rfl,aI ?_⟩⟩
  have es:s' = Yb:=B1.det N2
  subst es
  have IE:AX a { s' with done:=sa.done ++ [eT m] }:=(Fu.step B1).done _
  have four:∀ z ∈ a.four,∃ xs,He z=some (.lst xs):=fun z hz=>N4.Y.Cr z hz
  have Jy:=zh.zu four Cv
  have hTf:uy c (TC ts tn b) (JJ P w ts tn b) Hf a:=zY.keep (W b) N4.T Jy
  have Yc:D4 K c (TC ts tn b) (JJ P w ts tn b) (yx ys [Se,Hi]) Hf a { s' with done:=sa.done ++ [eT m] }:=⟨Ui,hTf,GA,IE.ok⟩
  have sHf:yW H Hf:=lH (Pz.trans Jx) Cv CB
  have gSf:=Cv _ _ Fq (Jx _ _ P0)
  have gLf:=Cv _ _ Iy (Jx _ _ P2)
  have gHf:=Cv _ _ Ft (Jx _ _ Nx)
  have hpf:=Jy _ _ (se _ _ Uc) True.intro
  have Ye:Paired (Ao Hf) zz s'.U:=qI B1.lets (Paired.mono (fun v t ⟨x,e,hx⟩=>⟨x,e,Jy _ _ (Jx _ _ hx) True.intro⟩) Nw)
  have Yf:Paired (Af Hf) zZ sa.done:=Paired.mono (fun v m z=>(dE Jx v m z).keep Jy) Jv
  have Yg:=N3.off Jy Cv
  have Uj:s'.lanes.length=a.ps.length:=IE.lanes
  have N5:s'.lies.length=a.n:=IE.lies
  have h60':s'.U.length <= 60:=IE.zX
  refine⟨_,rfl,_,rfl,_,rfl,[Se,Hi],(fun z=>z ∉ a.four),a,{ s' with done:=sa.done ++ [eT m] },(fun z hz=>c3 Ui hz),by show _=[V.ref a.y, .int s'.lanes.length, .int s'.lies.length];rw[Uj,N5];rfl,Ui,by show s'.lanes.length <= 900;omega,by show s'.lies.length <= 900;omega,by show s'.U.length <= 900;omega,fun t3 L3 W3 X3 lvs3 wvs3 xvs3 Hg sg N6=>⟨_,rfl,?_⟩⟩
  refine Wc (d:=SY s'.lanes (bE s') s'.lies) (uo N6) (uo (Yg.same sg)) (xj _ _ _) ⟨_,rfl,aI ?_⟩
  have N7:=Yc.same (W b) sg
  have P4:=sHf.trans sg
  have Jz:=sg _ _ gSf
  have P5:=sg _ _ gLf
  have P6:=sg _ _ gHf
  have CI:=sg _ _ hpf
  have P7:=Paired.mono (fun v t=>Ao.same sg v t) Ye
  have P8:=Paired.mono (fun v m=>dE sg v m) Yf
  have inS:Se ∈ (yx ys [Se,Hi]).ex:=mem_cons_self ..
  have inH:Hi ∈ (yx ys [Se,Hi]).ex:=mem_cons_of_mem _ (mem_cons_self ..)
  clear Cv Jy Yg N0 N3 N6 Dg XT Nz GF N4 Yc Nw Jv Ye Yf
  refine⟨P3 P w K c ts tn ys H sc b a am Lt Hi Se zz zZ i Dm t1 p t2 m sa s',?_,?_⟩
  ·have eg:=B1.gone
   cases m with
   | Ag k l =>
    have IF:Hg p=some (.tup [.str "in", .int k, .int l]):=CI
    have eg:aS s' = (aS sa).set k ((aS sa).getD k 0 + 1):=eg
    have AO:k < (aS sa).length:=by
     cases B1 with
     | Ag ht _ _ _ _=>unfold aS;rw[length_map];exact(List.getElem?_eq_some_iff.mp ht).1
    have hgk:(aS sa).getD k 0=(aS sa)[k]:=by rw[getD_eq_getElem?_getD,List.getElem?_eq_getElem AO];rfl
    have Tt:((aS sa).map V.int)[k]? = some (V.int (aS sa)[k]):=by rw[List.getElem?_map,List.getElem?_eq_getElem AO];rfl
    refine⟨_,rfl,p,_,0,_,rfl,rfl,zc.of IF,ai (j:=0) rfl,rfl,_,rfl,?_⟩
    rw[fj]
    refine aK ⟨_,rfl,_,rfl,p,_,1,_,rfl,rfl,zc.of IF,ai (j:=1) rfl,Se,_,(k:Int),_,rfl,rfl,zb.of Jz,ai Tt,_,_,rfl,rfl,_,rfl,_,rfl,p,_,1,_,rfl,rfl,zc.of IF,ai (j:=1) rfl,Se,_,(k:Int),k,rfl,rfl,Jz,eL (by rw[length_map];exact AO),?_⟩
    have kk:=fG (o := .lst (((aS sa).map V.int).set k (.int ((aS sa)[k] + 1)))) Jz
    refine⟨rfl,fun z o e=>by rw[ae (ag e IB)];exact P4 _ _ e,⟨N7.Y.chg inS Fq,zY.keep (W b) N7.T kk,GA,IE.ok⟩,by rw[ac,eg,hgk,map_set],by rw[ae I0];exact P5,Paired.mono (fun v t ⟨x,e,hx⟩=>⟨x,e,kk _ _ hx True.intro⟩) P7,by rw[ae (Ne.symm Fp)];exact P6,Paired.mono (fun v m z=>Af.keep kk z) P8,kk _ _ CI True.intro⟩
   | on k l =>
    refine⟨_,rfl,p,_,0,_,rfl,rfl,zc.of (show Hg p=some (.tup [.str "on", .int k, .int l]) from CI),ai (j:=0) rfl,rfl,_,rfl,?_⟩
    rw[dG (by decide +kernel)]
    exact aI ⟨rfl,P4,N7,by rw[show aS s' = aS sa from eg];exact Jz,P5,P7,P6,P8,CI⟩
   | Br k =>
    refine⟨_,rfl,p,_,0,_,rfl,rfl,zc.of (show Hg p=some (.tup [.str "lie", .int k]) from CI),ai (j:=0) rfl,rfl,_,rfl,?_⟩
    rw[dG (by decide +kernel)]
    exact aI ⟨rfl,P4,N7,by rw[show aS s' = aS sa from eg];exact Jz,P5,P7,P6,P8,CI⟩
   | back k =>
    refine⟨_,rfl,p,_,0,_,rfl,rfl,zc.of (show Hg p=some (.tup [.str "back", .int k]) from CI),ai (j:=0) rfl,rfl,_,rfl,?_⟩
    rw[dG (by decide +kernel)]
    exact aI ⟨rfl,P4,N7,by rw[show aS s' = aS sa from eg];exact Jz,P5,P7,P6,P8,CI⟩
  rintro σ' Hh ⟨rfl,sHh,Yh,gSh,gLh,pLh,Uk,Yi,hph⟩
  have hhl:zZ.length=sa.done.length:=Paired.length Yi
  have hhs:zZ.length < sizeLine:=by rw[sizeLine_eq];omega
  refine⟨_,rfl, .inl ⟨rfl,_,zb.of Uk⟩,_,rfl,Hi,_,_,rfl,rfl,Uk,hhs,?_⟩
  have kk:=fG (o := .lst (zZ ++ [.ref p])) Uk
  refine⟨_,_,_,_,_,{ s' with done:=sa.done ++ [eT m] },zZ ++ [.ref p],fun z o e=>by rw[ae (ag e IA)];exact sHh _ _ e,⟨Yh.Y.chg inH Ft,zY.keep (W b) Yh.T kk,GA,IE.ok⟩,IE,by rw[ae Fp];exact gSh,by rw[ae Iz];exact gLh,Paired.mono (fun v t ⟨x,e,hx⟩=>⟨x,e,kk _ _ hx True.intro⟩) pLh,ac,Paired.snoc ⟨p,rfl,kk _ _ hph True.intro⟩ (Paired.mono (fun v m z=>Af.keep kk z) Yi),?_,?_,rfl⟩
  ·show(sa.done ++ [eT m]).length <= _
   rw[length_append,length_singleton];omega
  ·intro d hd
   rcases mem_append.mp hd with hd | hd
   ·exact Fv d hd
   ·rw[mem_singleton.mp hd];exact Nf m
theorem len_of1 {α:Type}{P:List α->Prop}(h:∀ a0,P [a0]):∀ us:List α,us.length=1->P us
 | [a0],_=>h a0
theorem len_of2 {α:Type}{P:List α->Prop}(h:∀ a0 a1,P [a0,a1]):∀ us:List α,us.length=2->P us
 | [a0,a1],_=>h a0 a1
theorem len_of3 {α:Type}{P:List α->Prop}(h:∀ a0 a1 a2,P [a0,a1,a2]):∀ us:List α,us.length=3->P us
 | [a0,a1,a2],_=>h a0 a1 a2
theorem len_of4 {α:Type}{P:List α->Prop}(h:∀ a0 a1 a2 a3,P [a0,a1,a2,a3]):∀ us:List α,us.length=4->P us
 | [a0,a1,a2,a3],_=>h a0 a1 a2 a3
theorem len_of5 {α:Type}{P:List α->Prop}(h:∀ a0 a1 a2 a3 a4,P [a0,a1,a2,a3,a4]):∀ us:List α,us.length=5->P us
 | [a0,a1,a2,a3,a4],_=>h a0 a1 a2 a3 a4
structure FT (K:Frag)(mg:Str->Option Value)(n:Str)(st:Stmt)(ps:List Str)(f:Addr)(fd:FuncData):Prop where
 F:zt K n n st f fd
 m:mg n=some (.ref f)
 k:keepIn K (.ref f)=true
 b:Binds K fd ps []
structure FM (K:Frag)(C:Addr)(n q:Str)(st:Stmt)(ps:List Str)(f:Addr)(fd:FuncData):Prop where
 F:zt K n q st f fd
 m:b6 K C n f
 b:Binds K fd ps []
section
variable {K:Frag}{mg:Str->Option Value}{C f:Addr}{n q:Str}{st:Stmt}{ps:List Str}{h:Heap}{oc:Value}{od an:Option Addr}{C5:Array (Option Value)}{kV doc pm cdv ct:Value}
theorem mkT (X:K.In h)(G:h.Ns mainGlobals mg)(hb:∀ (kV doc pm:Value) (an:Option Addr) (cdv ct:Value) (us:List Value),us.length=ps.length->bindArgs (fnOf n n (bL st) (aH st) (aj st) .none kV doc pm an cdv ct) ⟨us,[]⟩ = pure (ps.zip us))
  (a:nsIn K mainGlobals n=some (some (.ref f))) (l:K.lookup f=some ⟨oc,od, .func (fnOf n n (bL st) (aH st) (aj st) .none kV doc pm an cdv ct),C5⟩) (c:codeIn K cdv n=true) (k:keepIn K (.ref f)=true):∃ fd,FT K mg n st ps f fd :=
 ⟨_,jy l c k,mg_of X G a,k,(jy l c k).binds hb⟩
theorem mkM (hb:∀ (kV doc pm:Value) (an:Option Addr) (cdv ct:Value) (us:List Value),us.length=ps.length->bindArgs (fnOf n q (bL st) (aH st) (aj st) .none kV doc pm an cdv ct) ⟨us,[]⟩ = pure (ps.zip us))
  (a:findIn K (.ref C) n=some (some (.ref f))) (l:K.lookup f=some ⟨oc,od, .func (fnOf n q (bL st) (aH st) (aj st) .none kV doc pm an cdv ct),C5⟩) (c:codeIn K cdv q=true) (k:keepIn K (.ref f)=true) (i:isFn K (.ref f)=true):∃ fd,FM K C n q st ps f fd :=
 ⟨_,jy l c k,⟨a,i,k⟩,(jy l c k).binds hb⟩
end
section
variable {l:PySem.W.OpenLaw}{w:World}{K:Frag}{h:Heap}{mg:Str->Option Value}{fa cL cN cT cR cE cB cD cO cM cP cG cW cZ cF cQ cA cH cJ f1 f2 f3 f4 f5 f6 f7 f8 f9 Yj O3 Yk Yl Ym Yn Yo Yp Yq Yr Yt Yu Yv Yw Yx Yy Yz Y1 Ul Um Y2 P9 Uo Up Uq Ur Us Ut N8 Uu f40 Uv f42 Uw Y3 Ux Y4 Uy Uz Y5 Y6 U0 Y7 IG J0 Y8 U1 U2 U3 U4 Y9 U5 YB U6 U7 U8 U9 UA YC YD YE YF YG YH:Addr}{t1 t2 t3 t4 t5:Tok}
theorem both {α β:Type}{P:Bool->α->β->Prop}{a1 a2:α}{b1 b2:β}(h1:P true a1 b1)(h2:P false a2 b2):∃ (f:Bool->α)(g:Bool->β),∀ b,P b (f b) (g b):=⟨fun b=>cond b a1 a2,fun b=>cond b b1 b2,fun b=>by cases b<;>assumption⟩
theorem all_mk (X:K.In h)(G:h.Ns mainGlobals mg)(Df:mg "law" = some (.ref fa))
  {UB N9 UC NA UD NB:Option Addr} {UE UG UH:Array (Option Value)} {UI NC ND NG IH NJ UJ NK NM NN II NO UK NP NQ NR IJ NS:Value}
  {NU NV:Addr} {UL UM:Value} {UN UO:Option Addr} {UP UQ:Nat} {UR:Tok}  {US UT:Array (Option Value)}
  (gcL:nsIn K mainGlobals "Land" = some (some (.ref cL)))
  (gcN:nsIn K mainGlobals "NoPlaces" = some (some (.ref cN)))
  (gcT:nsIn K mainGlobals "TooMany" = some (some (.ref cT)))
  (gcR:nsIn K mainGlobals "NoRoad" = some (some (.ref cR)))
  (gcE:nsIn K mainGlobals "NoEntry" = some (some (.ref cE)))
  (gcB:nsIn K mainGlobals "Table" = some (some (.ref cB)))
  (gcD:nsIn K mainGlobals "Told" = some (some (.ref cD)))
  (gcO:nsIn K mainGlobals "Nearer" = some (some (.ref cO)))
  (gcM:nsIn K mainGlobals "NoRooms" = some (some (.ref cM)))
  (gcP:nsIn K mainGlobals "NoPlace" = some (some (.ref cP)))
  (gcG:nsIn K mainGlobals "NoLength" = some (some (.ref cG)))
  (gcW:nsIn K mainGlobals "NoWord" = some (some (.ref cW)))
  (gcZ:nsIn K mainGlobals "NoWay" = some (some (.ref cZ)))
  (gcF:nsIn K mainGlobals "Full" = some (some (.ref cF)))
  (gcQ:nsIn K mainGlobals "NoMove" = some (some (.ref cQ)))
  (gcA:nsIn K mainGlobals "Lane" = some (some (.ref cA)))
  (gcH:nsIn K mainGlobals "Letter" = some (some (.ref cH)))
  (gcJ:nsIn K mainGlobals "Yard" = some (some (.ref cJ)))
  (h1:∃ d,FT K mg "has" uP ["some", "number"] f1 d)
  (h2:∃ d,FT K mg "members" sC ["some"] f2 d)
  (h3:∃ d,FT K mg "set_of" xx ["numbers"] f3 d)
  (h4:∃ d,FT K mg "is_whole" gk ["value"] f4 d)
  (h5:∃ d,FT K mg "is_within" iG ["value", "least", "most"] f5 d)
  (h6:∃ d,FT K mg "is_one_of" xz ["value", "numbers"] f6 d)
  (h7:∃ d,FT K mg "are_two_places" xv ["places", "one", "other"] f7 d)
  (h8:∃ d,FT K mg "row_fits" lN ["land", "row"] f8 d)
  (h9:∃ d,FT K mg "onward" Rj ["table", "lane", "goal"] f9 d)
  (h10:∃ d,FT K mg "rooms_of" gm ["land", "rooms"] Yj d)
  (h11:∃ d,FT K mg "is_word" si ["word"] O3 d)
  (h12:∃ d,FT K mg "is_move" lK ["move"] Yk d)
  (h13:∃ d,FT K mg "how_far" xC ["land", "goal"] Yl d)
  (h14:∃ d,FT K mg "nearer_lanes" KI ["land", "far", "place"] Ym d)
  (h15:∃ d,FT K mg "_law_cell_at" sL ["_law_script", "_law_k"] Yn d)
  (h16:∃ d,FT K mg "_law_mixed" x5 ["_law_cell", "_law_k"] Yo d)
  (h17:∃ d,FT K mg "_law_lanes" nK ["_law_places", "_law_amount", "_law_cell"] Yp d)
  (h18:∃ d,FT K mg "_law_rows" jf ["_law_places", "_law_lanes_here", "_law_cell"] Yq d)
  (h19:∃ d,FT K mg "_law_table" sH ["_law_script"] Yr d)
  (h20:∃ d,FT K mg "_law_begins" nR ["_law_table_here"] Yt d)
  (h21:∃ d,FT K mg "_law_rooms" gM ["_law_table_here", "_law_cell"] Yu d)
  (h22:∃ d,FT K mg "_law_posts" kI ["_law_yard", "_law_begins_here", "_law_cells"] Yv d)
  (h23:∃ d,FT K mg "_law_stand" eD ["_law_yard", "_law_lanes_here", "_law_places"] Yw d)
  (h24:∃ d,FT K mg "_law_pulled" kF ["_law_lanes_here", "_law_lane"] Yx d)
  (h25:∃ d,FT K mg "_law_put" sI ["_law_lanes_here", "_law_lane", "_law_piece", "_law_length"] Yy d)
  (h26:∃ d,FT K mg "_law_into" nM ["_law_stand_here", "_law_lanes_here", "_law_lane", "_law_piece", "_law_length"] Yz d)
  (h27:∃ d,FT K mg "_law_behind" kJ ["_law_land", "_law_stand_here", "_law_move", "_law_letters", "_law_sent"] Y1 d)
  (a28:nsIn K mainGlobals "law" = some (some (.ref Ul)))
  (l28:K.lookup Ul=some ⟨UI,UB, .func (fnOf "law" "law" (bL fu) (aH fu) (aj fu) .none NC ND NG N9 IH NJ),UE⟩)
  (c28:codeIn K IH "law" = true)
  (k28:keepIn K (.ref Ul)=true)
  (h29:∃ d,FM K cL "__init__" "Land.__init__" lM ["self", "places", "lanes"] Um d)
  (h30:∃ d,FM K cL "start_of" "Land.start_of" nG ["self", "lane"] Y2 d)
  (h31:∃ d,FM K cL "end_of" "Land.end_of" xG ["self", "lane"] P9 d)
  (h32:∃ d,FM K cL "out_of" "Land.out_of" sw ["self", "place"] Uo d)
  (h33:∃ d,FM K cL "into" "Land.into" lL ["self", "place"] Up d)
  (h34:∃ d,FM K cT "__init__" "TooMany.__init__" O9 ["self", "many"] Uq d)
  (h35:∃ d,FM K cR "__init__" "NoRoad.__init__" OA ["self", "lane"] Ur d)
  (h36:∃ d,FM K cE "__init__" "NoEntry.__init__" OB ["self", "row"] Us d)
  (h37:∃ d,FM K cZ "__init__" "NoWay.__init__" uO ["self", "start", "goal"] Ut d)
  (h38:∃ d,FM K cB "__init__" "Table.__init__" xw ["self", "land"] N8 d)
  (h39:∃ d,FM K cD "__init__" "Told.__init__" sm ["self", "land", "rows"] Uu d)
  (h40:∃ d,FM K cD "ways" "Told.ways" nB ["self", "place", "goal", "came"] f40 d)
  (h41:∃ d,FM K cO "__init__" "Nearer.__init__" sA ["self", "land"] Uv d)
  (h42:∃ d,FM K cO "ways" "Nearer.ways" sj ["self", "place", "goal", "came"] f42 d)
  (h43:∃ d,FM K cA "__init__" "Lane.__init__" xA ["self", "room"] Uw d)
  (h44:∃ d,FM K cA "open_to" "Lane.open_to" sy ["self", "letter", "count"] Y3 d)
  (h45:∃ d,FM K cA "put" "Lane.put" xy ["self", "letter", "count", "last"] Ux d)
  (h46:∃ d,FM K cA "front" "Lane.front" nN ["self"] Y4 d)
  (h47:∃ d,FM K cA "pull" "Lane.pull" so ["self"] Uy d)
  (h48:∃ d,FM K cA "bring" "Lane.bring" nQ ["self"] Uz d)
  (h49:∃ d,FM K cA "told" "Lane.told" x9 ["self"] Y5 d)
  (h50:∃ d,FM K cA "twin" "Lane.twin" x8 ["self"] Y6 d)
  (h51:∃ d,FM K cH "__init__" "Letter.__init__" sG ["self", "start", "goal", "length", "word"] U0 d)
  (h52:∃ d,FM K cH "twin" "Letter.twin" sE ["self"] Y7 d)
  (a53:findIn K (.ref cJ) "__init__" = some (some (.ref IG)))
  (l53:K.lookup IG=some ⟨UJ,UC, .func (fnOf "__init__" "Yard.__init__" (bL il) (aH il) (aj il) (.ref NU) NK NM NN NA II NO),UG⟩)
  (d53:K.lookup NU=some ⟨UL,UN, .seq #[Value.none] UP,US⟩)
  (c53:codeIn K II "Yard.__init__" = true)
  (k53:keepIn K (.ref IG)=true)
  (i53:isFn K (.ref IG)=true)
  (a54:findIn K (.ref cJ) "post" = some (some (.ref J0)))
  (l54:K.lookup J0=some ⟨UK,UD, .func (fnOf "post" "Yard.post" (bL gK) (aH gK) (aj gK) (.ref NV) NP NQ NR NB IJ NS),UH⟩)
  (d54:K.lookup NV=some ⟨UM,UO, .seq #[Value.int 0 UR] UQ,UT⟩)
  (c54:codeIn K IJ "Yard.post" = true)
  (k54:keepIn K (.ref J0)=true)
  (i54:isFn K (.ref J0)=true)
  (h55:∃ d,FM K cJ "moves" "Yard.moves" nI ["self"] Y8 d)
  (h56:∃ d,FM K cJ "moves_in" "Yard.moves_in" lJ ["self", "number"] U1 d)
  (h57:∃ d,FM K cJ "moves_on" "Yard.moves_on" lI ["self", "lane"] U2 d)
  (h58:∃ d,FM K cJ "moves_lie" "Yard.moves_lie" nH ["self", "lane"] U3 d)
  (h59:∃ d,FM K cJ "moves_back" "Yard.moves_back" kH ["self", "lane"] U4 d)
  (h60:∃ d,FM K cJ "wanted" "Yard.wanted" gJ ["self", "lane"] Y9 d)
  (h61:∃ d,FM K cJ "moves_like" "Yard.moves_like" sD ["self", "move"] U5 d)
  (h62:∃ d,FM K cJ "do" "Yard.do" Rk ["self", "move"] YB d)
  (h63:∃ d,FM K cJ "go_in" "Yard.go_in" sK ["self", "number", "lane"] U6 d)
  (h64:∃ d,FM K cJ "enter" "Yard.enter" nP ["self", "piece", "lane"] U7 d)
  (h65:∃ d,FM K cJ "lay" "Yard.lay" xB ["self", "piece", "place"] U8 d)
  (h66:∃ d,FM K cJ "own_lane" "Yard.own_lane" su ["self", "lane"] U9 d)
  (h67:∃ d,FM K cJ "own_letter" "Yard.own_letter" sr ["self", "number"] UA d)
  (h68:∃ d,FM K cJ "lane_told" "Yard.lane_told" nL ["self", "lane"] YC d)
  (h69:∃ d,FM K cJ "letter_told" "Yard.letter_told" sF ["self", "number"] YD d)
  (h70:∃ d,FM K cJ "way_told" "Yard.way_told" sk ["self", "number"] YE d)
  (h71:∃ d,FM K cJ "lying" "Yard.lying" nJ ["self", "place"] YF d)
  (h72:∃ d,FM K cJ "posted" "Yard.posted" kG ["self"] YG d)
  (h73:∃ d,FM K cJ "history" "Yard.history" sJ ["self"] YH d)
  (mp:nsIn K mainGlobals "MOST_PLACES" = some (some (.int 12 t1)))
  (ml:nsIn K mainGlobals "MOST_LANES" = some (some (.int 40 t2)))
  (mr:nsIn K mainGlobals "MOST_ROOM" = some (some (.int 60 t3)))
  (mh:nsIn K mainGlobals "MOST_LENGTH" = some (some (.int 60 t4)))
  (mk:nsIn K mainGlobals "MOST_LETTERS" = some (some (.int 60 t5)))
  (p1cL:plainGet K cL Str.empty=true)
  (p2cL:hasDictIn K cL=true)
  (p3cL:plainOver K cL=true)
  (p4cL:findIn K (.ref cL) "__setattr__" = some (some (.builtin "object.__setattr__")))
  (p5cL:makesIn K cL=true)
  (p6cL:keepIn K (.ref cL)=true)
  (ncLplaces:findIn K (.ref cL) "places" = some none)
  (ncLlanes:findIn K (.ref cL) "lanes" = some none)
  (p1cB:plainGet K cB Str.empty=true)
  (p2cB:hasDictIn K cB=true)
  (p3cB:plainOver K cB=true)
  (p4cB:findIn K (.ref cB) "__setattr__" = some (some (.builtin "object.__setattr__")))
  (p5cB:makesIn K cB=true)
  (p6cB:keepIn K (.ref cB)=true)
  (ncBland:findIn K (.ref cB) "land" = some none)
  (p1cD:plainGet K cD Str.empty=true)
  (p2cD:hasDictIn K cD=true)
  (p3cD:plainOver K cD=true)
  (p4cD:findIn K (.ref cD) "__setattr__" = some (some (.builtin "object.__setattr__")))
  (p5cD:makesIn K cD=true)
  (p6cD:keepIn K (.ref cD)=true)
  (ncDland:findIn K (.ref cD) "land" = some none)
  (ncDentries:findIn K (.ref cD) "entries" = some none)
  (p1cO:plainGet K cO Str.empty=true)
  (p2cO:hasDictIn K cO=true)
  (p3cO:plainOver K cO=true)
  (p4cO:findIn K (.ref cO) "__setattr__" = some (some (.builtin "object.__setattr__")))
  (p5cO:makesIn K cO=true)
  (p6cO:keepIn K (.ref cO)=true)
  (ncOland:findIn K (.ref cO) "land" = some none)
  (ncOentries:findIn K (.ref cO) "entries" = some none)
  (p1cA:plainGet K cA Str.empty=true)
  (p2cA:hasDictIn K cA=true)
  (p3cA:plainOver K cA=true)
  (p4cA:findIn K (.ref cA) "__setattr__" = some (some (.builtin "object.__setattr__")))
  (p5cA:makesIn K cA=true)
  (p6cA:keepIn K (.ref cA)=true)
  (ncArights:findIn K (.ref cA) "rights" = some none)
  (ncAreturning:findIn K (.ref cA) "returning" = some none)
  (ncAholder:findIn K (.ref cA) "holder" = some none)
  (ncApieces:findIn K (.ref cA) "pieces" = some none)
  (p1cH:plainGet K cH Str.empty=true)
  (p2cH:hasDictIn K cH=true)
  (p3cH:plainOver K cH=true)
  (p4cH:findIn K (.ref cH) "__setattr__" = some (some (.builtin "object.__setattr__")))
  (p5cH:makesIn K cH=true)
  (p6cH:keepIn K (.ref cH)=true)
  (ncHstart:findIn K (.ref cH) "start" = some none)
  (ncHgoal:findIn K (.ref cH) "goal" = some none)
  (ncHlength:findIn K (.ref cH) "length" = some none)
  (ncHword:findIn K (.ref cH) "word" = some none)
  (ncHgone:findIn K (.ref cH) "gone" = some none)
  (ncHway:findIn K (.ref cH) "way" = some none)
  (p1cJ:plainGet K cJ Str.empty=true)
  (p2cJ:hasDictIn K cJ=true)
  (p3cJ:plainOver K cJ=true)
  (p4cJ:findIn K (.ref cJ) "__setattr__" = some (some (.builtin "object.__setattr__")))
  (p5cJ:makesIn K cJ=true)
  (p6cJ:keepIn K (.ref cJ)=true)
  (ncJtable:findIn K (.ref cJ) "table" = some none)
  (ncJrooms:findIn K (.ref cJ) "rooms" = some none)
  (ncJlanes:findIn K (.ref cJ) "lanes" = some none)
  (ncJletters:findIn K (.ref cJ) "letters" = some none)
  (ncJlies:findIn K (.ref cJ) "lies" = some none)
  (ncJdone:findIn K (.ref cJ) "done" = some none)
  (x1cN:b5 K cN none=true)
  (x2cN:keepIn K (.ref cN)=true)
  (x1cT:b5 K cT (some (.ref Uq))=true)
  (x2cT:keepIn K (.ref cT)=true)
  (x3cT:i3 K cT=true)
  (x4cT:hasDictIn K cT=true)
  (x5cT:findIn K (.ref cT) "__setattr__" = some (some (.builtin "object.__setattr__")))
  (x6cT:findIn K (.ref cT) "__getattribute__" = some (some (.builtin "BaseException.__getattribute__")))
  (x7cT:findIn K (.ref cT) "__getattr__" = some none)
  (ncTmany:findIn K (.ref cT) "many" = some none)
  (x1cR:b5 K cR (some (.ref Ur))=true)
  (x2cR:keepIn K (.ref cR)=true)
  (x3cR:i3 K cR=true)
  (x4cR:hasDictIn K cR=true)
  (x5cR:findIn K (.ref cR) "__setattr__" = some (some (.builtin "object.__setattr__")))
  (x6cR:findIn K (.ref cR) "__getattribute__" = some (some (.builtin "BaseException.__getattribute__")))
  (x7cR:findIn K (.ref cR) "__getattr__" = some none)
  (ncRlane:findIn K (.ref cR) "lane" = some none)
  (x1cE:b5 K cE (some (.ref Us))=true)
  (x2cE:keepIn K (.ref cE)=true)
  (x3cE:i3 K cE=true)
  (x4cE:hasDictIn K cE=true)
  (x5cE:findIn K (.ref cE) "__setattr__" = some (some (.builtin "object.__setattr__")))
  (x6cE:findIn K (.ref cE) "__getattribute__" = some (some (.builtin "BaseException.__getattribute__")))
  (x7cE:findIn K (.ref cE) "__getattr__" = some none)
  (ncErow:findIn K (.ref cE) "row" = some none)
  (x1cM:b5 K cM none=true)
  (x2cM:keepIn K (.ref cM)=true)
  (x1cP:b5 K cP none=true)
  (x2cP:keepIn K (.ref cP)=true)
  (x1cG:b5 K cG none=true)
  (x2cG:keepIn K (.ref cG)=true)
  (x1cW:b5 K cW none=true)
  (x2cW:keepIn K (.ref cW)=true)
  (x1cZ:b5 K cZ (some (.ref Ut))=true)
  (x2cZ:keepIn K (.ref cZ)=true)
  (x3cZ:i3 K cZ=true)
  (x4cZ:hasDictIn K cZ=true)
  (x5cZ:findIn K (.ref cZ) "__setattr__" = some (some (.builtin "object.__setattr__")))
  (x6cZ:findIn K (.ref cZ) "__getattribute__" = some (some (.builtin "BaseException.__getattribute__")))
  (x7cZ:findIn K (.ref cZ) "__getattr__" = some none)
  (ncZstart:findIn K (.ref cZ) "start" = some none)
  (ncZgoal:findIn K (.ref cZ) "goal" = some none)
  (x1cF:b5 K cF none=true)
  (x2cF:keepIn K (.ref cF)=true)
  (x1cQ:b5 K cQ none=true)
  (x2cQ:keepIn K (.ref cQ)=true)
  (w1cB:PySem.W.readsIn K cB (.type "type")=true)
  (w2cB:PySem.W.findCls K (.ref cB) (.type "type") "__init__" = some (.val (.ref N8)))
  (w3cB:PySem.W.specialIn K (.ref cB) "__getattribute__" = some (some (.builtin "type.__getattribute__")))
  (kk1:kitOne K (.type "int") (.type "int")=some true)
  (kk2:kitOne K (.type "int") (.type "bool")=some false)
  (kk3:kitOne K (.type "bool") (.type "int")=some true)
  (kk4:kitOne K (.type "bool") (.type "bool")=some true)
  (kk5:kitOne K (.type "NoneType") (.type "int")=some false)
  (kk6:kitOne K (.type "str") (.type "str")=some true)
  (kk7:kitOne K (.type "int") (.type "str")=some false)
  (kk8:kitOne K (.type "tuple") (.type "tuple")=some true)
  (kk9:kitOne K (.type "list") (.type "list")=some true)
  (eQ:PySem.W.exmOne K (.ref cQ) (.ref cQ)=some true)
  (z0:nsIn K mainGlobals "isinstance" = some none)
  (z1:nsIn K mainGlobals "int" = some none)
  (z2:nsIn K mainGlobals "bool" = some none)
  (z3:nsIn K mainGlobals "len" = some none)
  (z4:nsIn K mainGlobals "enumerate" = some none)
  (z5:nsIn K mainGlobals "tuple" = some none)
  (z6:nsIn K mainGlobals "range" = some none)
  (z7:nsIn K mainGlobals "list" = some none)
  (z8:nsIn K mainGlobals "all" = some none)
  (z9:nsIn K mainGlobals "abs" = some none)
  (z10:nsIn K mainGlobals "str" = some none)
  (z11:nsIn K mainGlobals "min" = some none)
  : ∃ fd:FuncData,(∀ (s:Shared)(v:Value),BindsTo s fd ⟨[v],[]⟩ [("_law_script",v)])/\∀ base:Heap,K.In base->base.Ns mainGlobals mg->yX l.prog w K mg base aD 10 fa fd ["_law_script"] (oV K):=by
 have e:=Df.symm.trans (mg_of X G a28)
 cases e
 have T:eO mg:=⟨mg_none_of X G z0,mg_none_of X G z1,mg_none_of X G z2,mg_none_of X G z3,mg_none_of X G z4,mg_none_of X G z5,mg_none_of X G z6,mg_none_of X G z7,mg_none_of X G z8,mg_none_of X G z9,mg_none_of X G z10,mg_none_of X G z11⟩
 obtain⟨d1,H1⟩:=h1
 obtain⟨d2,H2⟩:=h2
 obtain⟨d3,H3⟩:=h3
 obtain⟨d4,H4⟩:=h4
 obtain⟨d5,H5⟩:=h5
 obtain⟨d6,H6⟩:=h6
 obtain⟨d7,H7⟩:=h7
 obtain⟨d8,H8⟩:=h8
 obtain⟨d9,H9⟩:=h9
 obtain⟨d10,Eu⟩:=h10
 obtain⟨d11,Jt⟩:=h11
 obtain⟨d12,Iv⟩:=h12
 obtain⟨d13,PB⟩:=h13
 obtain⟨d14,PF⟩:=h14
 obtain⟨d15,IK⟩:=h15
 obtain⟨d16,D8⟩:=h16
 obtain⟨d17,PH⟩:=h17
 obtain⟨d18,PJ⟩:=h18
 obtain⟨d19,PK⟩:=h19
 obtain⟨d20,PL⟩:=h20
 obtain⟨d21,PN⟩:=h21
 obtain⟨d22,PQ⟩:=h22
 obtain⟨d23,PR⟩:=h23
 obtain⟨d24,PU⟩:=h24
 obtain⟨d25,PV⟩:=h25
 obtain⟨d26,PY⟩:=h26
 obtain⟨d27,PZ⟩:=h27
 obtain⟨d29,Qa⟩:=h29
 obtain⟨d30,UU⟩:=h30
 obtain⟨d31,NW⟩:=h31
 obtain⟨d32,J4⟩:=h32
 obtain⟨d33,J5⟩:=h33
 obtain⟨d34,UW⟩:=h34
 obtain⟨d35,UX⟩:=h35
 obtain⟨d36,UY⟩:=h36
 obtain⟨d37,UZ⟩:=h37
 obtain⟨d38,NX⟩:=h38
 obtain⟨d39,Qb⟩:=h39
 obtain⟨d40,Va⟩:=h40
 obtain⟨d41,Qc⟩:=h41
 obtain⟨d42,Vb⟩:=h42
 obtain⟨d43,NY⟩:=h43
 obtain⟨d44,IL⟩:=h44
 obtain⟨d45,Vc⟩:=h45
 obtain⟨d46,IM⟩:=h46
 obtain⟨d47,Vd⟩:=h47
 obtain⟨d48,Ve⟩:=h48
 obtain⟨d49,Vf⟩:=h49
 obtain⟨d50,Vg⟩:=h50
 obtain⟨d51,NZ⟩:=h51
 obtain⟨d52,Vh⟩:=h52
 obtain⟨d55,Vi⟩:=h55
 obtain⟨d56,Vj⟩:=h56
 obtain⟨d57,Vk⟩:=h57
 obtain⟨d58,Vl⟩:=h58
 obtain⟨d59,Vm⟩:=h59
 obtain⟨d60,Vn⟩:=h60
 obtain⟨d61,Vo⟩:=h61
 obtain⟨d62,Vp⟩:=h62
 obtain⟨d63,Vq⟩:=h63
 obtain⟨d64,Oa⟩:=h64
 obtain⟨d65,Vr⟩:=h65
 obtain⟨d66,Vs⟩:=h66
 obtain⟨d67,Vt⟩:=h67
 obtain⟨d68,Vu⟩:=h68
 obtain⟨d69,Vv⟩:=h69
 obtain⟨d70,Vw⟩:=h70
 obtain⟨d71,Vx⟩:=h71
 obtain⟨d72,Ob⟩:=h72
 obtain⟨d73,Vy⟩:=h73
 have F28:=jy (st:=fu) l28 c28 k28
 have F53:Dy K "__init__" "Yard.__init__" il IG _:=⟨⟨_,_,_,_,_,_,_,_,_,_,rfl,l53,c53⟩,k53⟩
 have F54:Dy K "post" "Yard.post" gK J0 _:=⟨⟨_,_,_,_,_,_,_,_,_,_,rfl,l54,c54⟩,k54⟩
 have L:ku K ⟨cN,cT,cR,cL⟩:=⟨⟨p1cL,p2cL,p3cL,p4cL⟩,ncLplaces,ncLlanes⟩
 have xT:gr K cT:=⟨x3cT,x4cT,x5cT,x6cT,x7cT⟩
 have xR:gr K cR:=⟨x3cR,x4cR,x5cR,x6cR,x7cR⟩
 have xE:gr K cE:=⟨x3cE,x4cE,x5cE,x6cE,x7cE⟩
 have xZ:gr K cZ:=⟨x3cZ,x4cZ,x5cZ,x6cZ,x7cZ⟩
 have Z:uz K:=⟨kk1,kk2,kk3,kk4,kk5⟩
 have ZS:Mm K:=⟨kk6,kk7,kk8⟩
 have E:Exc K mg ⟨cN,cT,cR,cL⟩ Uq Ur _ _:=⟨(mg_of X G gcN),x1cN,x2cN,(mg_of X G gcT),x1cT,x2cT,xT,ncTmany,UW.m.fn,UW.F,UW.b,(mg_of X G gcR),x1cR,x2cR,xR,ncRlane,UX.m.fn,UX.F,UX.b⟩
 have B:Rp K mg ⟨cB,cD,cE⟩ N8 Us _ _:=⟨⟨p1cB,p2cB,p3cB,p4cB⟩,ncBland,⟨p1cD,p2cD,p3cD,p4cD⟩,ncDland,ncDentries,(mg_of X G gcB),⟨w1cB,w2cB,w3cB,NX.m.kp⟩,NX.b,(mg_of X G gcE),x1cE,x2cE,xE,ncErow,UY.m.fn,UY.F,UY.b⟩
 have BN:S4 K mg ⟨cB,cO⟩ N8 _:=⟨⟨p1cO,p2cO,p3cO,p4cO⟩,ncOland,ncOentries,(mg_of X G gcB),⟨w1cB,w2cB,w3cB,NX.m.kp⟩,NX.b⟩
 have M:KW K ⟨cN,cT,cR,cL⟩ Uo Up _ _:=⟨J4.m,J5.m,J4.b,J5.b⟩
 have ME:u8 K ⟨cN,cT,cR,cL⟩ P9 _:=⟨NW.m,NW.b⟩
 have Y:∀ ex:List Addr,i5 K ⟨cJ,cA,cH,ex⟩:=fun _=>⟨⟨p1cJ,p2cJ,p3cJ,p4cJ⟩,ncJtable,ncJrooms,ncJlanes,ncJletters,ncJlies,ncJdone,⟨p1cH,p2cH,p3cH,p4cH⟩,ncHstart,ncHgoal,ncHlength,ncHword,ncHgone,ncHway,⟨⟨p1cA,p2cA,p3cA,p4cA⟩,ncArights,ncAreturning,ncAholder,ncApieces⟩⟩
 have eX:uD K mg "NoRooms" cM:=⟨(mg_of X G gcM),x1cM,x2cM⟩
 have X1:uD K mg "NoPlace" cP:=⟨(mg_of X G gcP),x1cP,x2cP⟩
 have X2:uD K mg "NoLength" cG:=⟨(mg_of X G gcG),x1cG,x2cG⟩
 have X3:uD K mg "NoWord" cW:=⟨(mg_of X G gcW),x1cW,x2cW⟩
 have X5:uD K mg "Full" cF:=⟨(mg_of X G gcF),x1cF,x2cF⟩
 have X4:Wz K mg cZ Ut _:=⟨(mg_of X G gcZ),x1cZ,x2cZ,xZ,ncZstart,ncZgoal,UZ.m.fn,UZ.F,UZ.b⟩
 have XM:Le K mg cQ:=⟨(mg_of X G gcQ),x1cQ,x2cQ,eQ⟩
 have T3:=oE (kV:=NK) (doc:=NM) (pm:=NN) (cdv:=II) (ct:=NO) (an:=NA) d53 rfl
 have bp0:=mU (kV:=NP) (doc:=NQ) (pm:=NR) (cdv:=IJ) (ct:=NS) (an:=NB) d54 rfl
 have Mi:Mk K cL Um:=⟨p5cL,Qa.m.at_,Qa.m.fn,p6cL⟩
 have Mt:Mk K cD Uu:=⟨p5cD,Qb.m.at_,Qb.m.fn,p6cD⟩
 have Mn:Mk K cO Uv:=⟨p5cO,Qc.m.at_,Qc.m.fn,p6cO⟩
 have My:Mk K cJ IG:=⟨p5cJ,a53,i53,p6cJ⟩
 have Ma:Mk K cA Uw:=⟨p5cA,NY.m.at_,NY.m.fn,p6cA⟩
 have Mh:Mk K cH U0:=⟨p5cH,NZ.m.at_,NZ.m.fn,p6cH⟩
 have Ml:Lm K ⟨cN,cT,cR,cL⟩ Y2 P9 Uo Up _ _ _ _:=⟨UU.m,UU.b,NW.m,NW.b,J4.m,J4.b,J5.m,J5.b⟩
 refine⟨fnOf "law" "law" (bL fu) (aH fu) (aj fu) .none NC ND NG N9 IH NJ,fun s v => .of_eq rfl,fun base _ _=>?_⟩
 have Gm:yX l.prog w K mg base aD 2 f2 _ _ _:=yf H2.F T H1.m H1.F H1.b
 obtain⟨fw,dw,WG⟩:=both (P:=fun b f d=>Wy K (TC ⟨cB,cD,cE⟩ ⟨cB,cO⟩ b) f d (JJ l.prog w ⟨cB,cD,cE⟩ ⟨cB,cO⟩ b)/\yX l.prog w K mg base aD 3 f d ["self", "place", "goal", "came"] (eC (JJ l.prog w ⟨cB,cD,cE⟩ ⟨cB,cO⟩ b)))
  ⟨⟨⟨p1cO,p2cO,p3cO,p4cO⟩,ncOland,Vb.m,Vb.b,fun H H' x n wy h k=>Jl.keep (n:=n) (wy:=wy) h k⟩,tu Vb.F BN H2.m H2.k H2.b Gm⟩ ⟨⟨⟨p1cD,p2cD,p3cD,p4cD⟩,ncDland,Va.m,Va.b,fun H H' x n wy h k=>BH.keep (n:=n) (wy:=wy) h k⟩,nk (tw Va.F B H2.m H2.k H2.b Gm)⟩
 have Wb:=fun b=>(WG b).1
 have Gb:=fun b=>(WG b).2
 have Gw:yX l.prog w K mg base aD 2 f5 _ _ _:=qw H5.F T H4.m H4.F H4.b
 have Vz:yX l.prog w K mg base aD 2 f5 _ _ _:=nS H5.F T Z H4.m H4.F H4.b
 have GW:yX l.prog w K mg base aD 1 f4 _ _ _:=jK H4.F T Z
 have G2:yX l.prog w K mg base aD 3 f7 _ _ _:=xX H7.F H5.m H5.k H5.b Gw
 have Gi:yX l.prog w K mg base (eR l.prog w) 4 Um _ _ _:=vA Qa.F T L E H5.m H5.k H5.b Gw H7.m H7.k H7.b G2 (mg_of X G mp) (mg_of X G ml)
 have Go:yX l.prog w K mg base aD 2 f6 _ _ _:=yc H6.F T H4.m H4.F H4.b
 have Gf:yX l.prog w K mg base aD 4 f8 _ _ _:=vE H8.F T L M H7.m H7.k H7.b G2 H6.m H6.k H6.b Go (tE J4.F T L) (p9 J5.F T L)
 have G1:yX l.prog w K mg base aD 1 N8 _ _ _:=xY NX.F
 have YI:yX l.prog w K mg base aD 1 f3 _ _ _:=ya H3.F
 have Gt:yX l.prog w K mg base (eR l.prog w) 5 Uu _ _ _:=vi Qb.F T B G1 H8.m H8.k H8.b Gf H3.m H3.k H3.b YI
 have Ge:yX l.prog w K mg base aD 1 P9 _ _ _:=yp NW.F L
 have Gh:yX l.prog w K mg base aD 2 Yl _ _ _:=yn PB.F T L Ml (t7 UU.F L) (p9 J5.F T L)
 have Gnl:yX l.prog w K mg base aD 2 Ym _ _ _:=M3 PF.F T L Ml Ge (tE J4.F T L)
 have Gn:yX l.prog w K mg base aD 3 Uv _ _ _:=vv Qc.F T L BN G1 PB.m PB.k PB.b Gh PF.m PF.k PF.b Gnl H3.m H3.k H3.b YI
 have T2:yX l.prog w K mg base (eR l.prog w) 3 Yj _ _ _:=tD Eu.F T L eX H5.m H5.k H5.b Vz (mg_of X G mr)
 have RB:yX l.prog w K mg base aD 2 O3 _ _ _:=vg Jt.F T H4.m H4.k H4.b GW
 have YJ:yX l.prog w K mg base aD 1 Uw _ _ _:=yk NY.F (Y []).L
 have Glt:yX l.prog w K mg base aD 1 Y5 _ _ _:=yj Vf.F T (Y []).L
 have V0:yX l.prog w K mg base aD 1 Y3 _ _ _:=vt IL.F (Y []).L
 have V1:yX l.prog w K mg base aD 1 Y4 _ _ _:=tL IM.F (Y []).L
 have Gpu:yX l.prog w K mg base (eR l.prog w) 2 Ux _ _ _:=yb Vc.F (Y []).L XM IL.m IL.b V0
 have Gpl:yX l.prog w K mg base (eR l.prog w) 1 Uy _ _ _:=vk Vd.F (Y []).L XM
 have Gbr:yX l.prog w K mg base (eR l.prog w) 1 Uz _ _ _:=tN Ve.F (Y []).L XM
 have Gtw:yX l.prog w K mg base aD 3 Y6 _ _ _:=yi Vg.F T (Y []).L (mg_of X G gcA) Ma NY.b YJ
 have YK:yX l.prog w K mg base aD 1 U0 _ _ _:=yh NZ.F (Y [])
 have Gtx:yX l.prog w K mg base aD 3 Y7 _ _ _:=yg Vh.F T (Y []) (mg_of X G gcH) Mh NZ.b YK
 have Gy:∀ b:Bool,yX l.prog w K mg base (eR l.prog w) 4 IG _ _ _:=fun b=>xW F53 T L (Y []) (Wb b) Eu.m Eu.k Eu.b T2 (mg_of X G gcA) Ma NY.b YJ
 have Gp:∀ b:Bool,yX l.prog w K mg base (eR l.prog w) 4 J0 _ _ (n0 K ⟨cN,cT,cR,cL⟩ (TC ⟨cB,cD,cE⟩ ⟨cB,cO⟩ b) (JJ l.prog w ⟨cB,cD,cE⟩ ⟨cB,cO⟩ b) ⟨cJ,cA,cH,[]⟩ ⟨cP,cG,cW,cZ,cF⟩):=fun b=>vm F54 T L (Y []) (Wb b) (Gb b) H5.m H5.k H5.b Vz Jt.m Jt.k Jt.b RB (mg_of X G gcH) Mh NZ.b YK (mg_of X G mh) (mg_of X G mk) X1 X2 X3 X4 X5
 have Gol:∀ ex:List Addr,yX l.prog w K mg base aD 4 U9 _ _ _:=fun ex=>vo Vs.F (Y ex) Vg.m Vg.b Gtw
 have Got:∀ ex:List Addr,yX l.prog w K mg base aD 4 UA _ _ _:=fun ex=>vn Vt.F (Y ex) Vh.m Vh.b Gtx
 have O:∀ ex:List Addr,Own l.prog w K mg base ⟨cJ,cA,cH,ex⟩ cQ U9 UA Ux _ _ _:=fun ex=>⟨Vs.m,Vs.b,Gol ex,Vt.m,Vt.b,Got ex,Vc.m,Vc.b,Gpu⟩
 have Gly:∀ ex:List Addr,yX l.prog w K mg base aD 1 U8 _ _ _:=fun ex=>yl Vr.F (Y ex)
 have Glg:∀ ex:List Addr,yX l.prog w K mg base aD 1 YF _ _ _:=fun ex=>tH Vx.F T (Y ex)
 have Gen:∀ ex:List Addr,yX l.prog w K mg base aD 5 U7 _ _ _:=fun ex=>tM Oa.F (Y ex) (O ex)
 have Ggi:∀ ex:List Addr,yX l.prog w K mg base aD 6 U6 _ _ _:=fun ex=>vC Vq.F (Y ex) (O ex) Oa.m Oa.b (Gen ex)
 have Gon:∀ b:Bool,yX l.prog w K mg base aD 4 f9 _ _ _:=fun b=>yd H9.F L (Wb b) (Gb b) ME Ge
 have Gmi:∀ (b:Bool)(ex:List Addr),yX l.prog w K mg base aD 4 U1 _ _ (n9 K ⟨cN,cT,cR,cL⟩ (TC ⟨cB,cD,cE⟩ ⟨cB,cO⟩ b) (JJ l.prog w ⟨cB,cD,cE⟩ ⟨cB,cO⟩ b) ⟨cJ,cA,cH,ex⟩):=fun b ex=>vy Vj.F (Y ex) (Wb b) (Gb b) IL.m IL.b V0
 have Gwa:∀ (b:Bool)(ex:List Addr),yX l.prog w K mg base aD 5 Y9 _ _ (jb K ⟨cN,cT,cR,cL⟩ (TC ⟨cB,cD,cE⟩ ⟨cB,cO⟩ b) (JJ l.prog w ⟨cB,cD,cE⟩ ⟨cB,cO⟩ b) ⟨cJ,cA,cH,ex⟩):=fun b ex=>qx Vn.F (Y ex) (Wb b) IM.m IM.b V1 H9.m H9.k H9.b (Gon b)
 have Gmo:∀ (b:Bool)(ex:List Addr),yX l.prog w K mg base aD 6 U2 _ _ (n8 K ⟨cN,cT,cR,cL⟩ (TC ⟨cB,cD,cE⟩ ⟨cB,cO⟩ b) (JJ l.prog w ⟨cB,cD,cE⟩ ⟨cB,cO⟩ b) ⟨cJ,cA,cH,ex⟩):=fun b ex=>vw Vk.F (Y ex) (Wb b) IM.m IM.b V1 Vn.m Vn.b (Gwa b ex) IL.m IL.b V0
 have Gml:∀ (b:Bool)(ex:List Addr),yX l.prog w K mg base aD 2 U3 _ _ _:=fun b ex=>tF Vl.F (Y ex) L (Wb b) IM.m IM.b V1 ME Ge
 have Gmb:∀ (b:Bool)(ex:List Addr),yX l.prog w K mg base aD 1 U4 _ _ (jd K ⟨cN,cT,cR,cL⟩ (TC ⟨cB,cD,cE⟩ ⟨cB,cO⟩ b) (JJ l.prog w ⟨cB,cD,cE⟩ ⟨cB,cO⟩ b) ⟨cJ,cA,cH,ex⟩):=fun b ex=>q5 Vm.F (Y ex)
 have MM:∀ (b:Bool)(ex:List Addr),RZ l.prog w K mg base ⟨cN,cT,cR,cL⟩ (TC ⟨cB,cD,cE⟩ ⟨cB,cO⟩ b) (JJ l.prog w ⟨cB,cD,cE⟩ ⟨cB,cO⟩ b) ⟨cJ,cA,cH,ex⟩ U1 U2 U3 U4 _ _ _ _:=fun b ex=>⟨Vj.m,Vj.b,Gmi b ex,Vk.m,Vk.b,Gmo b ex,Vl.m,Vl.b,Gml b ex,Vm.m,Vm.b,Gmb b ex⟩
 have Gms:∀ (b:Bool)(ex:List Addr),yX l.prog w K mg base aD 7 Y8 _ _ _:=fun b ex=>tG Vi.F T (Y ex) (Wb b) (MM b ex)
 have Gim:yX l.prog w K mg base aD 2 Yk _ _ _:=v9 Iv.F T ZS H4.m H4.k H4.b GW
 have Glk:∀ (b:Bool)(ex:List Addr),yX l.prog w K mg base aD 7 U5 _ _ _:=fun b ex=>v7 Vo.F T (Y ex) (Wb b) (MM b ex) Iv.m Iv.k Iv.b Gim H5.m H5.k H5.b Vz
 have DM:∀ (b:Bool)(ex:List Addr),WU l.prog w K mg base ⟨cN,cT,cR,cL⟩ (TC ⟨cB,cD,cE⟩ ⟨cB,cO⟩ b) (JJ l.prog w ⟨cB,cD,cE⟩ ⟨cB,cO⟩ b) ⟨cJ,cA,cH,ex⟩ cQ U5 U6 U7 Uy Uz U8 _ _ _ _ _ _:=fun b ex=>⟨Vo.m,Vo.b,Glk b ex,Vq.m,Vq.b,Ggi ex,Oa.m,Oa.b,Gen ex,Vd.m,Vd.b,Gpl,Ve.m,Ve.b,Gbr,Vr.m,Vr.b,Gly ex⟩
 have Gdo:∀ (b:Bool)(ex:List Addr),yX l.prog w K mg base (eR l.prog w) 8 YB _ _ _:=fun b ex=>Mq Vp.F (Y ex) L (Wb b) XM (O ex) (DM b ex) ME Ge
 have V2:∀ ex:List Addr,yX l.prog w K mg base aD 2 YC _ _ _:=fun ex=>tK Vu.F (Y ex) Vf.m Vf.b Glt
 have V3:∀ ex:List Addr,yX l.prog w K mg base aD 1 YD _ _ _:=fun ex=>v8 Vv.F (Y ex)
 have Gwt:∀ ex:List Addr,yX l.prog w K mg base aD 1 YE _ _ _:=fun ex=>vh Vw.F T (Y ex)
 have YL:∀ ex:List Addr,yX l.prog w K mg base aD 1 YG _ _ _:=fun ex=>qz Ob.F T (Y ex)
 have Ghi:∀ ex:List Addr,yX l.prog w K mg base aD 1 YH _ _ _:=fun ex=>vB Vy.F T (Y ex)
 have Gc:yX l.prog w K mg base aD 1 Yn _ _ _:=vF IK.F T
 have Qd:yX l.prog w K mg base aD 1 Yo _ _ _:=ye D8.F
 have Gln:yX l.prog w K mg base aD 2 Yp _ _ _:=tJ PH.F T D8.m D8.k D8.b Qd
 have Grw:yX l.prog w K mg base aD 2 Yq _ _ _:=vj PJ.F T D8.m D8.k D8.b Qd
 have Gtb:yX l.prog w K mg base aD 7 Yr _ _ _:=v5 PK.F ⟨IK.m,IK.k,IK.b,Gc,PH.m,PH.k,PH.b,Gln,(mg_of X G gcL),Mi,Qa.b,Gi,(mg_of X G gcO),Mn,Qc.b,Gn,(mg_of X G gcD),Mt,Qb.b,Gt,PJ.m,PJ.k,PJ.b,Grw⟩
 have Gbe:∀ b:Bool,yX l.prog w K mg base aD 4 Yt _ _ _:=fun b=>tO PL.F T L (Wb b) (Gb b)
 have Glr:∀ b:Bool,yX l.prog w K mg base aD 2 Yu _ _ _:=fun b=>qA PN.F T L (Wb b) D8.m D8.k D8.b Qd
 have Glp:∀ b:Bool,yX l.prog w K mg base aD 5 Yv _ _ _:=fun b=>qB PQ.F T (Y []) (Wb b) ⟨a54,i54,k54⟩ bp0 (Gp b)
 have Gsd:∀ ex:List Addr,yX l.prog w K mg base aD 3 Yw _ _ _:=fun ex=>t8 PR.F T (Y ex) Vu.m Vu.b (V2 ex) Vw.m Vw.b (Gwt ex) Ob.m Ob.b (YL ex) Vx.m Vx.b (Glg ex)
 have V4:yX l.prog w K mg base aD 1 Yx _ _ _:=qy PU.F
 have V5:yX l.prog w K mg base aD 1 Yy _ _ _:=v6 PV.F
 have V6:yX l.prog w K mg base aD 2 Yz _ _ _:=tI PY.F T PV.m PV.k PV.b V5
 have Gbh:yX l.prog w K mg base aD 3 Y1 _ _ _:=qC PZ.F T L PY.m PY.k PY.b V6 PU.m PU.k PU.b V4 ME Ge
 exact ym (c:=⟨cN,cT,cR,cL⟩) (ts:=⟨cB,cD,cE⟩) (tn:=⟨cB,cO⟩) (ys:=⟨cJ,cA,cH,[]⟩) (nr:=cM) F28 T kk9 L (Y []) Wb ⟨IK.m,IK.k,IK.b,Gc,D8.m,D8.k,D8.b,Qd,PK.m,PK.k,PK.b,Gtb,PN.m,PN.k,PN.b,Glr,(mg_of X G gcJ),My,T3,Gy,PL.m,PL.k,PL.b,Gbe,PQ.m,PQ.k,PQ.b,Glp,Vv.m,Vv.b,V3 [],Ob.m,Ob.b,YL [],Vi.m,Vi.b,Gms,PR.m,PR.k,PR.b,Gsd,PZ.m,PZ.k,PZ.b,Gbh,Vp.m,Vp.b,Gdo,Vy.m,Vy.b,Ghi⟩
end
theorem walk {l:PySem.W.OpenLaw}{q:Program}{loose:List Str}{XP:(Str->Option Value)->Heap->Prop}{YP:World->Heap->Prop}{d:DefRec}{K:Params->Frag}(hn:l.most=some 63)(Kg:d.params.defaults=[])
  (hY:∀ (w:World)(h:Heap),YP w h->(K w.params).In h)
  (F:∀ (w:World)(mg:Str->Option Value)(fa:Addr)(h:Heap),(K w.params).In h->h.Ns mainGlobals mg->mg d.name=some (.ref fa) ->
   ∃ fd:FuncData,(∀ (s:Shared)(u:Value),BindsTo s fd ⟨[u],[]⟩ [("_law_script",u)])/\∀ base:Heap,(K w.params).In base->base.Ns mainGlobals mg->yX l.prog w (K w.params) mg base aD 10 fa fd ["_law_script"] (oV (K w.params))) :
  PySem.W.WalkO q loose XP YP l.row.toRowW d [] (fun f vs=>PySem.call f vs) :=
 L2.EB (n:=63) (k:=10) (x := "_law_script") (CX:=fun _=>aD) (sp:=fun w=>oV (K w.params)) hn (by decide) Kg ⟨rfl,by decide,by decide⟩ hY F (fun _ _ a ns hl _ hS=>⟨a,ns,rfl,hS,hl,fun _=>rfl⟩) fun _ _ _ _ _ z=>z
end K48
local macro_rules | `(tactic| symm_saturate) => `(tactic| first | (refine' K48.mkT (by assumption) (by assumption) ?b ?a ?l ?c ?k; (case b => first | exact fun _ _ _ _ _ _ => K48.len_of1 (fun _ => rfl) | exact fun _ _ _ _ _ _ => K48.len_of2 (fun _ _ => rfl) | exact fun _ _ _ _ _ _ => K48.len_of3 (fun _ _ _ => rfl) | exact fun _ _ _ _ _ _ => K48.len_of4 (fun _ _ _ _ => rfl) | exact fun _ _ _ _ _ _ => K48.len_of5 (fun _ _ _ _ _ => rfl)); (case a => k_is); (case l => k_is); (case c => k_is); (case k => k_is)) | (refine' K48.mkM ?b ?a ?l ?c ?k ?i; (case b => first | exact fun _ _ _ _ _ _ => K48.len_of1 (fun _ => rfl) | exact fun _ _ _ _ _ _ => K48.len_of2 (fun _ _ => rfl) | exact fun _ _ _ _ _ _ => K48.len_of3 (fun _ _ _ => rfl) | exact fun _ _ _ _ _ _ => K48.len_of4 (fun _ _ _ _ => rfl) | exact fun _ _ _ _ _ _ => K48.len_of5 (fun _ _ _ _ _ => rfl)); (case a => k_is); (case l => k_is); (case c => k_is); (case k => k_is); (case i => k_is)))
structure PySem.W.Fast:Prop where
 (tw11792712879450690900 tw1895789824198365276 tw13490465624018620667 tw1775222080021403217 tw17229829935395914807 tw8795047480824946171 tw16845402375627664546 tw12338319256447830919 tw18320534859830827944 tw10320320941176840534 tw4577723888542318266 tw5082900247441636716 tw9972600117480251292 tw12302432689795569062 tw96579189574610181 tw8128537416524220357 tw1651626962995035697 tw7833438508269717130 tw12816416376650692906 tw4171131205920408127 tw453419067138080996 tw2906633554054020555 tw7641841616282978193 tw3179750184998446963 tw6403996475028174257 tw8054605558824073833 tw2525568468703670738 tw7900500027977462916 tw9317955570878988985 tw4506049716982811085 tw16621511041724704539 tw3786906993161857601 tw16380802303751210649 tw545137941990034248 tw3748027240233240565 tw17679210768399889950 tw4677853659262401230 tw17971687221277417955 tw9706400195016839449 tw9585527616694406121 tw4442356819119154065 tw10586861460323301774 tw10196931291929808929 tw10263472825258962735 tw8121509800827229704 tw8768423300964917304 tw5195562064248407528 tw13638456646381638982 tw3725764303256645206 tw15378074122341602308 tw12552696302159354264 tw10078369758348668532 tw440424140355552540 tw18136703222330240088 tw14171415966450237563 tw7548421632796159594 tw1096329761502999987 tw3188620569273583881 tw12885516189194242196 tw17942447443165769824 tw9659753373204428475 tw18316565412368152184 tw9168007869288215385 tw18048206237598001212 tw17215341842499743523 tw14097266770703826497 tw1420868771530690157 tw10526781584637295578 tw3018399702959405608 tw1624569920001145707 tw4779311043493117573 tw14540061801880606972 tw16212530424555299561 tw14813091608759726686 tw11252677171514641879 tw2290917783202649540 tw16550576661567226972 tw6174458060699661537 tw9858943190953102027 tw15110462570878600534 tw1735666068441914912 tw15881609159376218878 tw8109935342489848833 tw16885123956660752649 tw18392962452082048911 tw4434546122136710665 tw1319667082537388791 tw12846183210794851811 tw6940000245578489500 tw12179939337413921406 tw1600566842360104501 tw1188093514553655728 tw15319626813249610194 tw4015674584956552227 tw7310091465961204790 tw18420695125361912864 tw15427767366809434426 tw12255982934734045567 tw16540950236105792538 tw22410066997689996 tw7042808822814150691 tw17355373664165583673 tw14749182936668497334 tw4504369698456200071 tw4399877882261141056 tw2951160513004591881 tw11504809216265658530 tw10018806815089414568 tw16920932082558568505 tw10968882352191876649 tw10397708490045438533 tw6046939148907399423 tw17965445786356734014 tw12548158965219850762 tw16136963450049925313 tw14526357372976537088 tw8470654761798218043 tw9607315382757622634 tw1263992540936643943 tw12728250450720601709 tw12974236727256703481 tw2259271095747155734 tw5431707665785786595 tw13044398801610996730 tw8587011982103190743 tw15472849749715335015 tw2540132217251163840 tw2415577879938405530 tw11279735901126533579 tw4986243295508492351 tw14217374120467333190 tw15345106876385218930 tw9060981709226907081 tw3934791854319652084 tw14869798760831180088 tw18389690022534724710 tw6354802757061950342 tw1071342493599342715 tw16841833631962384068 tw9983175905230369550 tw2534698608752760974 tw4857144951886734962 tw14662052728261743360 tw5586399436060056295 tw7800239549869592606 tw1190554924292087269 tw9292119943675632046 tw136917262829852967 tw5760379056091045131 tw5778623299930756204 tw18146002035962807067 tw12403494799333414041 tw3152647387652178067 tw6853256002431935216 tw2866267059181177702 tw10849747154937411791 tw8434400742911050229 tw12279899482150009159 tw14042311397671603396 tw13571537536236437957 tw4986702935557391210 tw15746639974986586273 tw5386519710619373111 tw7377859070215864951 tw7001262340381344623 tw14833619669552600919 tw16399238487699074448 tw15609007935555152185 tw1485782579596591451 tw1498968797600513027 tw14087736901470143380 tw2159786401007623090 tw4952871956342599596 tw5320804277749330938 tw9902121066677244870 tw12558759126893578904 tw3872940166957906471 tw15885184085866653508 tw13016208697417010192 tw9042497283919970692 tw2162222044931274834 tw12557430017371098870 tw4191284031947388429 tw17210394570247851281 tw4238435382934924139 tw6087365176312412855 tw17578080491615030864 tw2845376970006111443 tw17747566786541914098 tw8449557414327414427 tw3954827103811951696 tw4052324183691824637 tw6748618138946150771 tw5287607320862254086 tw4547098530109815024 tw12087950857498755109 tw17347375643966703087 tw7382111254060265648 tw9778489939990166151 tw15688242161195888592 tw6560668553870630339 tw8629566501557983655 tw6673796728193010559 tw10438022861865954093 tw4328868814497653832 tw5518425787305872872 tw7440672422933483428 tw2486137375739687005 tw9962134599200260981 tw17875830241329084508 tw13798560925325037398 tw11563277350575839546 tw5974075629723641037 tw354065976538645672 tw13106285313338304708 tw7263718764454092104 tw8134390315496271660 tw15889919508487499613 tw716739926665029432 tw18410232394619179861 tw10609729986339514797 tw5797715866637137378 tw10646426741182344779 tw11302338430346187318 tw34822136761378757 tw9755965946042348017 tw8365991797539238615 tw14409171045232040934 tw9173796061101534245 tw15162850126313116417 tw8634260812799027904 tw4954475401173104627 tw15273816844303366670 tw829978718780310281 tw5147282824573134879 tw8696923892708338167 tw17129349004602254619 tw18173988191093432895 tw9474809529113687463 tw16113167365975819499 tw13801243721874144035 tw12303167193892527551 tw17846114369084272704 tw6850893946960622034 tw9985358539515316965 tw3492378992666092676 tw14579686000714331028 tw3693213077541734433 tw4702955718430731753 tw9383131338079509921 tw12909089302540700946 tw9905345253106148818 tw7298576998075686326 tw5196058207664264872 tw16508165397374565611 tw1637754322522496499 tw6208009218823525112 tw3906160815264402539 tw1569900656670378777 tw1740860807645255778 tw15655669993436247765 tw15348876927975312975 tw11850439286533876722 tw18099552249184363626 tw14864772791575662120 tw1760976652358776912 tw10587855794854287814 tw2105659872431130170 tw16318514527727573975 tw18272105090079273534 tw13367584692869752251 tw15755643859145659281 tw13950689624605238639 tw11484898937505961597 tw9914596407631633604 tw10970801077928193608 tw3838832431642306483 tw10664051661635811986 tw12157855222837980772 tw11065662059274406377 tw16451271751055978012 tw6970436109836294944 tw606263601807418032 tw5402004775227382077 tw3353904693843099392 tw17616668152510732936 tw1395170078379895823 tw2261316870059139085 tw558113598096147531 tw16805751559183804353 tw10151520062925164559 tw9400040051222578034 tw6295184174082608539 tw2668864462203304621 tw3016452076379976742 tw4987600820185107171 tw12362473876511829938 tw11781267518280981828 tw13591245719238817522 tw15278865448470744041 tw1781155537273509816 tw8309801250282457070 tw6948070761112487082 tw6033916115819369847 tw13619066122195908998 tw14821297136250497671 tw4034826836191228286 tw10399424014495048658 tw16162853332511030493 tw52811322484920799 tw15117596634728722721 tw418308787726785686 tw16011420643758065802 tw16156568218869333633 tw15255611695951436136 tw18001368876494544462 tw16526365752962156148 tw6530177022599406310 tw2776746718121343270 tw7341993917598731495 tw18000688921874985590 tw3607480205187210438 tw6498817804407955656 tw747541602329631841 tw16189674882358073657 tw15950185867878142927 tw7517875244071328026 tw16581499201029127054 tw17271507874150328017 tw11074661756868718746 tw4395169961421967467 tw9351374985786851656 tw3740432071920872597 tw9198190955075426648 tw472935310846725077 tw2572771136360528756 tw14948102172524468008 tw6442057430874153725 tw12355373571760944681 tw15366612769176399200 tw14315345854461422693 tw10944516800613586189 tw13870734272161333915 tw14364108478729560855 tw11254787975767498810 tw5720230663315151129 tw16992788175356298256 tw10014197255010359319 tw8867917250500924952 tw7500291491396254920 tw18381976557810562978 tw12923771562955553180 tw6328280967601492385 tw1312798644197387437 tw8061151570312776908 tw5160646884360660949 tw4486697563413235152 tw14402013087720234742 tw15934909844082747021 tw9364700767942360859 tw358183993540043642 tw3263357323438459083 tw11032608770829831087 tw16928362661328278983 tw13561860157064582559 tw14956316500318083992 tw6306499926235190438 tw6298864089058432793 tw15241079987647835981 tw13318994809728692328 tw11600298185720397965 tw9394118805140055565 tw809658890660363781 tw7067560991899350026 tw10471710022290760995 tw5615506586861126160 tw4048805810924507100 tw9223234796747123105 tw13412591505769832858 tw17642414079220151282 tw7409287221474549990 tw12464953950060983096 tw3147488558026999750 tw8249810471758263896 tw12399560183267661553 tw14668742259912945043 tw11648488130539862450 tw14467314873446660688 tw6515484353463854406 tw2633476578232024200 tw11885209762036820877 tw8668615013772369414 tw906803441254449005 tw4327475990366645702 tw9456837349056619615 tw11350928513817058412 tw9089321730350570174 tw5021681460340846245 tw18150062509456953838 tw5753983495472661076 tw14805597797090099177 tw10268614499575608613 tw13800762219394356955 tw8920290174109884412 tw2156114082045920237 tw4970101007438249565 tw174449033723879016 tw4753723439100277201 tw9801327030808594409 tw15518452972952091300 tw14996028567108539789 tw17034652111907780924 tw681128418704960260 tw9174767104474400860 tw13929564985635466857 tw138913304486309729 tw16920605881323224836 tw15532436117319762168 tw4455399829409095649 tw3342867416538059422 tw15238576635011766747 tw1503016247685989082 tw16025349340076605100 tw694126347588779003 tw16084242779606173106 tw12711916405334786457 tw12662872783341527773 tw8218933013786724632 tw16463279377790068627 tw438994669997070361 tw11865363118459909235 tw706893625532887358 tw17807993889362595524 tw6362622377758084746 tw1779972878480702876 tw13846666668016348379 tw10777597855440370179 tw7055695188357660246 tw8958709585772816377 tw17374867102272443959 tw6895750056438550056 tw13584646546181019366 tw7094426718221755163 tw6958189074949389477 tw6944643810402990756 tw6792053876557272650 tw18307308036863664036 tw17373351017767148896 tw2277502595888733322 tw4414141740681096210 tw6747185474909597409 tw2383681261409457049 tw11002824265810639314 tw8770080570626035492 tw12141029318809919251 tw13327680913169421172 tw18040480327779605586 tw157448967611681933 tw11001032255937930485 tw16738148411777352547 tw10373407395872289159 tw7305488098570434280 tw18021898559033967219 tw12379480453889000961 tw15017214484160026728 tw7376441529425250168 tw9123943394246908677 tw8496946137868785920 tw5446148053568595860 tw277039874003600101 tw13044122691817982076 tw14230949242083859130 tw9160327904468902643 tw2634323203133399893 tw7958299052421917037 tw16690842255290165037 tw15133368150104727332 tw11026672480658535454 tw5818032204887156726 tw470299885338019424 tw8495782815941143521 tw7377641817354599627 tw702641352422723719 tw5033620544626591317 tw2220639931750053030 tw18127777278256260604 tw17575930987949287569 tw754431809090696716 tw2872771497165693338 tw13079943694764216966 tw17220805931814417409 tw2602052052807802550 tw7296707475574228582 tw6156279260649982857 tw609584951861912632 tw5039109689465054527 tw3575786808673939005 tw3491965771340087989 tw1898706734551820820 tw1507674060780805653 tw13915949885176454264 tw10532131402799374913 tw594695513362143374 tw321393213855705272 tw2069604592763132811 tw13662393534059061230 tw9420507741838618431 tw545790985120866082 tw16980441635118241287 tw8834799858443431947 tw2509074310585482846 tw13795774490674876538 tw9689447094948866033 tw5028795570253492449 tw12561741920570397038 tw8225930666515275551 tw14354275319194900325 tw13753419966304277256 tw13724866845997020850 tw13481898816843629844 tw13104041376808141633 tw17710872798102955603 tw5713720887170359717 tw4925938446711185472 tw1999653507966672334 tw1721300975223086476 tw13679221830310157375 tw11943799061628707292 tw10487123252197181369 tw6895816124734828440 tw7882793202403261435 tw13742812304926621361 tw4070587723309174213 tw400520419869875713 tw6127162625095725285 tw8723054312291303824 tw3972593562012684995 tw3020466206176784449 tw17977639757010649342 tw16776577965707379638 tw16061020538986418790 tw14699706390846764631 tw14336911108898375890 tw12948903675657022152 tw11725834275979497392 tw10603322516543685435 tw10136597714649661891 tw17763341674180893479 tw8920209297160273781 tw9761296668418905592 tw964705578729432334 tw8658319838108999740 tw7344006133737614654 tw6891731118326700868 tw6032213737495887161 tw2737190196276188670 tw18129260767111203015 tw17417998974361518822 tw16743029853854776238 tw16311162251501987213 tw16084066078065402739 tw1433488079481822696 tw14116925034104008832 tw12578537913727761 tw11854277371554475537 tw1149564917056446281 tw11329022810612586856 tw11138053783409921981 tw10403986618650782591 tw9917437787986738031 tw9518705558787998674 tw9184414541766256491 tw7209139981814631326 tw7016051515552702804 tw4742405499629475536 tw2890096789652838566 tw18229737159266376584 tw16093026313687953100 tw15779159277220666097 tw15576622002250089814 tw13973956627260859238 tw13565877045414841499 tw1308922306289981903 tw12341865947014272405 tw12205130242389410237 tw11981084522582074722 tw1091698517688417686 tw10455473633066957666 tw13543944802402283387 tw8136258024512179776 tw15628603776940615147 tw9286428643582183717 tw9278106274688817848 tw8061916759985492181 tw7688109588989080061 tw5944010644671753570 tw3023090592050355961 tw18296940248505836445 tw17669703094372991342 tw1413710236518948732 tw13190561269513578521 tw12975586269841926383 tw12531868667873296367 tw10295161616209914098 tw9733103871999809395 tw9136468319043154955 tw7158455565120419959 tw5920758999481939845 tw3954635319907324645 tw3882000225673603358 tw382030527617783115 tw313245558546672019 tw304264482127242433 tw2510981305182996422 tw1936812223998164313 tw17510241424767054061 tw16259367410553507965 tw16240628128062388427 tw15049390496246130521 tw12824406104081479963 tw12529859967486013444 tw12124629862135841417 tw11153023094479553196 tw274758385984026172 tw12910727623201891182 tw9998654138157298192 tw9922882240184895791 tw9922371580047765385 tw9913461626138418161 tw9911191440638682941 tw9872393901423722412 tw9785237889703754655 tw9686003397146937589 tw9660932301965693342 tw9602388519051403964 tw9555856692318744838 tw9534464681769407638 tw9393968614119160445 tw932513695967397483 tw9119009765600134125 tw9116330233416103919 tw8729057888076983542 tw8728676471374106619 tw8721600112929929074 tw8686193102998485624 tw8682778621484635828 tw8659831615397051591 tw8655047980443350341 tw8410647815252274457 tw8361694172895477122 tw8299911814967515069 tw805233791729717244 tw8042203897980411098 tw7885306927572020603 tw7864588639745998077 tw7629919188443841912 tw7617877776350535376 tw7121896063429554055 tw7089308132702466041 tw708394219226259622 tw6674163095312787851 tw6668201671675867167 tw6584636782662974444 tw6376691018405864462 tw636879796435292283 tw6365521998225174025 tw6351987932965904353 tw6160740786115380504 tw6153070594481701107 tw5987640488324340301 tw5875633572656427357 tw5856572168041719878 tw5808074630407132328 tw5614264898816038927 tw5454618783706346687 tw5392488054411173972 tw5326524730382342764 tw5207249396483543899 tw5106026122019225578 tw4969642452209901567 tw4968757357165053615 tw491534129768642083 tw4864327211321293044 tw4621600466765386135 tw4607849413963489844 tw452907882304060828 tw4460550508869405000 tw4436136196632997758 tw4375440059615959340 tw390262972878407974 tw3828465816164281084 tw368955914554282131 tw3682668536984024249 tw3664592287255662471 tw3622188114785759524 tw3560620892093706889 tw3544154490655211462 tw3312164490813119821 tw31453387739307273 tw3088475836353407547 tw3003991474690370780 tw2949605791461832319 tw2917860542039360240 tw2881733330571027040 tw2874532519674009590 tw2830103046976943601 tw2724000689213940070 tw2394520537373050604 tw2355963804220103546 tw2321722196756931578 tw2312455806021092757 tw2241359348654481531 tw2223246847262066142 tw2221553076365309638 tw2151844928933992072 tw2085898277005086165 tw1980687758289766974 tw1920292339828033999 tw18423321125846027962 tw18200875048925114581 tw18181801333296823294 tw18119582241258013454 tw18088480136611578185 tw1802747975911257195 tw1785250064340761316 tw17852483837672709413 tw1784270316417660770 tw17798801227035936018 tw17772356332873537951 tw17756233435544964793 tw17682456841060092538 tw17652571234084359857 tw1761813134611246045 tw17530257159065260827 tw17514744224368455955 tw17392242413382702283 tw17382832123664910266 tw17367338894859521734 tw17357285541040657554 tw17208870417127610680 tw17103381175658455775 tw170361725468163556 tw16853601509475003620 tw16784994548062677085 tw16752480618259542007 tw16722869000411782232 tw1670231096639887082 tw16361396791566526568 tw16258598907910583739 tw16162928241051742456 tw15966275515736759479 tw15889063153583700450 tw15876464094945041437 tw15820718016810816616 tw15758368260861041168 tw15640231398511913593 tw15586968711704170982 tw15382386026226327927 tw15370373988856159142 tw1535304886210661747 tw15264857420822200166 tw15189012835760862336 tw15109844611015314499 tw15092017454762382533 tw15083456493794036893 tw15079010339963332649 tw15054325051580496336 tw14940102853295240473 tw14918185292548965671 tw14768393859273768906 tw14506676760233850685 tw14286846330548520438 tw141535863362457164 tw14050416433971913049 tw13970391386477712542 tw13730996819401888911 tw13674954488412467968 tw13560622818669399943 tw13507746777465496055 tw13471383499447092695 tw1347122927546342288 tw1329457030441035056 tw13191745349224014583 tw13125559785026991718 tw13106122927975108266 tw13081141375783455255 tw13069841867783033646 tw1306799440863360939 tw12998779903875132422 tw12996742469767844187 tw12939098270475361831 tw12915178835150553159 tw12892459476909292882 tw12712543283065491718 tw12625913116039974829 tw12563235490304466641 tw12409119645565443367 tw12322333743996685485 tw12315820058352724657 tw12310520114307955763 tw12172238016791855418 tw12046426265680625139 tw11936138560879130844 tw11894443676475773505 tw11846192176368533719 tw11637443740137786247 tw11561523199787263836 tw11434326878409825825 tw11259023855357458458 tw11200229787383943561 tw1113448403266069881 tw10835763332445166108 tw10749416364050674646 tw10595031329077140963 tw10226211759249723993 tw10213682404333828823 tw10206899837044052267 tw10145070426052391170 tw10063943497690678758:True)
open PySem PySem.W PyProof.Rows
set_option maxRecDepth 100000 in
set_option maxHeartbeats 0 in
theorem PySem.Challenge.cw_wormyard_k48_moves_made_holds : PySem.Challenge.rw_wormyard_k48_moves_made.Holds := by
 w_on;o_law;k_head; (case hw=>w_witness2)
 k_fill
 refine K48.walk (l:=PySem.Challenge.rw_wormyard_k48_moves_made) rfl rfl (fun w h Y=>PySem.W.kIn_of Y) ?F
 case F =>
  intro w mg fa h KX G hmg
  refine' K48.all_mk KX G hmg ?gcL ?gcN ?gcT ?gcR ?gcE ?gcB ?gcD ?gcO ?gcM ?gcP ?gcG ?gcW ?gcZ ?gcF ?gcQ ?gcA ?gcH ?gcJ ?h1 ?h2 ?h3 ?h4 ?h5 ?h6 ?h7 ?h8 ?h9 ?h10 ?h11 ?h12 ?h13 ?h14 ?h15 ?h16 ?h17 ?h18 ?h19 ?h20 ?h21 ?h22 ?h23 ?h24 ?h25 ?h26 ?h27 ?a28 ?l28 ?c28 ?k28 ?h29 ?h30 ?h31 ?h32 ?h33 ?h34 ?h35 ?h36 ?h37 ?h38 ?h39 ?h40 ?h41 ?h42 ?h43 ?h44 ?h45 ?h46 ?h47 ?h48 ?h49 ?h50 ?h51 ?h52 ?a53 ?l53 ?d53 ?c53 ?k53 ?i53 ?a54 ?l54 ?d54 ?c54 ?k54 ?i54 ?h55 ?h56 ?h57 ?h58 ?h59 ?h60 ?h61 ?h62 ?h63 ?h64 ?h65 ?h66 ?h67 ?h68 ?h69 ?h70 ?h71 ?h72 ?h73 ?mp ?ml ?mr ?mh ?mk ?p1cL ?p2cL ?p3cL ?p4cL ?p5cL ?p6cL ?ncLplaces ?ncLlanes ?p1cB ?p2cB ?p3cB ?p4cB ?p5cB ?p6cB ?ncBland ?p1cD ?p2cD ?p3cD ?p4cD ?p5cD ?p6cD ?ncDland ?ncDentries ?p1cO ?p2cO ?p3cO ?p4cO ?p5cO ?p6cO ?ncOland ?ncOentries ?p1cA ?p2cA ?p3cA ?p4cA ?p5cA ?p6cA ?ncArights ?ncAreturning ?ncAholder ?ncApieces ?p1cH ?p2cH ?p3cH ?p4cH ?p5cH ?p6cH ?ncHstart ?ncHgoal ?ncHlength ?ncHword ?ncHgone ?ncHway ?p1cJ ?p2cJ ?p3cJ ?p4cJ ?p5cJ ?p6cJ ?ncJtable ?ncJrooms ?ncJlanes ?ncJletters ?ncJlies ?ncJdone ?x1cN ?x2cN ?x1cT ?x2cT ?x3cT ?x4cT ?x5cT ?x6cT ?x7cT ?ncTmany ?x1cR ?x2cR ?x3cR ?x4cR ?x5cR ?x6cR ?x7cR ?ncRlane ?x1cE ?x2cE ?x3cE ?x4cE ?x5cE ?x6cE ?x7cE ?ncErow ?x1cM ?x2cM ?x1cP ?x2cP ?x1cG ?x2cG ?x1cW ?x2cW ?x1cZ ?x2cZ ?x3cZ ?x4cZ ?x5cZ ?x6cZ ?x7cZ ?ncZstart ?ncZgoal ?x1cF ?x2cF ?x1cQ ?x2cQ ?w1cB ?w2cB ?w3cB ?kk1 ?kk2 ?kk3 ?kk4 ?kk5 ?kk6 ?kk7 ?kk8 ?kk9 ?eQ ?z0 ?z1 ?z2 ?z3 ?z4 ?z5 ?z6 ?z7 ?z8 ?z9 ?z10 ?z11
  (case gcL=>k_is)
  (case gcN=>k_is)
  (case gcT=>k_is)
  (case gcR=>k_is)
  (case gcE=>k_is)
  (case gcB=>k_is)
  (case gcD=>k_is)
  (case gcO=>k_is)
  (case gcM=>k_is)
  (case gcP=>k_is)
  (case gcG=>k_is)
  (case gcW=>k_is)
  (case gcZ=>k_is)
  (case gcF=>k_is)
  (case gcQ=>k_is)
  (case gcA=>k_is)
  (case gcH=>k_is)
  (case gcJ=>k_is)
  (case h1=>symm_saturate)
  (case h2=>symm_saturate)
  (case h3=>symm_saturate)
  (case h4=>symm_saturate)
  (case h5=>symm_saturate)
  (case h6=>symm_saturate)
  (case h7=>symm_saturate)
  (case h8=>symm_saturate)
  (case h9=>symm_saturate)
  (case h10=>symm_saturate)
  (case h11=>symm_saturate)
  (case h12=>symm_saturate)
  (case h13=>symm_saturate)
  (case h14=>symm_saturate)
  (case h15=>symm_saturate)
  (case h16=>symm_saturate)
  (case h17=>symm_saturate)
  (case h18=>symm_saturate)
  (case h19=>symm_saturate)
  (case h20=>symm_saturate)
  (case h21=>symm_saturate)
  (case h22=>symm_saturate)
  (case h23=>symm_saturate)
  (case h24=>symm_saturate)
  (case h25=>symm_saturate)
  (case h26=>symm_saturate)
  (case h27=>symm_saturate)
  (case a28=>k_is)
  (case l28=>k_is)
  (case c28=>k_is)
  (case k28=>k_is)
  (case h29=>symm_saturate)
  (case h30=>symm_saturate)
  (case h31=>symm_saturate)
  (case h32=>symm_saturate)
  (case h33=>symm_saturate)
  (case h34=>symm_saturate)
  (case h35=>symm_saturate)
  (case h36=>symm_saturate)
  (case h37=>symm_saturate)
  (case h38=>symm_saturate)
  (case h39=>symm_saturate)
  (case h40=>symm_saturate)
  (case h41=>symm_saturate)
  (case h42=>symm_saturate)
  (case h43=>symm_saturate)
  (case h44=>symm_saturate)
  (case h45=>symm_saturate)
  (case h46=>symm_saturate)
  (case h47=>symm_saturate)
  (case h48=>symm_saturate)
  (case h49=>symm_saturate)
  (case h50=>symm_saturate)
  (case h51=>symm_saturate)
  (case h52=>symm_saturate)
  (case a53=>k_is)
  (case l53=>k_is)
  (case d53=>k_is)
  (case c53=>k_is)
  (case k53=>k_is)
  (case i53=>k_is)
  (case a54=>k_is)
  (case l54=>k_is)
  (case d54=>k_is)
  (case c54=>k_is)
  (case k54=>k_is)
  (case i54=>k_is)
  (case h55=>symm_saturate)
  (case h56=>symm_saturate)
  (case h57=>symm_saturate)
  (case h58=>symm_saturate)
  (case h59=>symm_saturate)
  (case h60=>symm_saturate)
  (case h61=>symm_saturate)
  (case h62=>symm_saturate)
  (case h63=>symm_saturate)
  (case h64=>symm_saturate)
  (case h65=>symm_saturate)
  (case h66=>symm_saturate)
  (case h67=>symm_saturate)
  (case h68=>symm_saturate)
  (case h69=>symm_saturate)
  (case h70=>symm_saturate)
  (case h71=>symm_saturate)
  (case h72=>symm_saturate)
  (case h73=>symm_saturate)
  (case mp=>k_is)
  (case ml=>k_is)
  (case mr=>k_is)
  (case mh=>k_is)
  (case mk=>k_is)
  (case p1cL=>k_is)
  (case p2cL=>k_is)
  (case p3cL=>k_is)
  (case p4cL=>k_is)
  (case p5cL=>k_is)
  (case p6cL=>k_is)
  (case ncLplaces=>k_is)
  (case ncLlanes=>k_is)
  (case p1cB=>k_is)
  (case p2cB=>k_is)
  (case p3cB=>k_is)
  (case p4cB=>k_is)
  (case p5cB=>k_is)
  (case p6cB=>k_is)
  (case ncBland=>k_is)
  (case p1cD=>k_is)
  (case p2cD=>k_is)
  (case p3cD=>k_is)
  (case p4cD=>k_is)
  (case p5cD=>k_is)
  (case p6cD=>k_is)
  (case ncDland=>k_is)
  (case ncDentries=>k_is)
  (case p1cO=>k_is)
  (case p2cO=>k_is)
  (case p3cO=>k_is)
  (case p4cO=>k_is)
  (case p5cO=>k_is)
  (case p6cO=>k_is)
  (case ncOland=>k_is)
  (case ncOentries=>k_is)
  (case p1cA=>k_is)
  (case p2cA=>k_is)
  (case p3cA=>k_is)
  (case p4cA=>k_is)
  (case p5cA=>k_is)
  (case p6cA=>k_is)
  (case ncArights=>k_is)
  (case ncAreturning=>k_is)
  (case ncAholder=>k_is)
  (case ncApieces=>k_is)
  (case p1cH=>k_is)
  (case p2cH=>k_is)
  (case p3cH=>k_is)
  (case p4cH=>k_is)
  (case p5cH=>k_is)
  (case p6cH=>k_is)
  (case ncHstart=>k_is)
  (case ncHgoal=>k_is)
  (case ncHlength=>k_is)
  (case ncHword=>k_is)
  (case ncHgone=>k_is)
  (case ncHway=>k_is)
  (case p1cJ=>k_is)
  (case p2cJ=>k_is)
  (case p3cJ=>k_is)
  (case p4cJ=>k_is)
  (case p5cJ=>k_is)
  (case p6cJ=>k_is)
  (case ncJtable=>k_is)
  (case ncJrooms=>k_is)
  (case ncJlanes=>k_is)
  (case ncJletters=>k_is)
  (case ncJlies=>k_is)
  (case ncJdone=>k_is)
  (case x1cN=>kernel_rfl)
  (case x2cN=>k_is)
  (case x1cT=>kernel_rfl)
  (case x2cT=>k_is)
  (case x3cT=>kernel_rfl)
  (case x4cT=>k_is)
  (case x5cT=>k_is)
  (case x6cT=>k_is)
  (case x7cT=>k_is)
  (case ncTmany=>k_is)
  (case x1cR=>kernel_rfl)
  (case x2cR=>k_is)
  (case x3cR=>kernel_rfl)
  (case x4cR=>k_is)
  (case x5cR=>k_is)
  (case x6cR=>k_is)
  (case x7cR=>k_is)
  (case ncRlane=>k_is)
  (case x1cE=>kernel_rfl)
  (case x2cE=>k_is)
  (case x3cE=>kernel_rfl)
  (case x4cE=>k_is)
  (case x5cE=>k_is)
  (case x6cE=>k_is)
  (case x7cE=>k_is)
  (case ncErow=>k_is)
  (case x1cM=>kernel_rfl)
  (case x2cM=>k_is)
  (case x1cP=>kernel_rfl)
  (case x2cP=>k_is)
  (case x1cG=>kernel_rfl)
  (case x2cG=>k_is)
  (case x1cW=>kernel_rfl)
  (case x2cW=>k_is)
  (case x1cZ=>kernel_rfl)
  (case x2cZ=>k_is)
  (case x3cZ=>kernel_rfl)
  (case x4cZ=>k_is)
  (case x5cZ=>k_is)
  (case x6cZ=>k_is)
  (case x7cZ=>k_is)
  (case ncZstart=>k_is)
  (case ncZgoal=>k_is)
  (case x1cF=>kernel_rfl)
  (case x2cF=>k_is)
  (case x1cQ=>kernel_rfl)
  (case x2cQ=>k_is)
  (case w1cB=>first | k_is | kernel_rfl)
  (case w2cB=>first | k_is | kernel_rfl)
  (case w3cB=>first | k_is | kernel_rfl)
  (case kk1=>kit_is)
  (case kk2=>kit_is)
  (case kk3=>kit_is)
  (case kk4=>kit_is)
  (case kk5=>kit_is)
  (case kk6=>kit_is)
  (case kk7=>kit_is)
  (case kk8=>kit_is)
  (case kk9=>kit_is)
  (case eQ=>kts_exm)
  (case z0=>k_is)
  (case z1=>k_is)
  (case z2=>k_is)
  (case z3=>k_is)
  (case z4=>k_is)
  (case z5=>k_is)
  (case z6=>k_is)
  (case z7=>k_is)
  (case z8=>k_is)
  (case z9=>k_is)
  (case z10=>k_is)
  (case z11=>k_is)
