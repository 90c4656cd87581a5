import PyProof.Rows.All
import Wide.All
import OpenK.AllK
import Wide.FinOn
import Lean
import PyProof.EqAt
import PyProof.EqKinds
import PyProof.TupleCall
import PyProof.ExcBaseAll.ValueError
import PyProof.EnumMake
import PyProof.Rows.EnumRows
import PyProof.TupleIter
import PyProof.DictValues
import PyProof.CollectStr
import PySem.Builtin.Int.W1All
import PyProof.DictRoadsH
import PyProof.DictKinds
import PyProof.FactsAll.NoneType
import KE.KRevIter
import PyProof.FactsAll.list_3
import KE.KDictList
import PyProof.DictIter
import PyProof.DictWalks
import PyProof.ListRange
import PyProof.Rows.SumAny
import PyProof.Rows.SeqCalls
import PyProof.P3In
import PyProof.DictItems
import KE.KPairComp
import PyProof.FactsAll.dict_3
import PyProof.CollectIter
import PyProof.TupleOfGen
import PyProof.TupleOfSeq
import PyProof.FactsAll.subtypes_4
import PyProof.ZipIter
import KE.KDictLaws
import PyProof.DictRoadsH
import PyProof.Rows.TupDisplay
import PySem.Challenge.RW_wormyard_k70_whole_all_stands
set_option compiler.extract_closed false
set_option Elab.async false
set_option linter.all false
set_option maxRecDepth 100000
set_option maxHeartbeats 4000000
theorem η0(h:1=1:=by rfl):1=1:=h
def η:=η0._auto_1
theorem θ0(h:1=1:=by decide):1=1:=h
def θ:=θ0._auto_1
theorem ζ0(h:1=1:=by first | exact .inl rfl | exact .inr rfl | assumption):1=1:=h
def ζ:=ζ0._auto_1
theorem ξ0(h:1=1:=by decide +kernel):1=1:=h
def ξ:=ξ0._auto_1
theorem ψ0(h:1=1:=by intro _;rfl):1=1:=h
def ψ:=ψ0._auto_1
open PySem.W (Frag keepIn findIn fnOf codeIn nsIn mg_of isFn kitOne hasDictIn mg_none_of plainGet plainOver makesIn)
open List (getElem?_eq_getElem getElem?_map getElem?_append_left find?_cons getElem?_set_ne getElem?_concat_length getElem?_append_right all_cons all_eq_true all_map any_cons append_assoc append_nil eq_of_mem_replicate filterMap_cons filter_append forIn_cons getD_eq_getElem?_getD getElem_map getElem_mem length_append length_cons length_drop length_filter_le length_map length_range length_replicate length_reverse length_set length_singleton length_take length_take_le lookup_cons map_append map_congr_left map_cons map_map map_nil map_take mem_append mem_append_left mem_append_right mem_cons mem_cons_of_mem mem_cons_self mem_filter mem_flatMap mem_map mem_of_getElem? mem_of_head? mem_of_mem_take mem_range mem_reverse mem_singleton nil_append nodup_cons nodup_nil not_mem_nil of_mem_zip range_succ size_toArray sum_cons take_length take_succ zip_cons_cons)
open Nat (add_assoc le_of_eq le_of_lt le_refl le_succ le_trans lt_irrefl lt_of_le_of_lt lt_of_lt_of_le lt_succ_of_lt lt_succ_self lt_trichotomy min_eq_left ne_of_gt ne_of_lt zero_le zero_lt_one)
open Int (emod_lt_of_pos emod_nonneg toNat_natCast zero_add)
open PySem.F (args_tuple_add_2 entry_tuple_add plainAttrs_list slot_list_extend slot_tuple_add type_list_extend)
open PySem.Heap (lt_size size_push)
noncomputable section
abbrev L2.zQ0:PySem.Scope:={kind:=.function,names:=[],isGenerator:=false,isCoroutine:=false}
theorem L2.gQ0 {α:Type}{l:List α}{i:Nat}{a:α}(h:l[i]?=some a):i<l.length:=(List.getElem?_eq_some_iff.mp h).1
namespace L2
theorem E2 {α:Type}{n:Nat}{l:List α}(h:l.length=n + 1):∃ a t,l=a :: t/\t.length=n:=by
 cases l with
 | nil=>cases h
 | cons a t=>exact⟨a,t,rfl,Nat.succ.inj h⟩
open PySem PySem.Spec PyProof.Rows
abbrev j6:=Sum Int Str
noncomputable def vW:j6->Value->Bool
 | .inl k,v=>Value.isInt k v
 | .inr x,v=>Value.isStrOf x v
noncomputable def N8 (w:World):j6->Int
 | .inl k=>hashInt k
 | .inr x=>hashStr w x
theorem bK:∀ {k:j6}{v:Value},vW k v=true->(∃ i t,k=Sum.inl i/\v=Value.int i t)∨(∃ x t,k=Sum.inr x/\v=Value.str x t)
 | .inl i,v,h=>by
  obtain⟨t,e⟩:=Value.isInt_shape (k:=i) (v:=v) h
  exact .inl ⟨i,t,rfl,e⟩
 | .inr x,v,h=>by
  obtain⟨t,e⟩:=Value.isStrOf_shape (x:=x) (v:=v) h
  exact .inr ⟨x,t,rfl,e⟩
theorem xS (a b:Int):decide ((Sum.inl a:j6)=Sum.inl b)=(a == b):=by
 by_cases e:a=b
 ·subst e;simp
 ·have h:¬ (Sum.inl a:j6)=Sum.inl b:=fun q=>e (Sum.inl.inj q)
  rw[decide_eq_false h]
  exact(beq_eq_false_iff_ne.mpr e).symm
theorem xO (a b:Str):decide ((Sum.inr a:j6)=Sum.inr b)=decide (a=b):=by
 by_cases e:a=b
 ·subst e;simp
 ·have h:¬ (Sum.inr a:j6)=Sum.inr b:=fun q=>e (Sum.inr.inj q)
  rw[decide_eq_false h,decide_eq_false e]
theorem xR (a:Int)(b:Str):decide ((Sum.inl a:j6)=Sum.inr b)=false:=decide_eq_false (fun q=>nomatch q)
theorem xP (a:Str)(b:Int):decide ((Sum.inr a:j6)=Sum.inl b)=false:=decide_eq_false (fun q=>nomatch q)
noncomputable def kY (prog:Program)(w:World):PySem.KeyKind prog w j6 where
 is:=vW
 hash:=N8 w
 inj:=fun v a b ha hb=>by
  rcases bK ha with ⟨i,t,rfl,rfl⟩ | ⟨x,t,rfl,rfl⟩
  ·rcases bK hb with ⟨j,u,rfl,e⟩ | ⟨y,u,rfl,e⟩
   ·injection e with e1 _;rw[e1]
   ·exact nomatch e
  ·rcases bK hb with ⟨j,u,rfl,e⟩ | ⟨y,u,rfl,e⟩
   ·exact nomatch e
   ·injection e with e1 _;rw[e1]
 byValue:=fun k v h=>by
  rcases bK h with ⟨i,t,rfl,rfl⟩ | ⟨x,t,rfl,rfl⟩<;>rfl
 pyHash:=fun hv h=>by
  rcases bK hv with ⟨i,t,rfl,rfl⟩ | ⟨x,t,rfl,rfl⟩
  ·exact wpAny_pyHash_int h
  ·exact wpAny_pyHash_str h
 eqBool:=fun hu hv h=>by
  rcases bK hu with ⟨i,t,rfl,rfl⟩ | ⟨x,t,rfl,rfl⟩
  ·rcases bK hv with ⟨j,u,rfl,rfl⟩ | ⟨y,u,rfl,rfl⟩
   ·rw[xS]at h;exact wpAny_eqBool_int h
   ·rw[xR]at h;exact SeqAt.EqAt.int_str i t y u _ _ _ _ h
  ·rcases bK hv with ⟨j,u,rfl,rfl⟩ | ⟨y,u,rfl,rfl⟩
   ·rw[xP]at h;exact SeqAt.EqAt.str_int x t j u _ _ _ _ h
   ·rw[xO]at h;exact wpAny_eqBool_str h
 «strs»:=fun k x t v h=>by
  rcases bK h with ⟨i,u,rfl,e⟩ | ⟨y,u,rfl,e⟩
  ·exact nomatch e
  ·injection e with e1 _
   subst e1
   cases v<;>rfl
open PySem.Spec PyProof.Rows
inductive V where
 | yK | bl (b:Bool) | int (i:Int) | str (x:Str) | BW (b:Array UInt8) | Fj (b:UInt64) | ref (a:Addr) | ty (n:String)
 deriving DecidableEq
noncomputable def RelV:V->Value->Prop
 | .yK,u=>u=Value.none
 | .bl b,u=>u=Value.bool b
 | .int i,u=>∃ t,u=Value.int i t
 | .str x,u=>∃ t,u=Value.str x t
 | .BW b,u=>∃ t,u=Value.bytes b t
 | .Fj b,u=>∃ t,u=Value.float b t
 | .ref a,u=>u=Value.ref a
 | .ty n,u=>u=Value.type n
abbrev Vals:List V->List Value->Prop:=Paired RelV
theorem Vals.length {xs:List V}{us:List Value}(r:Vals xs us):xs.length=us.length:=Paired.length r
theorem Vals.get:∀ {xs:List V}{us:List Value}{i:Nat}{x:V},Vals xs us->xs[i]? = some x->∃ u,us[i]? = some u/\RelV x u
 | _,_,_,_, .nil,e=>by simp at e
 | _,_,0,_, .cons r _,e=>by simp at e;subst e;exact⟨_,rfl,r⟩
 | _,_,i + 1,x, .cons _ t,e=>by
  obtain⟨u,h1,h2⟩:=Vals.get (i:=i) (x:=x) t (by simpa using e)
  exact⟨u,by simpa using h1,h2⟩
theorem Vals.set {x:V}{u:Value}(r:RelV x u):∀ {xs:List V}{us:List Value}(i:Nat),Vals xs us->Vals (xs.set i x) (us.set i u)
 | _,_,_, .nil => .nil
 | _,_,0, .cons _ t => .cons r t
 | _,_,i + 1, .cons q t => .cons q (Vals.set r i t)
theorem Vals.append:∀ {xs ys:List V}{us ws:List Value},Vals xs us->Vals ys ws->Vals (xs ++ ys) (us ++ ws)
 | _,_,_,_, .nil,s=>s
 | _,_,_,_, .cons r t,s => .cons r (Vals.append t s)
theorem Vals.take:∀ {xs:List V}{us:List Value}(n:Nat),Vals xs us->Vals (xs.take n) (us.take n)
 | _,_,0,_ => .nil
 | _,_,_ + 1, .nil => .nil
 | _,_,n + 1, .cons r t => .cons r (Vals.take n t)
theorem Vals.drop:∀ {xs:List V}{us:List Value}(n:Nat),Vals xs us->Vals (xs.drop n) (us.drop n)
 | _,_,0,r=>r
 | _,_,_ + 1, .nil => .nil
 | _,_,n + 1, .cons _ t=>Vals.drop n t
noncomputable def Aa:Option V->Option Value->Prop
 | some v,some u=>RelV v u
 | none,none=>True
 | _,_=>False
noncomputable def KV {κ:Type}:List (κ × V)->List (κ × Value)->Prop:=Paired fun (p:κ × V)(q:κ × Value)=>p.1=q.1/\RelV p.2 q.2
noncomputable def kV:j6->V
 | .inl i => .int i
 | .inr x => .str x
inductive HO where
  | lst (xs:List V)
  | tup (xs:List V)
  | dK (kvs:List (j6 × V)) | dT (kvs:List (List j6 × V))
  | set (S:Int->Bool) (n:Nat)
  | ins (C dx:Addr) (fs:List (Str × V))
  | own (x:Addr)
  | xd (fs:List (Str × V))
  | met (f x:Addr)
  | N9 (lo hi:Int)
  | BX (o:Obj) (u:HO)
  | E3 (ps:Array Value)
  | ext (φ:Heap->Prop)
abbrev Hp:=Addr->Option HO
noncomputable def upd (H:Hp)(a:Addr)(o:HO):Hp:=fun b=>if b=a then some o else H b
theorem ac {H:Hp}{a:Addr}{o:HO}:upd H a o a=some o:=by unfold upd;rw[if_pos rfl]
theorem af {H:Hp}{a b:Addr}{o:HO}(h:b ≠ a):upd H a o b=H b:=by unfold upd;rw[if_neg h]
theorem aR {H:Hp}{a b:Addr}{o u:HO}(h:H a=some o)(h':H b=some u)(d:o ≠ u):a ≠ b:=by
 intro e;subst e;rw[h]at h';exact d (Option.some.inj h')
theorem ag {H:Hp}{a b:Addr}{o:HO}(h:H a=some o)(h':H b=none):a ≠ b:=by
 intro e;subst e;rw[h]at h';cases h'
noncomputable def zF (h:Heap)(a:Addr)(items:Array Value):Prop:=∃ o,h.get? a=some o/\(o.cls = .type "tuple"/\∃ n,o.data = .seq items n)/\o.dict=none
theorem zF.isTup {h:Heap}{a:Addr}{items:Array Value}:zF h a items->IsTup h a items:=fun y8=>by obtain⟨o,e,c,_⟩:=y8;exact⟨o,e,c⟩
theorem zF.new (h:Heap)(items:Array Value):zF (h.push { cls := .type "tuple",data := .seq items }) h.objs.size items:=⟨_,Heap.get?_push_size _ rfl,⟨rfl,_,rfl⟩,rfl⟩
section
variable (P:Program)(w:World)
noncomputable def yU (H:Hp)(h:Heap)(a:Addr):HO->Prop
 | .lst xs=>xs.length <= sizeLine/\∃ (y9:List Value)(n:Nat),Vals xs y9/\h.get? a=some { cls := .type "list",data := .seq y9.toArray n }
 | .tup xs=>xs.length <= sizeLine/\∃ y9:List Value,Vals xs y9/\zF h a y9.toArray
 | .dK kvs=>kvs.length <= sizeLine/\(a == sysModules)=false/\∃ vs,KV kvs vs/\h.DictOf (kY P w) a vs
 | .dT kvs=>kvs.length <= sizeLine/\(a == sysModules)=false/\∃ xs:List (List j6 × Addr × Value),
   Paired (fun (p:List j6 × V)(q:List j6 × Addr × Value)=>p.1=q.1/\H q.2.1=some (.tup (p.1.map kV))/\RelV p.2 q.2.2) kvs xs /\
   ∃ o es ep,h.get? a=some o/\o.ExactDict/\o.data = .dict es ep/\es.toList=xs.map (entryOfKey (tupleKind (kY P w)))/\(xs.map (·.1)).Nodup
 | .set S n=>h.SetOf (intKind P w) a S n
 | .ins C dx fs=>H dx=some (.own a)/\fs.length <= 1000/\dx ≠ a/\h.get? a=some (PySem.W.instObj C dx) /\
   ∃ mA,h.Ns1 dx mA/\(∀ f,Aa (fs.lookup f) (mA f))/\PySem.Within mA (fs.map (·.1))
 | .own _=>∃ o,h.get? a=some o
 | .xd fs=>∃ mA,h.Ns1 a mA/\∀ f,Aa (fs.lookup f) (mA f)
 | .N9 lo hi=>∃ t u v,h.get? a=some { cls := .type "range",data := .fields #[.int lo t, .int hi u, .int 1 v] }
 | .BX o u=>h.get? a=some o/\yU H h a u
 | .E3 ps=>h.get? a=some { cls := .none,data := .fields ps }
 | .met f x=>h.get? a=some (PySem.W.methodObj (.ref f) (.ref x))
 | .ext φ=>φ h/\(∃ o,h.get? a=some o)/\∀ h1 h2:Heap,φ h1->(∀ o,h1.get? a=some o->h2.get? a=some o)->φ h2
noncomputable def Ab (H:Hp)(h:Heap):Prop:=∀ a o,H a=some o->yU P w H h a o
end
section
variable {P:Program}{w:World}{H H':Hp}{h h':Heap}{a:Addr}{o:HO}
theorem yU.lt (x:yU P w H h a o):a < h.objs.size:=by
 cases o with
 | lst xs=>obtain⟨_,_,_,_,e⟩:=x;exact lt_size e
 | tup xs=>obtain⟨_,_,_,p⟩:=x;exact p.isTup.lt
 | dK kvs=>obtain⟨_,_,_,_,o,_,_,e,_⟩:=x;exact lt_size e
 | dT kvs=>obtain⟨_,_,_,_,o,_,_,e,_⟩:=x;exact lt_size e
 | set S n=>obtain⟨o,_,_,_,e,_⟩:=x;exact lt_size e
 | ins C dx fs=>obtain⟨_,_,_,e,_⟩:=x;exact lt_size e
 | own y=>obtain⟨_,e⟩:=x;exact lt_size e
 | xd fs=>obtain⟨_,⟨_,_,_,e,_⟩,_⟩:=x;exact lt_size e
 | N9 lo hi=>obtain⟨_,_,_,e⟩:=x;exact lt_size e
 | BX ob u=>obtain⟨e,_⟩:=x;exact lt_size e
 | E3 ps=>exact lt_size (show h.get? a=some _ from x)
 | met f y=>exact lt_size (show h.get? a=some _ from x)
 | ext φ=>obtain⟨_,⟨_,e⟩,_⟩:=x;exact lt_size e
theorem Paired.Ic {α β:Type}{F G:α->β->Prop}:∀ {l₁:List α}{l₂:List β},Paired F l₁ l₂->(∀ a b,F a b->G a b)->Paired G l₁ l₂
 | _,_, .nil,_ => .nil
 | _,_, .cons r t,f => .cons (f _ _ r) (Paired.Ic t f)
theorem yU.Af (x:yU P w H h a o)(k:∀ b u,(b=a∨H b=some (.own a))->h.get? b=some u->h'.get? b=some u)
  (ho:∀ b,H b=some (.own a)->H' b=some (.own a)) (ht:∀ b xs,H b=some (.tup xs)->H' b=some (.tup xs)):yU P w H' h' a o:=by
 induction o with
 | lst xs=>obtain⟨z,y9,n,r,e⟩:=x;exact⟨z,y9,n,r,k _ _ (.inl rfl) e⟩
 | tup xs=>obtain⟨z,y9,r,ob,e,c⟩:=x;exact⟨z,y9,r,ob,k _ _ (.inl rfl) e,c⟩
 | dK kvs=>obtain⟨z,y,vs,r,ob,es,ep,e,c⟩:=x;exact⟨z,y,vs,r,ob,es,ep,k _ _ (.inl rfl) e,c⟩
 | dT kvs =>
  obtain⟨z,y,xs,r,ob,es,ep,e,c⟩:=x
  exact⟨z,y,xs,Paired.Ic r fun p q z=>⟨z.1,ht _ _ z.2.1,z.2.2⟩,ob,es,ep,k _ _ (.inl rfl) e,c⟩
 | set S n=>obtain⟨ob,es,ep,t,e,c⟩:=x;exact⟨ob,es,ep,t,k _ _ (.inl rfl) e,c⟩
 | ins C dx fs =>
  obtain⟨d,z,ne,e,mA,⟨od,es,ep,e2,c⟩,r⟩:=x
  exact⟨ho _ d,z,ne,k _ _ (.inl rfl) e,mA,⟨od,es,ep,k _ _ (.inr d) e2,c⟩,r⟩
 | own y=>obtain⟨ob,e⟩:=x;exact⟨ob,k _ _ (.inl rfl) e⟩
 | xd fs=>obtain⟨mA,⟨od,es,ep,e,c⟩,r⟩:=x;exact⟨mA,⟨od,es,ep,k _ _ (.inl rfl) e,c⟩,r⟩
 | N9 lo hi=>obtain⟨t,u,v,e⟩:=x;exact⟨t,u,v,k _ _ (.inl rfl) e⟩
 | BX ob u ih=>obtain⟨e,q⟩:=x;exact⟨k _ _ (.inl rfl) e,ih q⟩
 | E3 ps =>
  have e:h.get? a=some { cls := .none,data := .fields ps }:=x
  show h'.get? a=some { cls := .none,data := .fields ps }
  exact k a _ (.inl rfl) e
 | met f y =>
  have e:h.get? a=some (PySem.W.methodObj (.ref f) (.ref y)):=x
  show h'.get? a=some (PySem.W.methodObj (.ref f) (.ref y))
  exact k a _ (.inl rfl) e
 | ext φ=>obtain⟨p,⟨o,e⟩,st⟩:=x;exact⟨st _ _ p fun o q=>k _ _ (.inl rfl) q,⟨o,k _ _ (.inl rfl) e⟩,st⟩
theorem Ab.lt (x:Ab P w H h)(e:H a=some o):a < h.objs.size:=(x a o e).lt
theorem Ab.fresh (x:Ab P w H h)(e:h.objs.size <= a):H a=none:=by
 cases q:H a with
 | none=>rfl
 | some u=>exact absurd (lt_of_lt_of_le (x.lt q) e) (lt_irrefl _)
theorem Ab.kept (x:Ab P w H h)(k:∀ b u,h.get? b=some u->h'.get? b=some u):Ab P w H h':=fun a o e =>
 (x a o e).Af (fun b u _ q=>k b u q) (fun _ q=>q) fun _ _ q=>q
theorem Ab.laid (x:Ab P w H h)(k:∀ b u,h.get? b=some u->h'.get? b=some u)(hp:h.objs.size <= a)(new:yU P w (upd H a o) h' a o):Ab P w (upd H a o) h':=fun b u e=>by
 have hn:=x.fresh hp
 by_cases hb:b=a
 ·subst hb;rw[ac]at e;cases e;exact new
 ·rw[af hb]at e
  exact(x b u e).Af (fun c v _ q=>k c v q) (fun c q=>by rw[af (ag q hn)];exact q) fun c xs q=>by rw[af (ag q hn)];exact q
end
noncomputable def Rd (H:Hp)(a:Addr)(u:HO):Prop:=H a=some u∨∃ o,H a=some (.BX o u)
theorem Rd.ok {P:Program}{w:World}{H:Hp}{h:Heap}{a:Addr}{u:HO}(r:Rd H a u)(x:Ab P w H h):yU P w H h a u:=by
 rcases r with r | ⟨o,r⟩
 ·exact x a u r
 ·obtain⟨_,q⟩:=x a _ r
  exact q
noncomputable def Mf:Option HO->Prop
 | some (.lst _)=>True
 | some (.dK _)=>True
 | some (.dT _)=>True
 | some (.set _ _)=>True
 | some (.ins _ _ _)=>True
 | some (.ext _)=>True
 | _=>False
section
variable {P:Program}{w:World}{H:Hp}{h h':Heap}{x e:Addr}{o':HO}
theorem Ab.write (ok:Ab P w H h)(mu:Mf (H x))(he:e=x∨H e=some (.own x))(k:∀ b u,b ≠ e->h.get? b=some u->h'.get? b=some u)(GZ:∃ u,h'.get? e=some u)
  (new:yU P w (upd H x o') h' x o'):Ab P w (upd H x o') h':=fun b u q=>by
 have Ie:∀ c y,H c=some (.own y)->c ≠ x:=fun c y r z=>by subst z;rw[r]at mu;exact mu
 have NA:∀ c xs,H c=some (.tup xs)->c ≠ x:=fun c xs r z=>by subst z;rw[r]at mu;exact mu
 by_cases hb:b=x
 ·subst hb;rw[ac]at q;cases q;exact new
 ·rw[af hb]at q
  by_cases Dw:b=e
  ·have q':H b=some (.own x):=by
    rcases he with z | z
    ·exact absurd (Dw.trans z) hb
    ·rw[Dw];exact z
   rw[q]at q';cases q'
   obtain⟨v,hv⟩:=GZ
   exact⟨v,by rw[Dw];exact hv⟩
  ·refine(ok b u q).Af (fun c v hc r=>k c v ?_ r) (fun c r=>by rw[af (Ie c b r)];exact r) fun c xs r=>by rw[af (NA c xs r)];exact r
   rcases hc with rfl | hc
   ·exact Dw
   ·rintro rfl
    rcases he with z | z
    ·exact Ie c b hc z
    ·rw[hc]at z;cases z;exact hb rfl
end
structure Un (fs ex:List Addr)(H H':Hp)(h h':Heap):Prop where
 keep:∀ b o,h.get? b=some o->H b=none->b ∉ fs->b ∉ ex->h'.get? b=some o
 slot:∀ b o,h.get? b=some o->H b=none->b ∈ fs->b ∉ ex->∃ sl,h'.get? b=some { o with slots:=sl }
 free:∀ b o,h.get? b=some o->H b=none->b ∉ ex->H' b=none
 there:∀ b o,h.get? b=some o->b ∉ ex->∃ o',h'.get? b=some o'
 Ba:∀ b xs,H b=some (.tup xs)->H' b=some (.tup xs)
 AK:∀ b o u,H b=some (.BX o u)->H' b=some (.BX o u)
 Bb:∀ b ps,H b=some (.E3 ps)->∃ more,H' b=some (.E3 (ps ++ more))
section
variable {fs Hg ex Hh:List Addr}{H H1 H2:Hp}{h h1 h2 h':Heap}{a x e:Addr}{o:HO}
theorem Un.any (u:Un fs ex H H1 h h1){b:Addr}{ob:Obj}(q:h.get? b=some ob)(n:H b=none)(hx:b ∉ ex):∃ sl,h1.get? b=some { ob with slots:=sl }:=by
 by_cases hb:b ∈ fs
 ·exact u.slot b ob q n hb hx
 ·exact⟨ob.slots,u.keep b ob q n hb hx⟩
theorem Un.kept (k:∀ b u,h.get? b=some u->h'.get? b=some u):Un fs ex H H h h' :=
 ⟨fun b ob q _ _ _=>k b ob q,fun b ob q _ _ _=>⟨ob.slots,k b ob q⟩,fun _ _ _ n _=>n,fun b ob q _=>⟨ob,k b ob q⟩,fun _ _ q=>q,fun _ _ _ q=>q,fun _ ps q=>⟨#[],by rw[q];simp⟩⟩
theorem Un.refl:Un fs ex H H h h:=Un.kept fun _ _ q=>q
theorem Un.laid (k:∀ b u,h.get? b=some u->h'.get? b=some u)(hp:h.objs.size <= a)(hn:H a=none):Un fs ex H (upd H a o) h h' where
 keep:=fun b u q _ _ _=>k b u q
 slot:=fun b u q _ _ _=>⟨u.slots,k b u q⟩
 free:=fun b u q n _=>by rw[af (ne_of_lt (lt_of_lt_of_le (lt_size q) hp))];exact n
 there:=fun b u q _=>⟨u,k b u q⟩
 Ba:=fun b xs q=>by rw[af (ag q hn)];exact q
 AK:=fun b u xs q=>by rw[af (ag q hn)];exact q
 Bb:=fun b ps q=>⟨#[],by rw[af (ag q hn),q];simp⟩
theorem Un.write (mu:Mf (H x))(he:e=x∨H e=some (.own x))(k:∀ b u,b ≠ e->h.get? b=some u->h'.get? b=some u)(GZ:∃ u,h'.get? e=some u):Un fs ex H (upd H x o) h h':=by
 have hx:∀ b,H b=none->b ≠ x:=fun b n z=>by subst z;rw[n]at mu;exact mu
 have hb:∀ b,H b=none->b ≠ e:=fun b n z=>by
  subst z
  rcases he with r | r
  ·exact hx b n r
  ·rw[n]at r;cases r
 have hm:∀ b u,H b=some u->¬ Mf (some u)->b ≠ x:=fun b u q nm z=>by subst z;rw[q]at mu;exact nm mu
 refine⟨fun b u q n _ _=>k b u (hb b n) q,fun b u q n _ _=>⟨u.slots,k b u (hb b n) q⟩,fun b u q n _=>by rw[af (hx b n)];exact n,fun b u q _=>?_,
  fun b xs q=>by rw[af (hm b _ q fun z=>z)];exact q,fun b u xs q=>by rw[af (hm b _ q fun z=>z)];exact q,fun b ps q=>⟨#[],by rw[af (hm b _ q fun z=>z),q];simp⟩⟩
 by_cases Dw:b=e
 ·subst Dw;exact GZ
 ·exact⟨u,k b u Dw q⟩
end
noncomputable def Mg (h:Heap)(H:Hp):List Addr:=(List.range h.objs.size).filter fun a=>(H a).isSome
noncomputable def lj (h:Heap)(H:Hp):Heap:=PySem.W.hideAll h (Mg h H)
theorem qw (h:Heap)(H:Hp):(lj h H).objs.size=h.objs.size:=PySem.W.hideAll_size _ _
theorem tw {h:Heap}{H:Hp}{b:Addr}{o:Obj}(e:h.get? b=some o)(n:H b=none):(lj h H).get? b=some o :=
 PySem.W.hideAll_get _ e fun hm=>by
  have q:(H b).isSome=true:=(mem_filter.mp hm).2
  rw[n]at q;simp at q
theorem uY {h:Heap}{H:Hp}{b:Addr}{o:Obj}(e:(lj h H).get? b=some o):h.get? b=some o/\H b=none:=by
 have e':h.get? b=some o:=PySem.W.of_hideAll (Mg h H) e
 refine⟨e',?_⟩
 cases q:H b with
 | none=>rfl
 | some x =>
  have hm:b ∈ Mg h H:=mem_filter.mpr ⟨mem_range.mpr (lt_size e'),by simp[q]⟩
  have z:(lj h H).get? b=none:=PySem.W.hideAll_none (Mg h H) hm
  rw[z]at e;cases e
structure Mod (K:Frag)(mg:Str->Option Value)(base:Heap):Prop where
 Dx:K.In base
 glob:base.Ns mainGlobals mg
 blt:∃ mb,base.Ns builtinsNs mb/\∀ x:Str,x ≠ "__name__"->mb x=bootBuiltins x
 nolimit:base.NoLimit
structure Cx where
 prog:Program
 w:World
 K:Frag
 mg:Str->Option Value
 base:Heap
 A:Around
 N:List Str
 s₀:Shared
 H₀:Hp
 env:Env
 outer:List Env
 stack:List Env
 ex:List Addr
 fn:Str->Bool
 calm:Bool
 pn:List (Addr × Obj)
 xe:Value->Shared->Prop
noncomputable def pB (l:List Env):List Addr:=l.filterMap (·.frame)
abbrev Cx.fs (X:Cx):List Addr:=pB X.outer
noncomputable def Mj (sc:Scope)(x:Str):Prop:=sc.names.lookup x=some .local∨sc.names.lookup x=some .cell∨sc.names.lookup x=some .free
noncomputable def Loc (sc:Scope)(x:Str):Prop:=sc.names.lookup x=some .local∨sc.names.lookup x=some .cell
noncomputable def Look (env:Env)(h:Heap)(m:Str->Option Value)(x:Str)(u:Value):Prop :=
 (env.kindOf x=some .local/\m x=some u)∨((env.kindOf x=some .cell∨env.kindOf x=some .free)/\∃ c,env.cells.lookup x=some c/\h.IsCell c (some u))
structure Cx.Ok (X:Cx):Prop where
 mod:Mod X.K X.mg X.base
 kind:X.env.scope.kind = .function
 glob:X.env.globals=mainGlobals
 blt:X.env.builtins=builtinsNs
 above:X.s₀.heap.objs.size <= X.env.locals
 inj:∀ x y c,X.env.cells.lookup x=some c->X.env.cells.lookup y=some c->x=y
 has:∀ x,(X.env.kindOf x=some .cell∨X.env.kindOf x=some .free)->∃ c,X.env.cells.lookup x=some c
 Ig:∀ x c,X.fn x=true->X.env.cells.lookup x=some c->X.s₀.heap.objs.size <= c
 hd:X.calm=true->X.A.handled=none
 frames:X.A.frames=some X.stack
 Mm:X.stack=X.outer∨(X.stack=X.env :: X.outer/\X.env.frame=some X.env.locals)
 Te:∀ b ∈ X.ex,b ≠ X.env.locals/\∀ x c,X.env.cells.lookup x=some c->c ≠ b
 bs:∀ b o,X.base.get? b=some o->X.s₀.heap.get? b=some o/\X.H₀ b=none
 DI:X.base.objs.size <= X.s₀.heap.objs.size
 CK:∀ b o,X.base.get? b=some o->b ∉ X.ex
 DJ:∀ b ∈ X.ex,b ∉ X.fs
 Aq:X.s₀.heap.FunFrames X.base X.outer
 Fl:∀ b ∈ X.fs,X.H₀ b=none
structure Inv (X:Cx)(pins:List (Addr × Obj))(σ:List (Option V))(H:Hp)(s:Shared):Prop where
 ok:X.Ok
 os:s.os=X.s₀.os
 bare:AllBare s.gens
 base:Un X.fs X.ex X.H₀ H X.s₀.heap s.heap
 loc:∃ m,s.heap.Ns X.env.locals m/\∀ (i:Nat)(x:Str)(v:V),X.N[i]? = some x->σ[i]? = some (some v)->Mj X.env.scope x->∃ u,RelV v u/\Look X.env s.heap m x u
 cell:∀ x c,X.env.cells.lookup x=some c->∃ v,s.heap.IsCell c v
 free:H X.env.locals=none
 zo:∀ x c,X.env.cells.lookup x=some c->H c=none
 pin:∀ p ∈ X.pn ++ pins,s.heap.get? p.1=some p.2/\H p.1=none/\p.1 ≠ X.env.locals/\p.1 ∉ X.fs/\∀ v,p.2.data ≠ .cell v
 yE:Ab X.prog X.w H s.heap
 len:σ.length=X.N.length
section
variable {X:Cx}{pins:List (Addr × Obj)}{σ:List (Option V)}{H H':Hp}{s:Shared}{h':Heap}
theorem Cx.Ok.NB (ok:X.Ok){b:Addr}{o:Obj}(e:X.base.get? b=some o):b ∉ X.fs:=fun hb=>by
 have:=(ok.Aq.mem hb).1
 rw[e]at this;cases this
theorem Inv.bs (I:Inv X pins σ H s):∀ b o,X.base.get? b=some o->s.heap.get? b=some o/\H b=none:=fun b o e =>
 ⟨I.base.keep b o (I.ok.bs b o e).1 (I.ok.bs b o e).2 (I.ok.NB e) (I.ok.CK b o e),I.base.free b o (I.ok.bs b o e).1 (I.ok.bs b o e).2 (I.ok.CK b o e)⟩
theorem Inv.bk (I:Inv X pins σ H s):∀ b o,X.base.get? b=some o->s.heap.get? b=some o:=fun b o e=>(I.bs b o e).1
theorem Inv.mod (I:Inv X pins σ H s):Mod X.K X.mg X.base:=I.ok.mod
theorem Inv.Ae (I:Inv X pins σ H s):X.K.In s.heap:=I.ok.mod.Dx.keeps I.bk
theorem Inv.lt (I:Inv X pins σ H s):X.env.locals < s.heap.objs.size:=let ⟨_,hn,_⟩:=I.loc;hn.lt
theorem Inv.sz (I:Inv X pins σ H s):X.s₀.heap.objs.size <= s.heap.objs.size:=le_trans I.ok.above (le_of_lt I.lt)
theorem Inv.NC (I:Inv X pins σ H s){a:Addr}(h:s.heap.objs.size <= a):a ∉ X.fs:=fun hb=>by
 obtain⟨_,o,ho,_⟩:=I.ok.Aq.mem hb
 exact absurd (lt_of_lt_of_le (lt_size ho) (le_trans I.sz h)) (lt_irrefl _)
theorem Inv.Fm (I:Inv X pins σ H s):∀ x c,X.env.cells.lookup x=some c->c ≠ X.env.locals:=fun x c e z=>by
 obtain⟨v,o,ho,hd⟩:=I.cell x c e
 obtain⟨m,⟨o',es,ep,BC,Dy,_⟩,_⟩:=I.loc
 rw[z,BC]at ho;cases ho;rw[Dy]at hd;cases hd
theorem Inv.Aq (I:Inv X pins σ H s):s.heap.FunFrames X.base X.outer:=by
 have all:∀ (l:List Env),(∀ b ∈ pB l,b ∈ X.fs)->X.s₀.heap.FunFrames X.base l->s.heap.FunFrames X.base l:=by
  intro l
  induction l with
  | nil=>intro _ _;trivial
  | cons env r ih =>
   intro hs hl
   obtain⟨hk,⟨L,o,hf,hn,ho,hd⟩,hr⟩:=hl
   have hL:L ∈ X.fs:=hs L (by unfold pB;rw[filterMap_cons,hf];exact mem_cons_self)
   obtain⟨sl,e⟩:=I.base.slot L o ho (I.ok.Fl L hL) hL fun z=>I.ok.DJ L z hL
   exact⟨hk,⟨L,_,hf,hn,e,hd⟩,ih (fun b hb=>hs b (by unfold pB;rw[filterMap_cons,hf];exact mem_cons_of_mem _ hb)) hr⟩
 exact all X.outer (fun _ hb=>hb) I.ok.Aq
theorem Inv.stack (I:Inv X pins σ H s):s.heap.FunFrames X.base X.stack:=by
 rcases I.ok.Mm with e | ⟨e,hf⟩
 ·rw[e];exact I.Aq
 ·rw[e]
  obtain⟨m,hn,_⟩:=I.loc
  refine .cons (by rw[I.ok.kind];decide) hf hn ?_ I.Aq
  exact Heap.get?_none_of_le (le_trans I.ok.DI I.ok.above)
theorem Inv.Bc (I:Inv X pins σ H s):∀ b ∈ pB X.stack,b ∈ X.env.locals :: X.fs:=fun b hb=>by
 rcases I.ok.Mm with e | ⟨e,hf⟩
 ·rw[e]at hb;exact mem_cons_of_mem _ hb
 ·rw[e]at hb
  unfold pB at hb
  rw[filterMap_cons,hf]at hb
  exact hb
theorem Inv.BY (I:Inv X pins σ H s):∀ b ∈ pB X.stack,H b=none:=fun b hb=>by
 rcases mem_cons.mp (I.Bc b hb) with e | hb
 ·rw[e];exact I.free
 ·obtain⟨_,o,ho,_⟩:=I.ok.Aq.mem hb
  exact I.base.free b o ho (I.ok.Fl b hb) fun z=>I.ok.DJ b z hb
theorem Inv.step {g':Array GenState}{t':Nat}{d':Drawn}{ch:List Addr}(I:Inv X pins σ H s)
  (Dz:∀ b ∈ ch,(b ∈ X.ex∨X.s₀.heap.objs.size <= b)/\b ≠ X.env.locals/\(∀ x c,X.env.cells.lookup x=some c->c ≠ b)/\∀ p ∈ X.pn ++ pins,p.1 ≠ b)
  (keep:∀ b o,b ≠ X.env.locals->b ∉ X.fs->b ∉ ch->s.heap.get? b=some o->H b=none->h'.get? b=some o)
  (slot:∀ b o,b ≠ X.env.locals->b ∈ X.fs->b ∉ ch->s.heap.get? b=some o->H b=none->∃ sl,h'.get? b=some { o with slots:=sl }) (free:∀ b o,b ∉ ch->s.heap.get? b=some o->H b=none->H' b=none)
  (there:∀ b o,b ∉ ch->s.heap.get? b=some o->∃ o',h'.get? b=some o')
  (Ba:∀ b xs,H b=some (.tup xs)->H' b=some (.tup xs)) (AK:∀ b o u,H b=some (.BX o u)->H' b=some (.BX o u)) (Bb:∀ b ps,H b=some (.E3 ps)->∃ more,H' b=some (.E3 (ps ++ more)))
  (ns:∀ m,s.heap.Ns X.env.locals m->h'.Ns X.env.locals m) (yE:Ab X.prog X.w H' h') (hg:AllBare g') :
  Inv X pins σ H' { s with heap:=h',gens:=g',drawn:=d',toks:=t' }:=by
 have Tf:∀ b o,X.s₀.heap.get? b=some o->b ≠ X.env.locals:=fun b o e=>ne_of_lt (lt_of_lt_of_le (lt_size e) I.ok.above)
 have Mn:∀ b o,X.s₀.heap.get? b=some o->b ∉ X.ex->b ∉ ch:=fun b o e hx hb=>by
  rcases (Dz b hb).1 with z | z
  ·exact hx z
  ·exact absurd (lt_of_lt_of_le (lt_size e) z) (lt_irrefl _)
 have cellK:∀ x c,X.env.cells.lookup x=some c->∀ v,s.heap.IsCell c v->h'.IsCell c v:=fun x c e v ⟨o,ho,hd⟩=>by
  have Ih:c ∉ ch:=fun z=>(Dz c z).2.2.1 x c e rfl
  by_cases hc:c ∈ X.fs
  ·obtain⟨sl,q⟩:=slot c o (I.Fm x c e) hc Ih ho (I.zo x c e)
   exact⟨_,q,hd⟩
  ·exact⟨o,keep c o (I.Fm x c e) hc Ih ho (I.zo x c e),hd⟩
 refine⟨I.ok,I.os,hg,⟨fun b o e n hb hx=>?_,fun b o e n hb hx=>?_,fun b o e n hx=>?_,fun b o e hx=>?_,fun b xs e=>Ba b xs (I.base.Ba b xs e),fun b o xs e=>AK b o xs (I.base.AK b o xs e),fun b ps e=>?_⟩,?_,fun x c e=>?_,?_,fun x c e=>?_,fun p hp=>?_,yE,I.len⟩
 ·exact keep b o (Tf b o e) hb (Mn b o e hx) (I.base.keep b o e n hb hx) (I.base.free b o e n hx)
 ·obtain⟨sl,e1⟩:=I.base.slot b o e n hb hx
  obtain⟨sl',e2⟩:=slot b _ (Tf b o e) hb (Mn b o e hx) e1 (I.base.free b o e n hx)
  exact⟨sl',e2⟩
 ·obtain⟨o',e1⟩:=I.base.there b o e hx
  exact free b o' (Mn b o e hx) e1 (I.base.free b o e n hx)
 ·obtain⟨o',e1⟩:=I.base.there b o e hx
  exact there b o' (Mn b o e hx) e1
 ·obtain⟨m1,e1⟩:=I.base.Bb b ps e
  obtain⟨m2,e2⟩:=Bb b _ e1
  exact⟨m1 ++ m2,by rw[e2,Array.append_assoc]⟩
 ·obtain⟨m,hn,hl⟩:=I.loc
  refine⟨m,ns m hn,fun i x v e1 e2 e3=>?_⟩
  obtain⟨u,r,l⟩:=hl i x v e1 e2 e3
  refine⟨u,r,?_⟩
  rcases l with l | ⟨k,c,e,z⟩
  ·exact .inl l
  ·exact .inr ⟨k,c,e,cellK x c e _ z⟩
 ·obtain⟨v,z⟩:=I.cell x c e
  exact⟨v,cellK x c e v z⟩
 ·obtain⟨m,⟨o,_,_,ho,_⟩,_⟩:=I.loc
  exact free _ o (fun z=>(Dz _ z).2.1 rfl) ho I.free
 ·obtain⟨v,o,ho,hd⟩:=I.cell x c e
  exact free c o (fun z=>(Dz c z).2.2.1 x c e rfl) ho (I.zo x c e)
 ·obtain⟨e,n,ne,nf,d⟩:=I.pin p hp
  have Ih:p.1 ∉ ch:=fun z=>(Dz p.1 z).2.2.2 p hp rfl
  exact⟨keep p.1 p.2 ne nf Ih e n,free p.1 p.2 Ih e n,ne,nf,d⟩
theorem Inv.un {t':Nat}(I:Inv X pins σ H s)(u:Un X.fs [] H H' s.heap h')(yE:Ab X.prog X.w H' h'):Inv X pins σ H' { s with heap:=h',toks:=t' }:=by
 obtain⟨m,⟨o,es,ep,ho,r⟩,_⟩:=id I.loc
 obtain⟨sl,hL⟩:=u.any ho I.free (by simp)
 exact I.step (g':=s.gens) (d':=s.drawn) (ch:=[]) (fun _ z=>nomatch z) (fun b o _ hb _ e n=>u.keep b o e n hb (by simp)) (fun b o _ hb _ e n=>u.slot b o e n hb (by simp)) (fun b o _ e n=>u.free b o e n (by simp)) (fun b o _ e=>u.there b o e (by simp)) u.Ba u.AK u.Bb (fun m' hm=>by
  obtain⟨o',ND,NG,BC,r'⟩:=hm
  rw[ho]at BC;cases BC
  exact⟨_,ND,NG,hL,r'⟩) yE I.bare
theorem Inv.call {g':Array GenState}{t':Nat}{d':Drawn}{ch:List Addr}(I:Inv X pins σ H s)(u:Un (pB X.stack) ch H H' s.heap h')(yE:Ab X.prog X.w H' h')(hg:AllBare g')
  (Dz:∀ b ∈ ch,(b ∈ X.ex∨X.s₀.heap.objs.size <= b)/\b ≠ X.env.locals/\(∀ x c,X.env.cells.lookup x=some c->c ≠ b)/\∀ p ∈ X.pn ++ pins,p.1 ≠ b) :
  Inv X pins σ H' { s with heap:=h',gens:=g',drawn:=d',toks:=t' }:=by
 obtain⟨m,⟨o,es,ep,ho,r⟩,_⟩:=id I.loc
 obtain⟨sl,hL⟩:=u.any ho I.free fun z=>(Dz _ z).2.1 rfl
 exact I.step (ch:=ch) Dz (fun b o hL hb hc e n=>u.keep b o e n (fun z=>(mem_cons.mp (I.Bc b z)).elim hL hb) hc) (fun b o _ _ hc e n=>u.any e n hc) (fun b o hc e n=>u.free b o e n hc) (fun b o hc e=>u.there b o e hc) u.Ba u.AK u.Bb (fun m' hm=>by
  obtain⟨o',ND,NG,BC,r'⟩:=hm
  rw[ho]at BC;cases BC
  exact⟨_,ND,NG,hL,r'⟩) yE hg
theorem Inv.turned {t':Nat}{it:Addr}(I:Inv X pins σ H s)(k:∀ b o,b ≠ it->s.heap.get? b=some o->h'.get? b=some o)(hn:H it=none)(hL:it ≠ X.env.locals)
  (h1:it ∈ X.ex∨X.s₀.heap.objs.size <= it) (h2:∀ x c,X.env.cells.lookup x=some c->c ≠ it) (h3:∀ p ∈ X.pn ++ pins,p.1 ≠ it):Inv X pins σ H { s with heap:=h',toks:=t' }:=by
 have Tg:∀ b u,H b=some u->b ≠ it:=fun b u e z=>by rw[z,hn]at e;cases e
 refine I.step (g':=s.gens) (d':=s.drawn) (ch:=[it]) (fun b hb=>?_) (fun b o _ _ hc e _=>k b o (fun z=>hc (by simp[z])) e) (fun b o _ _ hc e _=>⟨o.slots,k b o (fun z=>hc (by simp[z])) e⟩) (fun _ _ _ _ n=>n)
  (fun b o hc e=>⟨o,k b o (fun z=>hc (by simp[z])) e⟩) (fun _ _ e=>e) (fun _ _ _ e=>e) (fun b ps e=>⟨#[],by rw[e];simp⟩) (fun m hm=>?_) (fun b u e=>?_) I.bare
 ·have e:b=it:=by simpa using hb
  subst e
  exact⟨h1,hL,h2,h3⟩
 ·obtain⟨o,es,ep,ho,r⟩:=hm
  exact⟨o,es,ep,k _ o (Ne.symm hL) ho,r⟩
 ·refine(I.yE b u e).Af (fun c v hc q=>k c v ?_ q) (fun _ q=>q) fun _ _ q=>q
  rcases hc with z | z
  ·rw[z];exact Tg b u e
  ·exact Tg c _ z
theorem Inv.tok (I:Inv X pins σ H s)(t:Nat):Inv X pins σ H { s with toks:=t }:=I.un (h':=s.heap) (t':=t) Un.refl I.yE
theorem Inv.kept {t':Nat}(I:Inv X pins σ H s)(k:∀ b u,s.heap.get? b=some u->h'.get? b=some u):Inv X pins σ H { s with heap:=h',toks:=t' }:=I.un (Un.kept k) (I.yE.kept k)
theorem Inv.laid {a:Addr}{o:HO}{t':Nat}(I:Inv X pins σ H s)(k:∀ b u,s.heap.get? b=some u->h'.get? b=some u)(hp:s.heap.objs.size <= a)(new:yU X.prog X.w (upd H a o) h' a o) :
  Inv X pins σ (upd H a o) { s with heap:=h',toks:=t' }:=I.un (Un.laid k hp (I.yE.fresh hp)) (I.yE.laid k hp new)
theorem Inv.write {x e:Addr}{o:HO}{t':Nat}(I:Inv X pins σ H s)(mu:Mf (H x))(he:e=x∨H e=some (.own x))(k:∀ b u,b ≠ e->s.heap.get? b=some u->h'.get? b=some u)(GZ:∃ u,h'.get? e=some u)
  (new:yU X.prog X.w (upd H x o) h' x o):Inv X pins σ (upd H x o) { s with heap:=h',toks:=t' }:=I.un (Un.write mu he k GZ) (I.yE.write mu he k GZ new)
theorem Inv.zJ {Bu:List (Addr × Obj)}(I:Inv X pins σ H s)(h:∀ p ∈ Bu,s.heap.get? p.1=some p.2/\H p.1=none/\p.1 ≠ X.env.locals/\p.1 ∉ X.fs/\∀ v,p.2.data ≠ .cell v):Inv X Bu σ H s :=
 ⟨I.ok,I.os,I.bare,I.base,I.loc,I.cell,I.free,I.zo,fun p hp=>(mem_append.mp hp).elim (fun z=>I.pin p (mem_append_left _ z)) (h p),I.yE,I.len⟩
theorem lR {N:List Str}(hN:N.Nodup){i j:Nat}{x:Str}(a:N[i]? = some x)(b:N[j]? = some x):i=j:=by
 obtain⟨h1,e1⟩:=List.getElem?_eq_some_iff.mp a
 obtain⟨h2,e2⟩:=List.getElem?_eq_some_iff.mp b
 exact(List.getElem_inj hN).mp (e1.trans e2.symm)
theorem jA {M:Model}{A:Around}{E:Value->Shared->Prop}{i:Nat}{x:Str}{v:V}{u:Value}{Q:Unit->Shared->Prop}(I:Inv X pins σ H s)(hN:X.N.Nodup)(hi:X.N[i]? = some x)(hx:Loc X.env.scope x)(r:RelV v u)
  (h:∀ s',Inv X pins (σ.set i (some v)) H s'->(∃ a,Heap.SameBut a s.heap s'.heap/\(a=X.env.locals∨X.env.cells.lookup x=some a))->Q () s') (hf:autoParam (X.fn x=true∨X.env.scope.names.lookup x=some .local) ζ):wpAny M A (storeName X.env x u) Q E s:=by
 obtain⟨m,hn,hl⟩:=id I.loc
 have NH:(X.env.scope.kind == .class || (X.env.scope.kind == .module && X.env.locals != X.env.globals))=false:=by rw[I.ok.kind];rfl
 have Ii:i < σ.length:=by rw[I.len];exact(gQ0 hi)
 have Fm:=I.Fm
 have tracked:∀ {a:Addr}{h':Heap},(∃ o,s.heap.get? a=some o/\H a=none)->Heap.SameBut a s.heap h'->Ab X.prog X.w H h':=fun {a h'} ha hs b ob e=>by
  obtain⟨_,_,E4⟩:=ha
  refine(I.yE b ob e).Af (fun c w' hc q=>(hs.2 c ?_).trans q) (fun _ q=>q) fun _ _ q=>q
  rintro rfl
  rcases hc with rfl | hc
  ·rw[E4]at e;cases e
  ·rw[E4]at hc;cases hc
 rcases hx with hk | hk
 ·refine wpAny_storeName_local hk hn (fun h' hn' hs=>?_) NH
  obtain⟨oL,_,_,hoL,_⟩:=id hn
  refine h _ ⟨I.ok,I.os,I.bare,⟨fun b o e n hb hx=>?_,fun b o e n hb hx=>?_,I.base.free,fun b o e hx=>?_,I.base.Ba,I.base.AK,I.base.Bb⟩,⟨_,hn',fun j y v' e1 e2 e3=>?_⟩,fun y c e=>?_,I.free,I.zo,fun p hp=>?_,tracked ⟨oL,hoL,I.free⟩ hs,by simpa using I.len⟩ ⟨_,hs, .inl rfl⟩
  ·exact(hs.2 b (ne_of_lt (lt_of_lt_of_le (lt_size e) I.ok.above))).trans (I.base.keep b o e n hb hx)
  ·obtain⟨sl,e1⟩:=I.base.slot b o e n hb hx
   exact⟨sl,(hs.2 b (ne_of_lt (lt_of_lt_of_le (lt_size e) I.ok.above))).trans e1⟩
  ·obtain⟨o',e1⟩:=I.base.there b o e hx
   exact⟨o',(hs.2 b (ne_of_lt (lt_of_lt_of_le (lt_size e) I.ok.above))).trans e1⟩
  ·by_cases hj:j=i
   ·subst hj
    rw[hi]at e1;cases e1
    rw[List.getElem?_set_self Ii]at e2
    cases e2
    exact⟨u,r, .inl ⟨hk,by simp⟩⟩
   ·rw[getElem?_set_ne (Ne.symm hj)]at e2
    obtain⟨u',r',q⟩:=hl j y v' e1 e2 e3
    refine⟨u',r',?_⟩
    rcases q with ⟨k,e⟩ | ⟨k,c,e,z⟩
    ·refine .inl ⟨k,?_⟩
     have:y ≠ x:=fun e=>hj (lR hN e1 (e ▸ hi))
     simp[this,e]
    ·exact .inr ⟨k,c,e,z.sameBut hs (Fm y c e)⟩
  ·obtain⟨w',z⟩:=I.cell y c e
   exact⟨w',z.sameBut hs (Fm y c e)⟩
  ·obtain⟨e,n,ne,nf,d⟩:=I.pin p hp
   exact⟨(hs.2 p.1 ne).trans e,n,ne,nf,d⟩
 ·have NJ:X.fn x=true:=by
   rcases hf with z | z
   ·exact z
   ·rw[z]at hk;cases hk
  obtain⟨c,hc⟩:=I.ok.has x (.inl hk)
  obtain⟨w',z⟩:=I.cell x c hc
  refine wpAny_storeName_cell I.ok.kind hk hc z (fun h' CL hs=>?_)
  obtain⟨oc,Th,NK⟩:=id z
  refine h { s with heap:=h' } ⟨I.ok,I.os,I.bare,⟨fun b o e n hb hx=>?_,fun b o e n hb hx=>?_,I.base.free,fun b o e hx=>?_,I.base.Ba,I.base.AK,I.base.Bb⟩,⟨m,hn.sameBut hs (Ne.symm (Fm x c hc)),fun j y v' e1 e2 e3=>?_⟩,fun y c' e=>?_,I.free,I.zo,fun p hp=>?_,tracked ⟨oc,Th,I.zo x c hc⟩ hs,by simpa using I.len⟩ ⟨c,hs, .inr hc⟩
  ·exact(hs.2 b (ne_of_lt (lt_of_lt_of_le (lt_size e) (I.ok.Ig x c NJ hc)))).trans (I.base.keep b o e n hb hx)
  ·obtain⟨sl,e1⟩:=I.base.slot b o e n hb hx
   exact⟨sl,(hs.2 b (ne_of_lt (lt_of_lt_of_le (lt_size e) (I.ok.Ig x c NJ hc)))).trans e1⟩
  ·obtain⟨o',e1⟩:=I.base.there b o e hx
   exact⟨o',(hs.2 b (ne_of_lt (lt_of_lt_of_le (lt_size e) (I.ok.Ig x c NJ hc)))).trans e1⟩
  ·by_cases hj:j=i
   ·subst hj
    rw[hi]at e1;cases e1
    rw[List.getElem?_set_self Ii]at e2
    cases e2
    exact⟨u,r, .inr ⟨.inl hk,c,hc,CL⟩⟩
   ·rw[getElem?_set_ne (Ne.symm hj)]at e2
    obtain⟨u',r',q⟩:=hl j y v' e1 e2 e3
    refine⟨u',r',?_⟩
    rcases q with q | ⟨k,c',e,z'⟩
    ·exact .inl q
    ·refine .inr ⟨k,c',e,z'.sameBut hs ?_⟩
     rintro rfl
     exact hj (lR hN e1 (I.ok.inj _ _ _ e hc ▸ hi))
  ·by_cases Mo:c' = c
   ·subst Mo;exact⟨_,CL⟩
   ·obtain⟨w2,z2⟩:=I.cell y c' e
    exact⟨w2,z2.sameBut hs Mo⟩
  ·obtain⟨e,n,ne,nf,d⟩:=I.pin p hp
   refine⟨(hs.2 p.1 ?_).trans e,n,ne,nf,d⟩
   intro q
   rw[q,Th]at e
   have q':oc=p.2:=Option.some.inj e
   exact d w' (by rw[← q'];exact NK)
theorem iD {M:Model}{A:Around}{E:Value->Shared->Prop}{i:Nat}{x:Str}{v:V}{u:Value}{Q:Unit->Shared->Prop}(I:Inv X pins σ H s)(hN:X.N.Nodup)(hi:X.N[i]? = some x)(hx:Loc X.env.scope x)(r:RelV v u)
  (h:∀ s',Inv X pins (σ.set i (some v)) H s'->Q () s') (hf:autoParam (X.fn x=true∨X.env.scope.names.lookup x=some .local) ζ):wpAny M A (storeName X.env x u) Q E s :=
 jA I hN hi hx r (fun s' I' _=>h s' I') hf
theorem Inv.Ij {s':Shared}{ch:List Addr}(I:Inv X pins σ H s)(ho:s'.os=s.os)(u:Un (pB X.stack) ch H H' s.heap s'.heap)(yE:Ab X.prog X.w H' s'.heap)(hg:AllBare s'.gens)
  (Dz:∀ b ∈ ch,(b ∈ X.ex∨X.s₀.heap.objs.size <= b)/\b ≠ X.env.locals/\(∀ x c,X.env.cells.lookup x=some c->c ≠ b)/\∀ p ∈ X.pn ++ pins,p.1 ≠ b):Inv X pins σ H' s':=by
 obtain⟨h',g',d',t',o'⟩:=s'
 have e:o' = s.os:=ho
 subst e
 exact I.call (g':=g') (t':=t') (d':=d') u yE hg Dz
end
abbrev XK:=Value->Option Addr->Hp->Prop
abbrev St:=List (Option V)
abbrev VK:=V->Hp->Prop
abbrev TE:=St->Hp->VK->Prop
abbrev TT:=St->Hp->(Bool->Hp->Prop)->Prop
abbrev TA:=St->Hp->(List V->Hp->Prop)->Prop
structure mR where
 nx:St->Hp->Prop
 rt:VK
 bk:St->Hp->Prop:=fun _ _=>False
 ct:St->Hp->Prop:=fun _ _=>False
abbrev TS:=mR->St->Hp->Prop
noncomputable def EP (X:Cx)(pins:List (Addr × Obj))(σ:St)(Q:VK)(u:Value)(s':Shared):Prop:=∃ v H',Inv X pins σ H' s'/\RelV v u/\Q v H'
noncomputable def TP (X:Cx)(pins:List (Addr × Obj))(σ:St)(Q:Bool->Hp->Prop)(b:Bool)(s':Shared):Prop:=∃ H',Inv X pins σ H' s'/\Q b H'
noncomputable def AP (X:Cx)(pins:List (Addr × Obj))(σ:St)(Q:List V->Hp->Prop)(us:List Value)(s':Shared):Prop:=∃ vs H',Inv X pins σ H' s'/\Vals vs us/\Q vs H'
noncomputable def SP (X:Cx)(pins:List (Addr × Obj))(D:mR)(f:Flow)(s':Shared):Prop :=
 match f with
 | .next=>∃ σ' H',Inv X pins σ' H' s'/\D.nx σ' H'
 | .brk=>∃ σ' H',Inv X pins σ' H' s'/\D.bk σ' H'
 | .cont=>∃ σ' H',Inv X pins σ' H' s'/\D.ct σ' H'
 | .ret u=>∃ v σ' H',Inv X pins σ' H' s'/\RelV v u/\D.rt v H'
noncomputable def PE (X:Cx)(e:Expr)(t:TE):Prop :=
 ∀ (pins:List (Addr × Obj))(s:Shared)(σ:St)(H:Hp)(Q:VK),Inv X pins σ H s->t σ H Q->wpAny (model X.prog X.w) X.A (eval e X.env) (EP X pins σ Q) X.xe s
noncomputable def PT (X:Cx)(e:Expr)(t:TT):Prop :=
 ∀ (pins:List (Addr × Obj))(s:Shared)(σ:St)(H:Hp)(Q:Bool->Hp->Prop),Inv X pins σ H s->t σ H Q->wpAny (model X.prog X.w) X.A (isTrue e X.env (eval e X.env)) (TP X pins σ Q) X.xe s
noncomputable def PW (X:Cx)(e:Expr)(t:TT):Prop :=
 ∀ (whole:Sem Value)(pins:List (Addr × Obj))(s:Shared)(σ:St)(H:Hp)(Q:Bool->Hp->Prop),Inv X pins σ H s->t σ H Q->wpAny (model X.prog X.w) X.A (isTrue e X.env whole) (TP X pins σ Q) X.xe s
theorem PW.pt {X:Cx}{e:Expr}{t:TT}(h:PW X e t):PT X e t:=h _
noncomputable def PA (X:Cx)(es:List Expr)(t:TA):Prop :=
 ∀ (pos:Pos)(pins:List (Addr × Obj))(s:Shared)(σ:St)(H:Hp)(Q:List V->Hp->Prop),Inv X pins σ H s->t σ H Q->wpAny (model X.prog X.w) X.A (spliced (backTo pos (starEach es X.env))) (AP X pins σ Q) X.xe s
noncomputable def PS (X:Cx)(st:Stmt)(t:TS):Prop :=
 ∀ (pins:List (Addr × Obj))(s:Shared)(σ:St)(H:Hp)(D:mR),Inv X pins σ H s->t D σ H->wpAny (model X.prog X.w) X.A (exec st X.env) (SP X pins D) X.xe s
noncomputable def BZ (X:Cx)(st:List Stmt)(t:TS):Prop :=
 ∀ (pins:List (Addr × Obj))(s:Shared)(σ:St)(H:Hp)(D:mR),Inv X pins σ H s->t D σ H->wpAny (model X.prog X.w) X.A (execs st X.env) (SP X pins D) X.xe s
theorem b5 {α:Type}{t:Sem α}{Q Q':α->Shared->Prop}{M:Model}{A:Around}{E:Value->Shared->Prop}{s:Shared}(h:wpAny M A t Q E s)(hQ:∀ a s,Q a s->Q' a s):wpAny M A t Q' E s:=wpAny_mono h hQ fun _ _ x=>x
section
variable {X:Cx}
noncomputable def gY (i:Nat):TE:=fun σ H Q=>∃ v,σ[i]? = some (some v)/\Q v H
noncomputable def tC (v:V):TE:=fun _ H Q=>Q v H
theorem wW {i:Nat}{x:Str}{pos:Pos}(hN:X.N[i]? = some x)(hv:Mj X.env.scope x)(hd:autoParam ((x == ("__debug__":Str))=false) θ)(BD:autoParam ((x == ("__classdict__":Str))=false) θ):PE X (.Name x pos) (gY i):=by
 intro pins s σ H Q I h
 obtain⟨v,e,h⟩:=h
 obtain⟨m,hn,hl⟩:=I.loc
 obtain⟨u,r,l⟩:=hl i x v hN e hv
 have fin:EP X pins σ Q u s:=⟨v,H,I,r,h⟩
 rcases l with ⟨hk,hm⟩ | ⟨hk,c,hc,Ca⟩
 ·exact wpAny_Name (wpAny_loadName_local I.ok.kind hk hn hm fin) hd
 ·rcases hk with hk | hk
  ·exact wpAny_Name (wpAny_loadName_cell I.ok.kind hk hc Ca fin) hd
  ·exact wpAny_Name (wpAny_loadName_free I.ok.kind hk hc Ca fin BD) hd
theorem ai {i j pos}:PE X (.Constant (.int i) j pos) (tC (.int i)):=fun _ _ _ H _ I h=>wpAny_Constant_int ⟨.int i,H,I.tok _,⟨_,rfl⟩,h⟩
theorem dA {b j pos}:PE X (.Constant (.bool b) j pos) (tC (.bl b)):=fun _ _ _ H _ I h=>Constant_bool ⟨.bl b,H,I,rfl,h⟩
theorem bS {j pos}:PE X (.Constant .none j pos) (tC .yK):=fun _ _ _ H _ I h=>Constant_none ⟨.yK,H,I,rfl,h⟩
theorem bP {x j pos}:PE X (.Constant (.str x) j pos) (tC (.str x)):=fun _ _ _ H _ I h=>Calls.Constant_str ⟨.str x,H,I.tok _,⟨_,rfl⟩,h⟩
noncomputable def Gl (X:Cx)(x:Str):Prop:=X.env.kindOf x=some .globalImplicit
theorem lb {E:Value->Shared->Prop}{pins:List (Addr × Obj)}{s:Shared}{σ:St}{H:Hp}{x:Str}{u:Value}{pos:Pos}{Q:Value->Shared->Prop}(I:Inv X pins σ H s)(hg:Gl X x)(hm:X.mg x=some u)(h:Q u s)
  (hd:autoParam ((x == ("__debug__":Str))=false) θ):wpAny (model X.prog X.w) X.A (eval (.Name x pos) X.env) Q E s :=
 Calls.Name_function_global I.ok.kind hg (Calls.loadGlobal_global (by rw[I.ok.glob];exact I.mod.glob.keeps I.bk) hm h) hd
theorem eC {E:Value->Shared->Prop}{pins:List (Addr × Obj)}{s:Shared}{σ:St}{H:Hp}{x:Str}{u:Value}{pos:Pos}{Q:Value->Shared->Prop}(I:Inv X pins σ H s)(hg:Gl X x)(hm:X.mg x=none)(hv:bootBuiltins x=some u)(h:Q u s)
  (hn:autoParam (x ≠ "__name__") θ) (hd:autoParam ((x == ("__debug__":Str))=false) θ):wpAny (model X.prog X.w) X.A (eval (.Name x pos) X.env) Q E s:=by
 obtain⟨mb,h1,h2⟩:=I.mod.blt
 exact Calls.Name_function_global I.ok.kind hg (Calls.loadGlobal_builtin (by rw[I.ok.glob];exact I.mod.glob.keeps I.bk) hm (by rw[I.ok.blt];exact h1.keeps I.bk) ((h2 x hn).trans hv) h) hd
theorem eN {x:Str}{v:V}{u:Value}{pos:Pos}(hg:Gl X x)(hm:X.mg x=some u)(r:RelV v u)(hd:autoParam ((x == ("__debug__":Str))=false) θ):PE X (.Name x pos) (tC v) :=
 fun _ _ _ H _ I h=>lb I hg hm ⟨v,H,I,r,h⟩ hd
theorem eO {x:Str}{v:V}{u:Value}{pos:Pos}(hg:Gl X x)(hm:X.mg x=none)(hv:bootBuiltins x=some u)(r:RelV v u)(hn:autoParam (x ≠ "__name__") θ)(hd:autoParam ((x == ("__debug__":Str))=false) θ):PE X (.Name x pos) (tC v) :=
 fun _ _ _ H _ I h=>eC I hg hm hv ⟨v,H,I,r,h⟩ hn hd
variable {a b:Expr}{ta tb:TE}{pos:Pos}
noncomputable def PC (X:Cx)(op:CmpOp)(a b:Expr)(t:TE):Prop :=
 ∀ (pins:List (Addr × Obj))(s:Shared)(σ:St)(H:Hp)(Q:VK),Inv X pins σ H s->t σ H Q ->
  wpAny (model X.prog X.w) X.A (eval a X.env) (fun v s₁=>wpAny (model X.prog X.w) X.A (eval b X.env) (fun u s₂=>wpAny (model X.prog X.w) X.A (compareOp op v u) (EP X pins σ Q) X.xe s₂) X.xe s₁) X.xe s
noncomputable def tB (t:TE):TT:=fun σ H Q=>t σ H fun x H1=>∃ c,x = .bl c/\Q c H1
theorem nL {op:CmpOp}{t:TE}(h:PC X op a b t)(h1:behindInMarks op b=false:=by first | exact Ik _ (by decide) (by decide) | rfl):PT X (.Compare a [op] [b] pos) (tB t):=by
 intro pins s σ H Q I hw
 refine wpAny_isTrue_Compare1 (b5 (h pins s σ H _ I hw) fun v s1 h1=>b5 h1 fun u s2 h2=>b5 h2 fun c s3 y8=>?_) h1
 obtain⟨x,H1,I1,r1,q1⟩:=y8
 obtain⟨d,rfl,q⟩:=q1
 cases r1
 exact wpAny_truthy_bool ⟨H1,I1,q⟩
theorem bD {e:Expr}{t:TE}(h:PE X e t)(he:autoParam (∀ whole,isTrue e X.env whole=(do let v ← whole;standAt e.pos;holding [v] (truthy v))) ψ):PT X e (tB t):=by
 intro pins s σ H Q I hw
 refine isTrue_plain (b5 (h pins s σ H _ I hw) fun v s1 y8=>?_) (he _)
 obtain⟨x,H1,I1,r1,q1⟩:=y8
 obtain⟨d,rfl,q⟩:=q1
 cases r1
 exact wpAny_truthy_bool ⟨H1,I1,q⟩
variable {tA Mp:TT}{rest:List Expr}
noncomputable def NM (t u:TT):TT:=fun σ H Q=>t σ H fun c H1=>if c=true then u σ H1 Q else Q false H1
noncomputable def tOr (t u:TT):TT:=fun σ H Q=>t σ H fun c H1=>if c=true then Q true H1 else u σ H1 Q
noncomputable def NN (t:TT):TT:=fun σ H Q=>t σ H fun c H1=>Q (!c) H1
theorem fX (ha:PT X a tA):PW X (.BoolOp .And [a] pos) tA:=by
 intro wh pins s σ H Q I h
 refine isTrue_and (b5 (ha pins s σ H Q I h) fun c s1 e=>?_)
 cases c with
 | true=>exact isTrue_and_nil e
 | false=>exact e
theorem fH (ha:PT X a tA):PW X (.BoolOp .Or [a] pos) tA:=by
 intro wh pins s σ H Q I h
 refine isTrue_or (b5 (ha pins s σ H Q I h) fun c s1 e=>?_)
 cases c with
 | false=>exact isTrue_or_nil e
 | true=>exact e
theorem gA (ha:PT X a tA)(hb:PW X (.BoolOp .And (b :: rest) pos) Mp):PW X (.BoolOp .And (a :: b :: rest) pos) (NM tA Mp):=by
 intro wh pins s σ H Q I h
 refine isTrue_and (b5 (ha pins s σ H _ I h) fun c s1 y8=>?_)
 obtain⟨H1,I1,q1⟩:=y8
 cases c with
 | true=>exact hb wh pins s1 σ H1 Q I1 q1
 | false=>exact⟨H1,I1,q1⟩
theorem iT (ha:PT X a tA)(hb:PW X (.BoolOp .Or (b :: rest) pos) Mp):PW X (.BoolOp .Or (a :: b :: rest) pos) (tOr tA Mp):=by
 intro wh pins s σ H Q I h
 refine isTrue_or (b5 (ha pins s σ H _ I h) fun c s1 y8=>?_)
 obtain⟨H1,I1,q1⟩:=y8
 cases c with
 | true=>exact⟨H1,I1,q1⟩
 | false=>exact hb wh pins s1 σ H1 Q I1 q1
theorem ck (ha:PT X a tA):PT X (.UnaryOp .Not a pos) (NN tA):=by
 intro pins s σ H Q I h
 exact isTrue_not (ha pins s σ H (fun c H1=>Q (!c) H1) I h)
noncomputable def Il (ta tb:TE):TE:=fun σ H Q=>ta σ H fun x H1=>∃ c,x = .bl c/\if c=true then tb σ H1 Q else Q (.bl false) H1
noncomputable def NO (ta tb:TE):TE:=fun σ H Q=>ta σ H fun x H1=>∃ c,x = .bl c/\if c=true then Q (.bl true) H1 else tb σ H1 Q
noncomputable def Im (ta:TE):TE:=fun σ H Q=>ta σ H fun x H1=>∃ c,x = .bl c/\Q (.bl (!c)) H1
theorem cF {op} {t:TE} (h:PE X a t):PE X (.BoolOp op [a] pos) t:=fun pins s σ H Q I hw=>BoolOp_one (h pins s σ H Q I hw)
theorem cG (ha:PE X a ta)(hb:PE X (.BoolOp .And (b :: rest) pos) tb):PE X (.BoolOp .And (a :: b :: rest) pos) (Il ta tb):=by
 intro pins s σ H Q I h
 refine BoolOp_and (b5 (ha pins s σ H _ I h) fun v s1 y8=>?_)
 obtain⟨x,H1,I1,r1,q1⟩:=y8
 obtain⟨c,rfl,q1⟩:=q1
 cases r1
 refine wpAny_truthy_bool ?_
 cases c with
 | true=>exact hb pins s1 σ H1 Q I1 q1
 | false=>exact⟨.bl false,H1,I1,rfl,q1⟩
theorem Io (ha:PE X a ta)(hb:PE X (.BoolOp .Or (b :: rest) pos) tb):PE X (.BoolOp .Or (a :: b :: rest) pos) (NO ta tb):=by
 intro pins s σ H Q I h
 refine BoolOp_or (b5 (ha pins s σ H _ I h) fun v s1 y8=>?_)
 obtain⟨x,H1,I1,r1,q1⟩:=y8
 obtain⟨c,rfl,q1⟩:=q1
 cases r1
 refine wpAny_truthy_bool ?_
 cases c with
 | false=>exact hb pins s1 σ H1 Q I1 q1
 | true=>exact⟨.bl true,H1,I1,rfl,q1⟩
theorem kP (ha:PE X a ta):PE X (.UnaryOp .Not a pos) (Im ta):=by
 intro pins s σ H Q I h
 refine UnaryOp_ (b5 (ha pins s σ H _ I h) fun v s1 y8=>?_)
 obtain⟨x,H1,I1,r1,q1⟩:=y8
 obtain⟨c,rfl,q1⟩:=q1
 cases r1
 exact not_of (wpAny_truthy_bool ⟨.bl (!c),H1,I1,rfl,q1⟩)
noncomputable def tIf (t:TT)(ta tb:TE):TE:=fun σ H Q=>t σ H fun c H1=>if c=true then ta σ H1 Q else tb σ H1 Q
theorem cR {c:Expr}(hc:PT X c tA)(ha:PE X a ta)(hb:PE X b tb):PE X (.IfExp c a b pos) (tIf tA ta tb):=by
 intro pins s σ H Q I h
 refine wpAny_IfExp (b5 (hc pins s σ H _ I h) fun d s1 y8=>?_)
 obtain⟨H1,I1,q1⟩:=y8
 cases d with
 | true=>exact ha pins s1 σ H1 Q I1 q1
 | false=>exact hb pins s1 σ H1 Q I1 q1
end
noncomputable def y6 (K:Frag)(H:Hp)(a:Addr)(xs:List V):Prop :=
 Rd H a (.lst xs) ∨
  ∃ (o:Obj)(y9:Array Value)(n:Nat),K.lookup a=some o/\o.cls = .type "list"/\o.dict=none/\o.data = .seq y9 n/\y9.size <= sizeLine/\Vals xs y9.toList
noncomputable def yD (K:Frag)(H:Hp)(a:Addr)(xs:List V):Prop :=
 Rd H a (.tup xs) ∨
  ∃ (o:Obj)(y9:Array Value)(n:Nat),K.lookup a=some o/\o.cls = .type "tuple"/\o.data = .seq y9 n/\y9.size <= sizeLine/\Vals xs y9.toList
noncomputable def NP:Value->Option V
 | .none=>some .yK
 | .bool b=>some (.bl b)
 | .int i _=>some (.int i)
 | .str x _=>some (.str x)
 | .bytes b _=>some (.BW b)
 | .float b _=>some (.Fj b)
 | .ref a=>some (.ref a)
 | .type n=>some (.ty n)
 | _=>none
theorem RelV.abs {x:V}{u:Value}(r:RelV x u):NP u=some x:=by
 cases x with
 | yK=>cases r;rfl
 | bl _=>cases r;rfl
 | int _=>obtain⟨t,rfl⟩:=r;rfl
 | str _=>obtain⟨t,rfl⟩:=r;rfl
 | BW _=>obtain⟨t,rfl⟩:=r;rfl
 | Fj _=>obtain⟨t,rfl⟩:=r;rfl
 | ref _=>cases r;rfl
 | ty _=>cases r;rfl
theorem RelV.inj {x y:V}{u:Value}(r:RelV x u)(q:RelV y u):x=y:=Option.some.inj (r.abs.symm.trans q.abs)
theorem Vals.inj:∀ {xs ys:List V}{us:List Value},Vals xs us->Vals ys us->xs=ys
 | _,_,_, .nil, .nil=>rfl
 | _,_,_, .cons r t, .cons r' t'=>by rw[r.inj r',Vals.inj t t']
section
variable {X:Cx}{pins:List (Addr × Obj)}{σ:St}{H:Hp}{s:Shared}{a:Addr}{xs ys:List V}
theorem y6.of {K:Frag}(h:H a=some (.lst xs)):y6 K H a xs := .inl (.inl h)
theorem yD.of {K:Frag}(h:H a=some (.tup xs)):yD K H a xs := .inl (.inl h)
theorem Inv.list (I:Inv X pins σ H s)(h:y6 X.K H a xs):∃ y9:List Value,Vals xs y9/\PlainL s.heap a y9.toArray/\xs.length <= sizeLine:=by
 rcases h with h | ⟨o,y9,n,hk,hc,hd,hs,hz,r⟩
 ·obtain⟨z,y9,n,r,e⟩:=h.ok I.yE
  exact⟨y9,r,⟨_,n,e,rfl,rfl,rfl⟩,z⟩
 ·refine⟨y9.toList,r,⟨o,n,I.Ae a o hk,hc,hd,by simpa using hs⟩,?_⟩
  have e:=r.length
  simp only[Array.length_toList]at e
  omega
theorem Inv.tuple (I:Inv X pins σ H s)(h:yD X.K H a xs):∃ y9:List Value,Vals xs y9/\IsTup s.heap a y9.toArray/\xs.length <= sizeLine:=by
 rcases h with h | ⟨o,y9,n,hk,hc,hs,hz,r⟩
 ·obtain⟨z,y9,r,p⟩:=h.ok I.yE
  exact⟨y9,r,p.isTup,z⟩
 ·refine⟨y9.toList,r,⟨o,I.Ae a o hk,hc,n,by simpa using hs⟩,?_⟩
  have e:=r.length
  simp only[Array.length_toList]at e
  omega
theorem Inv.Bv (I:Inv X pins σ H s)(h:y6 X.K H a xs)(h':y6 X.K H a ys):xs=ys:=by
 obtain⟨y9,r,⟨o,n,e,_,_,d⟩,_⟩:=I.list h
 obtain⟨its',r',⟨o',n',e',_,_,d'⟩,_⟩:=I.list h'
 rw[e]at e';cases e'
 rw[d]at d'
 injection d' with d1 _
 have:y9=its':=by simpa using congrArg Array.toList d1
 subst this
 exact r.inj r'
theorem Inv.AU (I:Inv X pins σ H s)(h:yD X.K H a xs)(h':yD X.K H a ys):xs=ys:=by
 obtain⟨y9,r,⟨o,e,_,n,d⟩,_⟩:=I.tuple h
 obtain⟨its',r',⟨o',e',_,n',d'⟩,_⟩:=I.tuple h'
 rw[e]at e';cases e'
 rw[d]at d'
 injection d' with d1 _
 have:y9=its':=by simpa using congrArg Array.toList d1
 subst this
 exact r.inj r'
end
abbrev Cx.AL (X:Cx)(E:Value->Shared->Prop):Cx:={ X with xe:=E }
abbrev Cx.Hi (X:Cx):Cx:=X.AL fun _ _=>False
theorem Cx.Ok.AL {X:Cx}(ok:X.Ok)(E:Value->Shared->Prop):(X.AL E).Ok :=
 ⟨ok.mod,ok.kind,ok.glob,ok.blt,ok.above,ok.inj,ok.has,ok.Ig,ok.hd,ok.frames,ok.Mm,ok.Te,ok.bs,ok.DI,ok.CK,ok.DJ,ok.Aq,ok.Fl⟩
theorem Cx.Ok.zG {X:Cx}{E:Value->Shared->Prop}(ok:(X.AL E).Ok):X.Ok :=
 ⟨ok.mod,ok.kind,ok.glob,ok.blt,ok.above,ok.inj,ok.has,ok.Ig,ok.hd,ok.frames,ok.Mm,ok.Te,ok.bs,ok.DI,ok.CK,ok.DJ,ok.Aq,ok.Fl⟩
section
variable {X:Cx}{pins:List (Addr × Obj)}{σ:St}{H:Hp}{s:Shared}{E:Value->Shared->Prop}
theorem Inv.AL (I:Inv X pins σ H s)(E:Value->Shared->Prop):Inv (X.AL E) pins σ H s:=⟨I.ok.AL E,I.os,I.bare,I.base,I.loc,I.cell,I.free,I.zo,I.pin,I.yE,I.len⟩
theorem Inv.zG (I:Inv (X.AL E) pins σ H s):Inv X pins σ H s:=⟨I.ok.zG,I.os,I.bare,I.base,I.loc,I.cell,I.free,I.zo,I.pin,I.yE,I.len⟩
theorem SP.zG {D:mR}{f:Flow}{s':Shared}(h:SP (X.AL E) pins D f s'):SP X pins D f s':=by
 cases f with
 | next=>obtain⟨σ',H',I,q⟩:=h;exact⟨σ',H',I.zG,q⟩
 | brk=>obtain⟨σ',H',I,q⟩:=h;exact⟨σ',H',I.zG,q⟩
 | cont=>obtain⟨σ',H',I,q⟩:=h;exact⟨σ',H',I.zG,q⟩
 | ret u=>obtain⟨v,σ',H',I,r,q⟩:=h;exact⟨v,σ',H',I.zG,r,q⟩
theorem BZ.Hi {st:List Stmt}{t:TS}(h:BZ X.Hi st t):BZ X st t:=fun pins s σ H D I hw =>
 wpAny_mono (h pins s σ H D (I.AL _) hw) (fun _ _ q=>q.zG) fun _ _ z=>False.elim z
end
section
variable {X:Cx}{st:Stmt}{rest:List Stmt}{t u:TS}{e:Expr}{te:TE}{pos:Pos}
noncomputable def Ip:TS:=fun D σ H=>D.nx σ H
noncomputable def NQ (t u:TS):TS:=fun D σ H=>t { D with nx:=u D } σ H
theorem aD:BZ X [] Ip:=fun _ _ σ H _ I h=>wpAny_execs_nil ⟨σ,H,I,h⟩
theorem ae (h1:PS X st t)(h2:BZ X rest u):BZ X (st :: rest) (NQ t u):=by
 intro pins s σ H D I h
 refine wpAny_execs_cons (b5 (h1 pins s σ H { D with nx:=u D } I h) fun f s1 q=>?_)
 cases f with
 | next =>
  obtain⟨σ',H',I',q⟩:=q
  exact h2 pins s1 σ' H' D I' q
 | ret v=>exact q
 | brk=>exact q
 | cont=>exact q
theorem ah (h1:PS X st t):BZ X [st] t:=by
 intro pins s σ H D I h
 refine wpAny_execs_cons (b5 (h1 pins s σ H D I h) fun f s1 q=>?_)
 cases f with
 | next=>exact wpAny_execs_nil q
 | ret v=>exact q
 | brk=>exact q
 | cont=>exact q
theorem Inv.quiet {pins:List (Addr × Obj)}{σ:St}{H:Hp}{s:Shared}(I:Inv X pins σ H s):interactive X.env=false:=by simp[interactive,I.ok.kind]
noncomputable def Iq (te:TE):TS:=fun D σ H=>te σ H fun _ H1=>D.nx σ H1
theorem aL (he:PE X e te)(hs:autoParam (swapsWith e none pos.line X.env=pure false) η):PS X (.Expr e pos) (Iq te):=by
 intro pins s σ H D I h
 exact wpAny_Expr_any (b5 (he pins s σ H _ I h) fun v s1 y8=>by obtain⟨x,H1,I1,r1,q1⟩:=y8;exact⟨σ,H1,I1,q1⟩) I.quiet hs
noncomputable def NR (te:TE):TS:=fun D σ H=>te σ H D.rt
theorem ar (he:PE X e te):PS X (.Return (some e) pos) (NR te):=by
 intro pins s σ H D I h
 exact wpAny_Return_some (b5 (he pins s σ H _ I h) fun v s1 y8=>by obtain⟨x,H1,I1,r1,q1⟩:=y8;exact⟨x,σ,H1,I1,r1,q1⟩)
noncomputable def NS (c:TT)(t u:TS):TS:=fun D σ H=>c σ H fun b H1=>if b=true then t D σ H1 else u D σ H1
theorem aP {c:Expr}{a b:List Stmt}{tc:TT}(hc:PT X c tc)(ha:BZ X a t)(hb:BZ X b u):PS X (.If c a b pos) (NS tc t u):=by
 intro pins s σ H D I h
 refine wpAny_If (b5 (hc pins s σ H _ I h) fun d s1 y8=>?_)
 obtain⟨H1,I1,q1⟩:=y8
 cases d with
 | true=>exact ha pins s1 σ H1 D I1 q1
 | false=>exact hb pins s1 σ H1 D I1 q1
noncomputable def wo:TS:=fun _ _ _=>False
theorem bJ:PS X st wo:=fun _ _ _ _ _ _ h=>h.elim
end
abbrev TG:=V->St->Hp->(St->Hp->Prop)->Prop
abbrev yu:=List V->St->Hp->(St->Hp->Prop)->Prop
noncomputable def PG (X:Cx)(target:Expr)(t:TG):Prop :=
 ∀ (pins:List (Addr × Obj))(s:Shared)(σ:St)(H:Hp)(v:V)(u:Value)(Q:St->Hp->Prop),Inv X pins σ H s->RelV v u->t v σ H Q ->
  wpAny (model X.prog X.w) X.A (assign target X.env u) (fun _ s'=>∃ σ' H',Inv X pins σ' H' s'/\Q σ' H') X.xe s
noncomputable def Mq (X:Cx)(ts:List Expr)(t:yu):Prop :=
 ∀ (pins:List (Addr × Obj))(s:Shared)(σ:St)(H:Hp)(vs:List V)(us:List Value)(Q:St->Hp->Prop),Inv X pins σ H s->Vals vs us->t vs σ H Q ->
  wpAny (model X.prog X.w) X.A (assignInOrder ((assignEach ts X.env).map (·.2)) us) (fun _ s'=>∃ σ' H',Inv X pins σ' H' s'/\Q σ' H') X.xe s
abbrev yt:=V->V->V->Hp->(Hp->Prop)->Prop
noncomputable def Ir (X:Cx)(t:yt):Prop :=
 ∀ (pins:List (Addr × Obj))(s:Shared)(σ:St)(H:Hp)(o i v:V)(ov iv u:Value)(Q:Hp->Prop),Inv X pins σ H s->RelV o ov->RelV i iv->RelV v u->t o i v H Q ->
  wpAny (model X.prog X.w) X.A (setItem ov iv u) (fun _ s'=>∃ H',Inv X pins σ H' s'/\Q H') X.xe s
abbrev Mr:=V->V->Hp->VK->Prop
noncomputable def Ti (X:Cx)(op:Operator)(t:Mr):Prop :=
 ∀ (pins:List (Addr × Obj))(s:Shared)(σ:St)(H:Hp)(x y:V)(v u:Value)(Q:VK),Inv X pins σ H s->RelV x v->RelV y u->t x y H Q ->
  wpAny (model X.prog X.w) X.A (inplaceOp op v u) (EP X pins σ Q) X.xe s
section
variable {X:Cx}{pos:Pos}
noncomputable def cf (i:Nat):TG:=fun v σ H Q=>Q (σ.set i (some v)) H
theorem ay {i:Nat}{x:Str}(hN:X.N.Nodup)(hi:X.N[i]? = some x)(hx:Loc X.env.scope x)(hf:autoParam (X.fn x=true∨X.env.scope.names.lookup x=some .local) ζ):PG X (.Name x pos) (cf i):=by
 intro pins s σ H v u Q I r h
 exact wpAny_assign_Name (iD I hN hi hx r (fun s' I'=>⟨_,H,I',h⟩) hf)
noncomputable def NU:yu:=fun vs σ H Q=>vs=[]/\Q σ H
noncomputable def Iu (t:TG)(u:yu):yu:=fun vs σ H Q=>∃ v r,vs=v :: r/\t v σ H fun σ' H'=>u r σ' H' Q
theorem eM:Mq X [] NU:=by
 intro pins s σ H vs us Q I r h
 obtain⟨e,h⟩:=h
 subst e
 cases r
 exact assignInOrder_nil ⟨σ,H,I,h⟩
theorem bF {e:Expr}{es:List Expr}{t:TG}{u:yu}(h1:PG X e t)(h2:Mq X es u)
  (hs:autoParam ((assignEach (e :: es) X.env).map (·.2)=assign e X.env :: (assignEach es X.env).map (·.2)) η):Mq X (e :: es) (Iu t u):=by
 intro pins s σ H vs us Q I r h
 obtain⟨v,vr,e1,h⟩:=h
 subst e1
 cases r with
 | cons r rr =>
  rw[hs]
  refine assignInOrder_cons (b5 (h1 pins s σ H _ _ _ I r h) fun _ s1 y8=>?_)
  obtain⟨σ1,H1,I1,q1⟩:=y8
  exact h2 pins s1 σ1 H1 _ _ Q I1 rr q1
noncomputable def yf (K:Frag)(n:Nat)(t:yu):TG:=fun v σ H Q=>∃ a xs,v = .ref a/\yD K H a xs/\xs.length=n/\t xs σ H Q
theorem gE {es:List Expr}{k:Nat}{t:yu}{n:Nat}(hc:X.calm=true)(h:Mq X es t)
  (hn:autoParam ((assignEach es X.env).length=n) η) (Bp:autoParam ((assignEach es X.env).findIdx? (·.1)=none) η):PG X (.Tuple es k pos) (yf X.K n t):=by
 intro pins s σ H v u Q I r hw
 obtain⟨a,xs,e1,hq,hl,hw⟩:=hw
 subst e1
 cases r
 obtain⟨y9,rv,ht,hz⟩:=I.tuple hq
 refine assign_Tuple_tuple (I.ok.hd hc) ht (by simp[hn,← hl,rv.length]) Bp fun h' hx=>?_
 have I1:Inv X pins σ H { s with heap:=h' }:=I.kept (t':=s.toks) fun b o e=>hx b o (ne_of_lt (lt_size e)) e
 exact h pins _ σ H xs _ Q I1 (by simpa using rv) hw
noncomputable def NV (to ti:TE)(t:yt):TG:=fun v σ H Q=>to σ H fun o H1=>ti σ H1 fun i H2=>t o i v H2 fun H3=>Q σ H3
theorem nM {o i:Expr}{to ti:TE}{t:yt}(ho:PE X o to)(hi:PE X i ti)(hs:Ir X t)
  (ha:∀ v,assign (.Subscript o i pos) X.env v=(do
   let ov ← holding [v] (eval o X.env)
   let iv ← holding [v,ov] (eval i X.env)
   standAt pos
   holding [v,ov,iv] (setItem ov iv v)
   release [v,ov,iv] []):=by intro _;rfl):PG X (.Subscript o i pos) (NV to ti t):=by
 intro pins s σ H v u Q I r h
 rw[ha]
 refine wpAny_bind (wpAny_holding (b5 (ho pins s σ H _ I h) fun ov s1 y8=>?_))
 obtain⟨x,H1,I1,r1,q1⟩:=y8
 refine wpAny_bind (wpAny_holding (b5 (hi pins s1 σ H1 _ I1 q1) fun iv s2 y8=>?_))
 obtain⟨y,H2,I2,r2,q2⟩:=y8
 refine wpAny_bind (wpAny_standAt (wpAny_bind (wpAny_holding (b5 (hs pins s2 σ H2 x y v ov iv u _ I2 r1 r2 r q2) fun _ s3 y8=>?_))))
 obtain⟨H3,I3,q3⟩:=y8
 exact wpAny_release ⟨σ,H3,I3,q3⟩
noncomputable def wu (te:TE)(g:TG):TS:=fun D σ H=>te σ H fun x H1=>g x σ H1 D.nx
theorem iX {tg e:Expr}{te:TE}{g:TG}(he:PE X e te)(hg:PG X tg g)(hs:autoParam (swapsWithSole [tg] e pos.line X.env=pure false) η)(hw:autoParam (swappedStores [tg] e X.env=pure none) η)
  (h1:autoParam ((assignEach [tg] X.env).map (·.2)=[assign tg X.env]) η):PS X (.Assign [tg] e pos) (wu te g):=by
 intro pins s σ H D I h
 refine wpAny_Assign_stores (b5 (he pins s σ H _ I h) fun v s1 y8=>?_) hs hw
 obtain⟨x,H1,I1,r1,q1⟩:=y8
 rw[h1]
 exact b5 (hg pins s1 σ H1 x v _ I1 r1 q1) fun _ s2 q=>q
theorem aw {i:Nat}{x:Str}{e:Expr}{te:TE}{pos':Pos}(hN:X.N.Nodup)(hi:X.N[i]? = some x)(hx:Loc X.env.scope x)(he:PE X e te)(hs:autoParam (swapsWith e (some (.Name x pos')) pos.line X.env=pure false) η)(hf:autoParam (X.fn x=true∨X.env.scope.names.lookup x=some .local) ζ) :
  PS X (.Assign [.Name x pos'] e pos) (wu te (cf i)):=by
 intro pins s σ H D I h
 refine wpAny_Assign_Name (b5 (he pins s σ H _ I h) fun v s1 y8=>?_) hs
 obtain⟨y,H1,I1,r1,q1⟩:=y8
 exact iD I1 hN hi hx r1 (fun s2 I2=>⟨_,H1,I2,q1⟩) hf
noncomputable def NW (i:Nat)(te:TE)(ti:Mr):TS:=fun D σ H=>∃ x,σ[i]? = some (some x)/\te σ H fun y H1=>ti x y H1 fun z H2=>D.nx (σ.set i (some z)) H2
theorem wV {i:Nat}{x:Str}{e:Expr}{te:TE}{op:Operator}{ti:Mr}{pos':Pos}(hN:X.N.Nodup)(hi:X.N[i]? = some x)(hx:Loc X.env.scope x)(he:PE X e te)(ho:Ti X op ti)(hf:autoParam (X.fn x=true∨X.env.scope.names.lookup x=some .local) ζ) :
  PS X (.AugAssign (.Name x pos') op e pos) (NW i te ti):=by
 intro pins s σ H D I h
 obtain⟨v,e1,h⟩:=h
 obtain⟨m,hn,hl⟩:=I.loc
 have vis:Mj X.env.scope x:=by rcases hx with k | k;exact .inl k;exact .inr (.inl k)
 obtain⟨u,r,l⟩:=hl i x v hi e1 vis
 refine wpAny_AugAssign_Name ?_
 have go:wpAny (model X.prog X.w) X.A (eval e X.env) (fun w s₂=>wpAny (model X.prog X.w) X.A (inplaceOp op u w) (fun r s₃=>wpAny (model X.prog X.w) X.A (storeName X.env x r) (fun _=>SP X pins D .next) X.xe s₃) X.xe s₂) X.xe s:=by
  refine b5 (he pins s σ H _ I h) fun w s1 y8=>?_
  obtain⟨y,H1,I1,r1,q1⟩:=y8
  refine b5 (ho pins s1 σ H1 v y u w _ I1 r r1 q1) fun z s2 y8=>?_
  obtain⟨zv,H2,I2,r2,q2⟩:=y8
  exact iD I2 hN hi hx r2 (fun s3 I3=>⟨_,H2,I3,q2⟩) hf
 rcases l with ⟨hk,hm⟩ | ⟨hk,c,hc,Ca⟩
 ·exact wpAny_loadName_local I.ok.kind hk hn hm go
 ·rcases hk with hk | hk
  ·exact wpAny_loadName_cell I.ok.kind hk hc Ca go
  ·rcases hx with k | k
   ·have:X.env.scope.names.lookup x=some .free:=hk
    rw[k]at this;cases this
   ·have:X.env.scope.names.lookup x=some .free:=hk
    rw[k]at this;cases this
noncomputable def ipI (f:Int->Int->Int):Mr:=fun x y H Q=>∃ i j,x = .int i/\y = .int j/\Q (.int (f i j)) H
theorem xX:Ti X .Add (ipI fun i j=>i + j):=by
 intro pins s σ H x y v u Q I r1 r2 h
 obtain⟨i,j,e1,e2,q⟩:=h
 subst e1;subst e2
 obtain⟨t,rfl⟩:=r1
 obtain⟨t',rfl⟩:=r2
 exact iadd_int ⟨.int _,H,I.tok _,⟨_,rfl⟩,q⟩
end
section
variable {X:Cx}{pos:Pos}
noncomputable def mZ (c:TT)(tb:TS):TS:=fun D σ H=>∃ W:Nat->St->Hp->Prop,(∃ m,W m σ H)/\∀ m σ H,W m σ H ->
 c σ H fun b H1=>if b=true then ∃ N:St->Hp->Prop,(∀ σ' H',N σ' H'->∃ m',m' < m/\W m' σ' H')/\tb { D with nx:=N,ct:=N,bk:=D.nx } σ H1 else D.nx σ H1
theorem iW {c:Expr}{body:List Stmt}{tc:TT}{tb:TS}(hp:PassesOwn (model X.prog X.w) X.A X.env X.xe)(hc:PT X c tc)(hb:BZ X body tb):PS X (.While c body [] pos) (mZ tc tb):=by
 intro pins s σ H D I h
 obtain⟨W,⟨m0,w0⟩,turn⟩:=h
 refine wpAny_While (codeAny_whileLoop (fun n s'=>∃ σ' H',Inv X pins σ' H' s'/\W n σ' H') ?_ m0 ⟨σ,H,I,w0⟩)
 rintro n s1 ⟨σ1,H1,I1,w1⟩
 refine wpAny_passesOwn hp (b5 (hc pins s1 σ1 H1 _ I1 (turn n σ1 H1 w1)) fun b s2 y8=>?_)
 obtain⟨H2,I2,q2⟩:=y8
 cases b with
 | true =>
  obtain⟨N,hN,q2⟩:=q2
  rw[if_pos rfl]
  refine wpAny_passesOwn hp (b5 (hb pins s2 σ1 H2 _ I2 q2) fun f s3 q3=>?_)
  cases f with
  | next =>
   obtain⟨σ3,H3,I3,n3⟩:=q3
   obtain⟨m',hm,w3⟩:=hN σ3 H3 n3
   exact⟨m',hm,σ3,H3,I3,w3⟩
  | cont =>
   obtain⟨σ3,H3,I3,n3⟩:=q3
   obtain⟨m',hm,w3⟩:=hN σ3 H3 n3
   exact⟨m',hm,σ3,H3,I3,w3⟩
  | brk=>exact q3
  | ret v=>exact q3
 | false =>
  rw[if_neg Bool.false_ne_true]
  exact wpAny_execs_nil ⟨σ1,H2,I2,q2⟩
end
structure It where
 go:Nat->Hp->Prop
 DK:Nat->Hp->V->Hp->Prop
 stop:Nat->Hp->Prop
noncomputable def eW (X:Cx)(pins:List (Addr × Obj))(H:Hp)(b:Addr):Prop :=
 H b=none/\b ≠ X.env.locals/\b ∉ X.fs/\(b ∈ X.ex∨X.s₀.heap.objs.size <= b)/\(∀ x c,X.env.cells.lookup x=some c->c ≠ b)/\∀ p ∈ X.pn ++ pins,p.1 ≠ b
theorem Inv.CM {X:Cx}{pins:List (Addr × Obj)}{σ:St}{H H':Hp}{s:Shared}{b:Addr}(I:Inv X pins σ H s)(hb:s.heap.objs.size <= b)(hn:H' b=none):eW X pins H' b:=by
 refine⟨hn,ne_of_gt (lt_of_lt_of_le I.lt hb),I.NC hb, .inr (le_trans I.sz hb),fun x c e z=>?_,fun p hp z=>?_⟩
 ·obtain⟨v,q⟩:=I.cell x c e
  exact absurd (lt_of_lt_of_le q.lt (by rw[z];exact hb)) (lt_irrefl _)
 ·exact absurd (lt_of_lt_of_le (lt_size (I.pin p hp).1) (by rw[z];exact hb)) (lt_irrefl _)
structure oC (P:Program)(w:World)(K:Frag)(tg:Expr)(J:It)(fp:List Addr)(it:Addr)(tn:Nat->Heap->Prop):Prop where
 mem:it ∈ fp
 obj:∀ i h,tn i h->∀ b ∈ fp,∃ o,h.get? b=some o/\∀ v,o.data ≠ .cell v
 keep:∀ i h h',tn i h->(∀ b ∈ fp,∀ o,h.get? b=some o->h'.get? b=some o)->tn i h'
 item:∀ (X:Cx),X.prog=P->X.w=w->X.K=K->X.calm=true->∀ (i:Nat)(pins:List (Addr × Obj))(s:Shared)(σ:St)(H:Hp)(E:Value->Shared->Prop),Inv X pins σ H s->(∀ b ∈ fp,eW X pins H b)->tn i s.heap->J.go i H ->
  wpAny (model P w) X.A (pyNext (.ref it)) (fun r s1=>∃ u,r=some u /\
   wpAny (model P w) X.A (letOwnedTupleGo tg (.ref it) u) (fun _ s2=>∃ x H',Inv X pins σ H' s2/\RelV x u/\J.DK i H x H'/\tn (i + 1) s2.heap/\∀ b ∈ fp,H' b=none) E s1) E s
 done:∀ (X:Cx),X.prog=P->X.w=w->X.K=K->X.calm=true->∀ (i:Nat)(pins:List (Addr × Obj))(s:Shared)(σ:St)(H:Hp)(E:Value->Shared->Prop),Inv X pins σ H s->(∀ b ∈ fp,eW X pins H b)->tn i s.heap->J.stop i H ->
  wpAny (model P w) X.A (pyNext (.ref it)) (fun r s1=>r=none/\Inv X pins σ H s1) E s
 self:∀ (A:Around)(i:Nat)(s:Shared)(Q:Value->Shared->Prop)(E:Value->Shared->Prop),tn i s.heap->Q (.ref it) s->wpAny (model P w) A (pyIter (.ref it)) Q E s
abbrev TI:=St->Hp->(It->Hp->Prop)->Prop
noncomputable def Tj (X:Cx)(pins:List (Addr × Obj))(σ:St)(tg:Expr)(R:It->Hp->Prop)(Ms:Value)(s2:Shared):Prop :=
 ∃ (it:Addr)(fp:List Addr)(tn:Nat->Heap->Prop)(J:It)(H':Hp),Ms = .ref it/\Inv X pins σ H' s2/\oC X.prog X.w X.K tg J fp it tn/\tn 0 s2.heap/\(∀ b ∈ fp,eW X pins H' b)/\R J H'
noncomputable def PI (X:Cx)(tg iter:Expr)(wi:TI):Prop :=
 ∀ (pins:List (Addr × Obj))(s:Shared)(σ:St)(H:Hp)(R:It->Hp->Prop),Inv X pins σ H s->wi σ H R ->
  wpAny (model X.prog X.w) X.A (eval iter X.env) (fun v s1=>wpAny (model X.prog X.w) X.A (pyIter v) (Tj X pins σ tg R) X.xe s1) X.xe s
theorem t8 {M:Model}{A:Around}{E:Value->Shared->Prop}{s:Shared}{tg:Expr}{it:Addr}{u:Value}{o:Obj}{n:String}{vs:Array Value}{Q:Unit->Shared->Prop}(ho:s.heap.get? it=some o)(hc:o.cls = .type n)(hd:o.data = .fields vs)
  (hn:["enumerate", "zip", "dict_itemiterator", "dict_reverseitemiterator", "odict_iterator", "itertools.zip_longest", "itertools.pairwise"].contains n=false) (hQ:Q () s):wpAny M A (letOwnedTupleGo tg (.ref it) u) Q E s:=by
 unfold letOwnedTupleGo
 cases tg<;>first
  | exact wpAny_pure hQ
  | (cases u<;>first
    | exact wpAny_pure hQ
    | (refine wpAny_bind (wpAny_load ho ?_)
       rw[hc,hd]
       show wpAny M A (if (["enumerate", "zip", "dict_itemiterator", "dict_reverseitemiterator", "odict_iterator", "itertools.zip_longest", "itertools.pairwise"].contains n && vs[0]? == some (rawInt _))=true then _ else _) Q E s
       rw[if_neg (by intro h;rw[hn,Bool.false_and]at h;cases h)]
       exact wpAny_pure hQ))
noncomputable def tY (K:Frag)(a:Addr):It :=
 ⟨fun i H=>∃ xs x,y6 K H a xs/\xs[i]? = some x,fun i H x H'=>H' = H/\∀ xs,y6 K H a xs->xs[i]? = some x,fun i H=>∃ xs,y6 K H a xs/\xs.length <= i⟩
noncomputable def Mu (K:Frag)(a:Addr):It :=
 ⟨fun i H=>∃ xs x,yD K H a xs/\xs[i]? = some x,fun i H x H'=>H' = H/\∀ xs,yD K H a xs->xs[i]? = some x,fun i H=>∃ xs,yD K H a xs/\xs.length <= i⟩
noncomputable def vB (lo:Int)(n:Nat):It:=⟨fun i _=>i < n,fun i H x H'=>H' = H/\x = .int (lo + i),fun i _=>n <= i⟩
theorem pP {P:Program}{w:World}{K:Frag}{tg:Expr}(a it:Addr):oC P w K tg (tY K a) [it] it (fun i h=>h.IsListIter it a i) where
 mem:=by simp
 obj:=fun i h st b hb=>by
  have e:b=it:=by simpa using hb
  subst e
  obtain⟨o,e,c,d⟩:=st
  exact⟨o,e,fun v z=>by rw[d]at z;cases z⟩
 keep:=fun i h h' st k=>st.at fun o e=>k it (by simp) o e
 item:=by
  intro X hP hw hK hc i pins s σ H E I hf st hg
  subst hP hw hK
  obtain⟨xs,x,hq,hx⟩:=hg
  obtain⟨y9,rv,p,hz⟩:=I.list hq
  obtain⟨u,hu,ru⟩:=rv.get hx
  obtain⟨f0,f1,f2,f3,f4,f5⟩:=hf it (by simp)
  refine wpAny_pyNext_list_item st p.isList (x:=u) (by simpa using hu) fun h' E5 sb=>?_
  have I1:Inv X pins σ H { s with heap:=h' }:=I.turned (t':=s.toks) (fun b o hb e=>(sb.2 b hb).trans e) f0 f1 f3 f4 f5
  obtain⟨o,e,c,d⟩:=id E5
  exact⟨u,rfl,t8 (s:={ s with heap:=h' }) e c d (by decide) ⟨x,H,I1,ru,⟨rfl,fun ys hy=>by rw[I.Bv hy hq];exact hx⟩,E5,fun b hb=>(hf b hb).1⟩⟩
 done:=by
  intro X hP hw hK hc i pins s σ H E I hf st hg
  subst hP hw hK
  obtain⟨xs,hq,hx⟩:=hg
  obtain⟨y9,rv,p,hz⟩:=I.list hq
  obtain⟨f0,f1,f2,f3,f4,f5⟩:=hf it (by simp)
  have hl:=rv.length
  exact wpAny_pyNext_list_end (I.ok.hd hc) st p.isList (by simp;omega) fun h' eb=>⟨rfl,I.turned (t':=s.toks) (fun b o hb e=>eb b o hb e) f0 f1 f3 f4 f5⟩
 self:=fun _ _ _ _ _ st h=>wpAny_pyIter_listiter st h
theorem mU {P:Program}{w:World}{K:Frag}{tg:Expr}(a it:Addr):oC P w K tg (Mu K a) [it] it (fun i h=>h.IsTupleIter it a i) where
 mem:=by simp
 obj:=fun i h st b hb=>by
  have e:b=it:=by simpa using hb
  subst e
  obtain⟨o,e,c,d⟩:=st
  exact⟨o,e,fun v z=>by rw[d]at z;cases z⟩
 keep:=fun i h h' st k=>st.at fun o e=>k it (by simp) o e
 item:=by
  intro X hP hw hK hc i pins s σ H E I hf st hg
  subst hP hw hK
  obtain⟨xs,x,hq,hx⟩:=hg
  obtain⟨y9,rv,p,hz⟩:=I.tuple hq
  obtain⟨u,hu,ru⟩:=rv.get hx
  obtain⟨f0,f1,f2,f3,f4,f5⟩:=hf it (by simp)
  refine wpAny_pyNext_tuple_item st (show s.heap.IsTuple a y9.toArray from p) (x:=u) (by simpa using hu) fun h' E5 sb=>?_
  have I1:Inv X pins σ H { s with heap:=h' }:=I.turned (t':=s.toks) (fun b o hb e=>(sb.2 b hb).trans e) f0 f1 f3 f4 f5
  obtain⟨o,e,c,d⟩:=id E5
  exact⟨u,rfl,t8 (s:={ s with heap:=h' }) e c d (by decide) ⟨x,H,I1,ru,⟨rfl,fun ys hy=>by rw[I.AU hy hq];exact hx⟩,E5,fun b hb=>(hf b hb).1⟩⟩
 done:=by
  intro X hP hw hK hc i pins s σ H E I hf st hg
  subst hP hw hK
  obtain⟨xs,hq,hx⟩:=hg
  obtain⟨y9,rv,p,hz⟩:=I.tuple hq
  obtain⟨f0,f1,f2,f3,f4,f5⟩:=hf it (by simp)
  have hl:=rv.length
  exact wpAny_pyNext_tuple_end (I.ok.hd hc) st (show s.heap.IsTuple a y9.toArray from p) (by simp;omega) fun h' eb=>⟨rfl,I.turned (t':=s.toks) (fun b o hb e=>eb b o hb e) f0 f1 f3 f4 f5⟩
 self:=fun _ _ _ _ _ st h=>wpAny_pyIter_tupleiter st h
theorem mV {P:Program}{w:World}{K:Frag}{tg:Expr}(it:Addr)(lo:Int)(n:Nat):oC P w K tg (vB lo n) [it] it (fun i h=>IsRangeIter h it (lo + (i:Nat) * 1) ((n:Int) - (i:Nat)) 1) where
 mem:=by simp
 obj:=fun i h st b hb=>by
  have e:b=it:=by simpa using hb
  subst e
  exact⟨_,st,fun v z=>by
   have z':Data.fields _=Data.cell v:=z
   cases z'⟩
 keep:=fun i h h' st k=>k it (by simp) _ st
 item:=by
  intro X hP hw hK hc i pins s σ H E I hf st hg
  subst hP hw hK
  obtain⟨f0,f1,f2,f3,f4,f5⟩:=hf it (by simp)
  have W:=Walks.range (prog:=X.prog) (w:=X.w) (I.ok.hd hc) it lo 1 n
  refine W.item i s _ _ hg st fun v h' tk hv E5 kk=>?_
  obtain⟨t,rfl⟩:=hv
  have I1:Inv X pins σ H { s with heap:=h',toks:=tk }:=I.turned (fun b o hb e=>kk b o (by simpa using hb) e) f0 f1 f3 f4 f5
  refine⟨_,rfl,t8 (s:={ s with heap:=h',toks:=tk }) (n := "range_iterator") E5 rfl rfl (by decide) ⟨.int (lo + i),H,I1,⟨t,?_⟩,⟨rfl,rfl⟩,E5,fun b hb=>(hf b hb).1⟩⟩
  rw[Int.mul_one]
 done:=by
  intro X hP hw hK hc i pins s σ H E I hf st hg
  subst hP hw hK
  obtain⟨f0,f1,f2,f3,f4,f5⟩:=hf it (by simp)
  exact wpAny_pyNext_range_end (I.ok.hd hc) st (by have:n <= i:=hg;omega) fun h' eb=>⟨rfl,I.turned (t':=s.toks) (fun b o hb e=>eb b o hb e) f0 f1 f3 f4 f5⟩
 self:=fun _ _ _ _ _ st h=>wpAny_pyIter_rangeiter st h
section
variable {X:Cx}{tg:Expr}
noncomputable def Iv (K:Frag)(tl:TE):TI:=fun σ H R=>tl σ H fun x H1=>∃ a,x = .ref a/\(∃ xs,y6 K H1 a xs)/\R (tY K a) H1
noncomputable def NX (K:Frag)(tl:TE):TI:=fun σ H R=>tl σ H fun x H1=>∃ a,x = .ref a/\(∃ xs,yD K H1 a xs)/\R (Mu K a) H1
theorem bz {l:Expr}{tl:TE}(hl:PE X l tl):PI X tg l (Iv X.K tl):=by
 intro pins s σ H R I h
 refine b5 (hl pins s σ H _ I h) fun v s1 y8=>?_
 obtain⟨x,H1,I1,r1,q1⟩:=y8
 obtain⟨a,e,⟨xs,hq⟩,q⟩:=q1
 subst e
 cases r1
 obtain⟨y9,rv,p,hz⟩:=I1.list hq
 refine wpAny_pyIter_list p.isList ?_
 refine⟨s1.heap.objs.size,[s1.heap.objs.size],_,_,H1,rfl,I1.kept (t':=s1.toks) fun b o e=>Heap.get?_push_of_some _ e,pP a _,⟨_,Heap.get?_push_size _ rfl,rfl,rfl⟩,fun b hb=>?_,q⟩
 have e:b=s1.heap.objs.size:=by simpa using hb
 subst e
 exact I1.CM (le_refl _) (I1.yE.fresh (le_refl _))
theorem kN {l:Expr}{tl:TE}(hl:PE X l tl):PI X tg l (NX X.K tl):=by
 intro pins s σ H R I h
 refine b5 (hl pins s σ H _ I h) fun v s1 y8=>?_
 obtain⟨x,H1,I1,r1,q1⟩:=y8
 obtain⟨a,e,⟨xs,hq⟩,q⟩:=q1
 subst e
 cases r1
 obtain⟨y9,rv,p,hz⟩:=I1.tuple hq
 refine wpAny_pyIter_tuple (show s1.heap.IsTuple a y9.toArray from p) ?_
 refine⟨s1.heap.objs.size,[s1.heap.objs.size],_,_,H1,rfl,I1.kept (t':=s1.toks) fun b o e=>Heap.get?_push_of_some _ e,mU a _,⟨_,Heap.get?_push_size _ rfl,rfl,rfl⟩,fun b hb=>?_,q⟩
 have e:b=s1.heap.objs.size:=by simpa using hb
 subst e
 exact I1.CM (le_refl _) (I1.yE.fresh (le_refl _))
theorem rZ {pins:List (Addr × Obj)}{σ:St}{H:Hp}{s:Shared}{R:It->Hp->Prop}{E:Value->Shared->Prop}{lo hi:Int}{t u v:Tok}{tk:Nat}(I:Inv X pins σ H s)(h1:-(2 ^ 62) <= lo)(h2:lo < 2 ^ 62)(h3:-(2 ^ 62) <= hi)(h4:hi < 2 ^ 62)
  (q:R (vB lo (hi - lo).toNat) H):wpAny (model X.prog X.w) X.A (pyIter (.ref s.heap.objs.size)) (Tj X pins σ tg R) E { s with heap:=s.heap.push { cls := .type "range",data := .fields #[.int lo t, .int hi u, .int 1 v] },toks:=tk }:=by
 refine wpAny_pyIter_range (IsRange.new ..) (small_one h1 h2 h3 h4) ?_
 have I1:Inv X pins σ H { s with heap:=s.heap.push { cls := .type "range",data := .fields #[.int lo t, .int hi u, .int 1 v] },toks:=tk }:=I.kept fun b o e=>Heap.get?_push_of_some _ e
 refine⟨(s.heap.push { cls := .type "range",data := .fields #[.int lo t, .int hi u, .int 1 v] }).objs.size,[(s.heap.push { cls := .type "range",data := .fields #[.int lo t, .int hi u, .int 1 v] }).objs.size],_,_,H,rfl,
  I1.kept (t':=tk) fun b o e=>Heap.get?_push_of_some _ e,mV _ lo (hi - lo).toNat,?_,fun b hb=>?_,q⟩
 ·have e1:lo + ((0:Nat):Int) * 1=lo:=by simp
  have e2:(((hi - lo).toNat:Nat):Int) - ((0:Nat):Int)=Builtin.Range.rangeSize lo hi 1:=by rw[rangeSize_one];split<;>omega
  show IsRangeIter _ _ (lo + ((0:Nat):Int) * 1) ((((hi - lo).toNat:Nat):Int) - ((0:Nat):Int)) 1
  rw[e1,e2]
  exact Heap.get?_push_size _ rfl
 ·have e:b=(s.heap.push { cls := .type "range",data := .fields #[.int lo t, .int hi u, .int 1 v] }).objs.size:=by simpa using hb
  subst e
  exact I1.CM (le_refl _) (I1.yE.fresh (le_refl _))
noncomputable def Iw (ta:TA):TI:=fun σ H R=>ta σ H fun vs H1=>∃ j:Int,vs=[.int j]/\-(2 ^ 62) <= j/\j < 2 ^ 62/\R (vB 0 j.toNat) H1
theorem bE {a:Expr}{ta:TA}{p pos:Pos}(hg:Gl X "range")(hm:X.mg "range" = none)(ha:PA X [a] ta)(hs:autoParam (starEach [a] X.env=[(false,eval a X.env)]) η):PI X tg (.Call (.Name "range" p) [a] [] pos) (Iw ta):=by
 intro pins s σ H R I h
 refine Call_ (eC I hg hm boot_range (PyProof.Rows.callWith_type1 (b5 (ha pos pins s σ H _ I h) fun us s1 y8=>?_) hs rfl))
 obtain⟨vs,H1,I1,r1,q1⟩:=y8
 obtain⟨j,e,q1,q2,q⟩:=q1
 subst e
 cases r1 with
 | cons r rr =>
  cases rr
  obtain⟨t,rfl⟩:=r
  exact call_range_1 (rZ I1 (by omega) (by omega) q1 q2 (by simpa using q))
noncomputable def NY (wi:TI)(g:TG)(tb:TS):TS:=fun D σ H=>wi σ H fun J H1=>∃ W:Nat->Nat->St->Hp->Prop,(∃ m,W 0 m σ H1)/\∀ i m σ H,W i m σ H ->
 (J.stop i H/\D.nx σ H)∨(J.go i H/\∃ N:St->Hp->Prop,(∀ σ' H',N σ' H'->∃ m',m' < m/\W (i + 1) m' σ' H')/\∀ x H',J.DK i H x H'->g x σ H' fun σ2 H2=>tb { D with nx:=N,ct:=N,bk:=D.nx } σ2 H2)
noncomputable def dQ (fp:List Addr)(h:Heap):List (Addr × Obj):=fp.filterMap fun b=>(h.get? b).map fun o=>(b,o)
theorem dS {fp:List Addr}{h:Heap}{b:Addr}{o:Obj}(hb:b ∈ fp)(e:h.get? b=some o):(b,o) ∈ dQ fp h:=List.mem_filterMap.mpr ⟨b,hb,by rw[e];rfl⟩
theorem jG {fp:List Addr}{h:Heap}{p:Addr × Obj}(hp:p ∈ dQ fp h):p.1 ∈ fp/\h.get? p.1=some p.2:=by
 obtain⟨b,hb,e⟩:=List.mem_filterMap.mp hp
 cases q:h.get? b with
 | none=>rw[q]at e;cases e
 | some o =>
  rw[q]at e
  have e':(b,o)=p:=Option.some.inj e
  subst e'
  exact⟨hb,q⟩
theorem Inv.pinned {pins:List (Addr × Obj)}{σ:St}{H:Hp}{s:Shared}{fp:List Addr}(I:Inv X pins σ H s)(hf:∀ b ∈ fp,eW X pins H b)(ho:∀ b ∈ fp,∃ o,s.heap.get? b=some o/\∀ v,o.data ≠ .cell v):Inv X (pins ++ dQ fp s.heap) σ H s :=
 I.zJ fun p hp=>(mem_append.mp hp).elim (fun z=>I.pin p (mem_append_right _ z)) fun z=>by
  obtain⟨hb,e⟩:=jG z
  obtain⟨f0,f1,f2,_⟩:=hf p.1 hb
  obtain⟨o,e',d⟩:=ho p.1 hb
  rw[e]at e';cases e'
  exact⟨e,f0,f1,f2,d⟩
theorem Inv.Ac {pins pl:List (Addr × Obj)}{σ:St}{H:Hp}{s:Shared}(I:Inv X (pins ++ pl) σ H s):Inv X pins σ H s:=I.zJ fun p hp=>I.pin p (mem_append_right _ (mem_append_left _ hp))
theorem bL {iter:Expr}{body:List Stmt}{wi:TI}{g:TG}{tb:TS}{pos:Pos}(hp:PassesOwn (model X.prog X.w) X.A X.env X.xe)(hc:X.calm=true)(hi:PI X tg iter wi)(hg:PG X tg g)(hb:BZ X body tb)
  (hs:autoParam (∀ x,foldedSetIterable iter X.env x=pure x) ψ):PS X (.For tg iter body [] pos) (NY wi g tb):=by
 intro pins s σ H D I h
 refine wpAny_For (b5 (hi pins s σ H _ I h) fun v s1 h1=>b5 h1 fun Ms s2 h2=>?_) hs
 obtain⟨it,fp,tn,J,H2,e,I2,T,Iy,f2,W,⟨m0,w0⟩,turn⟩:=h2
 subst e
 have stat:∀ {H':Hp},(∀ b ∈ fp,H' b=none)->∀ b ∈ fp,eW X pins H' b:=fun hn b hb=>⟨hn b hb,(f2 b hb).2⟩
 refine codeAny_forLoop_any (fun n s'=>∃ i σ' H',Inv X pins σ' H' s'/\tn i s'.heap/\(∀ b ∈ fp,H' b=none)/\W i n σ' H') ?_ m0 ⟨0,σ,H2,I2,Iy,fun b hb=>(f2 b hb).1,w0⟩
 rintro n s3 ⟨i,σ3,H3,I3,Tn,Tp,w3⟩
 rcases turn i n σ3 H3 w3 with ⟨stop,qn⟩ | ⟨go,N,hN,step⟩
 ·refine wpAny_passesOwn hp (b5 (T.done X rfl rfl rfl hc i pins s3 σ3 H3 X.xe I3 (stat Tp) Tn stop) fun r s4 y8=>?_)
  obtain⟨hr,I4⟩:=y8
  subst hr
  exact wpAny_execs_nil ⟨σ3,H3,I4,qn⟩
 ·refine wpAny_passesOwn hp (b5 (T.item X rfl rfl rfl hc i pins s3 σ3 H3 X.xe I3 (stat Tp) Tn go) fun r s4 y8=>?_)
  obtain⟨u,hr,h4⟩:=y8
  subst hr
  refine wpAny_passesOwn hp (b5 h4 fun _ s5 y8=>?_)
  obtain⟨x,H5,I5,r5,y5,Hj,Mw⟩:=y8
  have I5':=I5.pinned (stat Mw) (T.obj _ _ Hj)
  refine wpAny_passesOwn hp (b5 (hg _ s5 σ3 H5 x u _ I5' r5 (step x H5 y5)) fun _ s6 y8=>?_)
  obtain⟨σ6,H6,I6,q6⟩:=y8
  refine wpAny_passesOwn hp (b5 (hb _ s6 σ6 H6 _ I6 q6) fun f s7 q7=>?_)
  have again:∀ {σ7:St}{H7:Hp},Inv X (pins ++ dQ fp s5.heap) σ7 H7 s7->N σ7 H7->∃ m,m < n/\∃ i σ' H',Inv X pins σ' H' s7/\tn i s7.heap/\(∀ b ∈ fp,H' b=none)/\W i m σ' H':=fun {σ7 H7} I7 n7=>by
   obtain⟨m',hm,w7⟩:=hN σ7 H7 n7
   refine⟨m',hm,i + 1,σ7,H7,I7.Ac,T.keep _ _ _ Hj fun b hb o e=>(I7.pin (b,o) (mem_append_right _ (mem_append_right _ (dS hb e)))).1,fun b hb=>?_,w7⟩
   obtain⟨o,e,d⟩:=T.obj _ _ Hj b hb
   exact(I7.pin (b,o) (mem_append_right _ (mem_append_right _ (dS hb e)))).2.1
  cases f with
  | next=>obtain⟨σ7,H7,I7,n7⟩:=q7;exact again I7 n7
  | cont=>obtain⟨σ7,H7,I7,n7⟩:=q7;exact again I7 n7
  | brk=>obtain⟨σ7,H7,I7,q7⟩:=q7;exact⟨σ7,H7,I7.Ac,q7⟩
  | ret v=>obtain⟨x7,σ7,H7,I7,r7,q7⟩:=q7;exact⟨x7,σ7,H7,I7.Ac,r7,q7⟩
end
theorem cx {K:Frag}{a:Addr}{xs:List V}{g:TG}{tb:TS}{D:mR}{σ:St}{H:Hp}(Pv:Nat->St->Hp->Prop)(h0:Pv 0 σ H)(hl:∀ i σ H,i <= xs.length->Pv i σ H->y6 K H a xs)
  (hs:∀ i x σ H,xs[i]? = some x->Pv i σ H->g x σ H fun σ2 H2=>tb { D with nx:=Pv (i + 1),ct:=Pv (i + 1),bk:=D.nx } σ2 H2) (hd:∀ σ H,Pv xs.length σ H->D.nx σ H) :
  ∃ W:Nat->Nat->St->Hp->Prop,(∃ m,W 0 m σ H)/\∀ i m σ H,W i m σ H ->
   ((tY K a).stop i H/\D.nx σ H)∨((tY K a).go i H/\∃ N:St->Hp->Prop,(∀ σ' H',N σ' H'->∃ m',m' < m/\W (i + 1) m' σ' H')/\∀ x H',(tY K a).DK i H x H'->g x σ H' fun σ2 H2=>tb { D with nx:=N,ct:=N,bk:=D.nx } σ2 H2):=by
 refine⟨fun i m σ H=>m=xs.length - i/\i <= xs.length/\Pv i σ H,⟨xs.length,by simp,zero_le _,h0⟩,?_⟩
 rintro i m σ H ⟨rfl,hi,p⟩
 have q:=hl i σ H hi p
 by_cases yR:i < xs.length
 ·refine .inr ⟨⟨xs,xs[i],q,by simp[yR]⟩,Pv (i + 1),fun σ' H' p'=>⟨xs.length - (i + 1),by omega,rfl,yR,p'⟩,fun x H' y=>?_⟩
  obtain⟨e,y⟩:=y
  subst e
  exact hs i x σ _ (y xs q) p
 ·have e:i=xs.length:=by omega
  subst e
  exact .inl ⟨⟨xs,q,le_refl _⟩,hd σ H p⟩
theorem bW {lo:Int}{n:Nat}{g:TG}{tb:TS}{D:mR}{σ:St}{H:Hp}(Pv:Nat->St->Hp->Prop)(h0:Pv 0 σ H)
  (hs:∀ i σ H,i < n->Pv i σ H->g (.int (lo + i)) σ H fun σ2 H2=>tb { D with nx:=Pv (i + 1),ct:=Pv (i + 1),bk:=D.nx } σ2 H2) (hd:∀ σ H,Pv n σ H->D.nx σ H) :
  ∃ W:Nat->Nat->St->Hp->Prop,(∃ m,W 0 m σ H)/\∀ i m σ H,W i m σ H ->
   ((vB lo n).stop i H/\D.nx σ H)∨((vB lo n).go i H/\∃ N:St->Hp->Prop,(∀ σ' H',N σ' H'->∃ m',m' < m/\W (i + 1) m' σ' H')/\∀ x H',(vB lo n).DK i H x H'->g x σ H' fun σ2 H2=>tb { D with nx:=N,ct:=N,bk:=D.nx } σ2 H2):=by
 refine⟨fun i m σ H=>m=n - i/\i <= n/\Pv i σ H,⟨n,by simp,zero_le _,h0⟩,?_⟩
 rintro i m σ H ⟨rfl,hi,p⟩
 by_cases yR:i < n
 ·refine .inr ⟨yR,Pv (i + 1),fun σ' H' p'=>⟨n - (i + 1),by omega,rfl,yR,p'⟩,fun x H' y=>?_⟩
  obtain⟨e,y⟩:=y
  subst e y
  exact hs i σ _ yR p
 ·have e:i=n:=by omega
  subst e
  exact .inl ⟨le_refl _,hd σ H p⟩
abbrev R2:=V->V->Hp->VK->Prop
noncomputable def dW (X:Cx)(f:Value->Value->Sem Value)(r:R2):Prop :=
 ∀ (pins:List (Addr × Obj))(s:Shared)(σ:St)(H:Hp)(x y:V)(v u:Value)(Q:VK),Inv X pins σ H s->RelV x v->RelV y u->r x y H Q ->
  wpAny (model X.prog X.w) X.A (f v u) (EP X pins σ Q) X.xe s
noncomputable def cE (X:Cx)(f:Value)(r:List V->Hp->VK->Prop):Prop :=
 ∀ (pins:List (Addr × Obj))(s:Shared)(σ:St)(H:Hp)(xs:List V)(us:List Value)(Q:VK),Inv X pins σ H s->Vals xs us->r xs H Q ->
  wpAny (model X.prog X.w) X.A (call f us) (EP X pins σ Q) X.xe s
noncomputable def NZ (X:Cx)(r:V->Hp->(Bool->Hp->Prop)->Prop):Prop :=
 ∀ (pins:List (Addr × Obj))(s:Shared)(σ:St)(H:Hp)(x:V)(v:Value)(Q:Bool->Hp->Prop),Inv X pins σ H s->RelV x v->r x H Q ->
  wpAny (model X.prog X.w) X.A (truthy v) (TP X pins σ Q) X.xe s
noncomputable def Mx (r:R2)(ta tb:TE):TE:=fun σ H Q=>ta σ H fun x H1=>tb σ H1 fun y H2=>r x y H2 Q
noncomputable def rI (C:Int->Int->Prop)(g:Int->Int->V):R2:=fun x y H Q=>∃ i j,x = .int i/\y = .int j/\C i j/\Q (g i j) H
noncomputable def qI (g:Int->Int->V):R2:=fun x y H Q=>∃ i j,x = .int i/\y = .int j/\Q (g i j) H
section
variable {X:Cx}{a b c:Expr}{ta tb tc:TE}{pos:Pos}
theorem yo (ha:PE X a ta)(hb:PE X b tb){pins:List (Addr × Obj)}{s:Shared}{σ:St}{H:Hp}{R:V->V->Hp->Prop}(I:Inv X pins σ H s)
  (h:ta σ H fun x H1=>tb σ H1 fun y H2=>R x y H2) {Q:Value->Shared->Prop} {f:Value->Value->Sem Value}
  (hf:∀ v u s2 x y H2,Inv X pins σ H2 s2->RelV x v->RelV y u->R x y H2->wpAny (model X.prog X.w) X.A (f v u) Q X.xe s2) :
  wpAny (model X.prog X.w) X.A (eval a X.env) (fun v s₁=>wpAny (model X.prog X.w) X.A (eval b X.env) (fun u s₂=>wpAny (model X.prog X.w) X.A (f v u) Q X.xe s₂) X.xe s₁) X.xe s:=by
 refine b5 (ha pins s σ H _ I h) fun v s1 y8=>?_
 obtain⟨x,H1,I1,r1,q1⟩:=y8
 refine b5 (hb pins s1 σ H1 _ I1 q1) fun u s2 y8=>?_
 obtain⟨y,H2,I2,r2,q2⟩:=y8
 exact hf v u s2 x y H2 I2 r1 r2 q2
theorem aA {op:Operator}{r:R2}(ho:dW X (binaryOp op) r)(ha:PE X a ta)(hb:PE X b tb):PE X (.BinOp a op b pos) (Mx r ta tb):=by
 intro pins s σ H Q I h
 exact wpAny_BinOp (yo ha hb I h fun v u s2 x y H2 I2 rx ry q=>ho pins s2 σ H2 x y v u Q I2 rx ry q)
theorem Hk {f:Value->Value->Sem Value}{C:Int->Int->Prop}{g:Int->Int->Int}
  (rule:∀ (i j:Int)(t u:Tok)(s:Shared)(Q:Value->Shared->Prop)(E:Value->Shared->Prop),C i j->Q (.int (g i j) s.toks) { s with toks:=s.toks + 1 }->wpAny (model X.prog X.w) X.A (f (.int i t) (.int j u)) Q E s) :
  dW X f (rI C fun i j => .int (g i j)):=by
 intro pins s σ H x y v u Q I rx ry h
 obtain⟨i,j,rfl,rfl,hc,q⟩:=h
 obtain⟨t,rfl⟩:=rx
 obtain⟨t',rfl⟩:=ry
 exact rule i j t t' s _ _ hc ⟨.int (g i j),H,I.tok _,⟨_,rfl⟩,q⟩
theorem qd {f:Value->Value->Sem Value}{g:Int->Int->Int}
  (rule:∀ (i j:Int)(t u:Tok)(s:Shared)(Q:Value->Shared->Prop)(E:Value->Shared->Prop),Q (.int (g i j) s.toks) { s with toks:=s.toks + 1 }->wpAny (model X.prog X.w) X.A (f (.int i t) (.int j u)) Q E s) :
  dW X f (qI fun i j => .int (g i j)):=by
 intro pins s σ H x y v u Q I rx ry h
 obtain⟨i,j,rfl,rfl,q⟩:=h
 obtain⟨t,rfl⟩:=rx
 obtain⟨t',rfl⟩:=ry
 exact rule i j t t' s _ _ ⟨.int (g i j),H,I.tok _,⟨_,rfl⟩,q⟩
theorem u6 {f:Value->Value->Sem Value}{g:Int->Int->Bool}
  (rule:∀ (i j:Int)(t u:Tok)(s:Shared)(Q:Value->Shared->Prop)(E:Value->Shared->Prop),Q (.bool (g i j)) s->wpAny (model X.prog X.w) X.A (f (.int i t) (.int j u)) Q E s) :
  dW X f (qI fun i j => .bl (g i j)):=by
 intro pins s σ H x y v u Q I rx ry h
 obtain⟨i,j,rfl,rfl,q⟩:=h
 obtain⟨t,rfl⟩:=rx
 obtain⟨t',rfl⟩:=ry
 exact rule i j t t' s _ _ ⟨.bl (g i j),H,I,rfl,q⟩
noncomputable def Oa (i j:Int):Prop:=0 < j/\j < 1073741824
noncomputable def Iz (i j:Int):Prop:=0 <= j/\j <= 1000000/\i.natAbs < 2 ^ 64
noncomputable def Fn (i j:Int):Prop:=(-(2 ^ 64) < i/\i < 2 ^ 64)∨(-(2 ^ 64) < j/\j < 2 ^ 64)
theorem Fn.ok {i j:Int}(h:Fn i j):IntMulOk i j:=by
 rcases h with ⟨h1,h2⟩ | ⟨h1,h2⟩
 ·exact .of_left (intBits_le_64 h1 h2)
 ·exact .of_right (intBits_le_64 h1 h2)
theorem mT (k:Nat):(0:Int) <= 2 ^ k:=by
 rw[two_pow_cast]
 exact Int.natCast_nonneg _
theorem bG:dW X (binaryOp .Add) (qI fun i j => .int (i + j)):=qd fun _ _ _ _ _ _ _ q=>add_int q
theorem cT:dW X (binaryOp .Sub) (qI fun i j => .int (i - j)):=qd fun _ _ _ _ _ _ _ q=>sub_int q
theorem jb:dW X (binaryOp .Mult) (rI Fn fun i j => .int (i * j)):=Hk fun _ _ _ _ _ _ _ hc q=>mul_int q hc.ok
theorem cj:dW X (binaryOp .FloorDiv) (rI Oa fun i j => .int (i / j)):=Hk fun i j _ _ _ _ _ hc q=>by
 have h1:(0:Int) < j:=hc.1
 have h2:j < 1073741824:=hc.2
 exact floordiv_int (by omega) (by rw[Int.fdiv_eq_ediv_of_nonneg i (by omega)];exact q) (.inl (PyProof.noPylong_small (by omega)))
theorem bC:dW X (binaryOp .Mod) (rI (fun _ j=>0 < j) fun i j => .int (i % j)):=Hk fun i j _ _ _ _ _ hc q=>by
 have h1:(0:Int) < j:=hc
 exact mod_int' (by omega) (by rw[Int.fmod_eq_emod_of_nonneg i (by omega)];exact q)
theorem nN:dW X (binaryOp .Pow) (rI Iz fun i j => .int (i ^ j.toNat)):=Hk fun _ _ _ _ _ _ _ hc q=>pow_int_small hc.1 hc.2.1 hc.2.2 q
theorem xa:dW X (binaryOp .LShift) (rI Iz fun i j => .int (i * 2 ^ j.toNat)):=Hk fun _ _ _ _ _ _ _ hc q=>lshift_int_small hc.1 hc.2.1 hc.2.2 q
theorem si:dW X (binaryOp .RShift) (rI (fun _ j=>0 <= j) fun i j => .int (i / 2 ^ j.toNat)):=Hk fun i j _ _ _ _ _ hc q =>
 rshift_int hc (by rw[Int.fdiv_eq_ediv_of_nonneg i (mT _)];exact q)
theorem sk:dW X (binaryOp .BitAnd) (qI fun i j => .int (Builtin.bitAnd i j)):=qd fun _ _ _ _ _ _ _ q=>and_int q
theorem I0:dW X (binaryOp .BitOr) (qI fun i j => .int (Builtin.bitOr i j)):=qd fun _ _ _ _ _ _ _ q=>or_int q
theorem lg:dW X (inplaceOp .Add) (qI fun i j => .int (i + j)):=qd fun _ _ _ _ _ _ _ q=>iadd_int q
theorem p7:dW X (inplaceOp .Sub) (qI fun i j => .int (i - j)):=qd fun _ _ _ _ _ _ _ q=>isub_int q
end
noncomputable def wz:V->V->Bool
 | .yK, .yK=>true | .yK, .int _=>true | .int _, .yK=>true | .yK, .bl _=>true | .bl _, .yK=>true | .yK, .str _=>true | .str _, .yK=>true
 | .int _, .int _=>true | .bl _, .bl _=>true | .str _, .str _=>true | .BW _, .BW _=>true
 | .int _, .str _=>true | .str _, .int _=>true | .bl _, .str _=>true | .str _, .bl _=>true
 | _,_=>false
noncomputable def rEq:R2:=fun x y H Q=>wz x y=true/\Q (.bl (decide (x=y))) H
noncomputable def rNe:R2:=fun x y H Q=>wz x y=true/\Q (.bl (!decide (x=y))) H
theorem pF {i j:Int}:decide (V.int i=V.int j)=(i == j):=by
 rw[Bool.eq_iff_iff]
 simp
theorem tN {i j:Bool}:decide (V.bl i=V.bl j)=(i == j):=by
 rw[Bool.eq_iff_iff]
 simp
theorem pE {i j:Str}:decide (V.str i=V.str j)=(i == j):=by
 rw[Bool.eq_iff_iff]
 simp
theorem pG {i j:Array UInt8}:decide (V.BW i=V.BW j)=(i.toList == j.toList):=by
 rw[Bool.eq_iff_iff]
 cases i
 cases j
 simp
section
variable {X:Cx}{a b c:Expr}{ta tb tc:TE}{pos:Pos}
theorem aY {pins:List (Addr × Obj)}{σ:St}{H:Hp}{s:Shared}{Q:VK}{k k':Bool}(I:Inv X pins σ H s)(q:Q (.bl k) H)(e:k=k'):EP X pins σ Q (.bool k') s:=by
 subst e
 exact⟨.bl k,H,I,rfl,q⟩
theorem bN:dW X (compareOp .Eq) rEq:=by
 intro pins s σ H x y v u Q I rx ry h
 obtain⟨hs,q⟩:=h
 cases x with
 | yK =>
  cases rx
  cases y with
  | yK=>cases ry;exact PySem.EqNone.eq_none_none (aY I q (by simp))
  | bl j=>cases ry;exact PySem.EqNone.eq_none_bool (aY I q (by simp))
  | int j=>obtain⟨t',rfl⟩:=ry;exact PySem.EqNone.eq_none_int (aY I q (by simp))
  | str j=>obtain⟨t',rfl⟩:=ry;exact PySem.EqNone.eq_none_str (aY I q (by simp))
  | _=>exact absurd (show false=true from hs) Bool.false_ne_true
 | bl i =>
  cases rx
  cases y with
  | yK=>cases ry;exact PySem.EqNone.eq_bool_none (aY I q (by simp))
  | bl j=>cases ry;exact eq_bool (aY I q tN)
  | str j=>obtain⟨t',rfl⟩:=ry;exact PySem.EqMixed.eq_bool_str (aY I q (by simp))
  | _=>exact absurd (show false=true from hs) Bool.false_ne_true
 | int i =>
  obtain⟨t,rfl⟩:=rx
  cases y with
  | yK=>cases ry;exact PySem.EqNone.eq_int_none (aY I q (by simp))
  | int j=>obtain⟨t',rfl⟩:=ry;exact eq_int (aY I q pF)
  | str j=>obtain⟨t',rfl⟩:=ry;exact PySem.EqMixed.eq_int_str (aY I q (by simp))
  | _=>exact absurd (show false=true from hs) Bool.false_ne_true
 | str i =>
  obtain⟨t,rfl⟩:=rx
  cases y with
  | yK=>cases ry;exact PySem.EqNone.eq_str_none (aY I q (by simp))
  | bl j=>cases ry;exact PySem.EqMixed.eq_str_bool (aY I q (by simp))
  | int j=>obtain⟨t',rfl⟩:=ry;exact PySem.EqMixed.eq_str_int (aY I q (by simp))
  | str j=>obtain⟨t',rfl⟩:=ry;exact eq_str (aY I q pE)
  | _=>exact absurd (show false=true from hs) Bool.false_ne_true
 | BW i =>
  obtain⟨t,rfl⟩:=rx
  cases y with
  | BW j=>obtain⟨t',rfl⟩:=ry;exact PySem.W.eq_bytes (aY I q pG)
  | _=>exact absurd (show false=true from hs) Bool.false_ne_true
 | _=>cases y<;>exact absurd (show false=true from hs) Bool.false_ne_true
theorem oW:dW X (compareOp .NotEq) rNe:=by
 intro pins s σ H x y v u Q I rx ry h
 obtain⟨hs,q⟩:=h
 cases x with
 | yK =>
  cases rx
  cases y with
  | yK=>cases ry;exact PySem.EqNone.ne_none_none (aY I q (by simp))
  | bl j=>cases ry;exact PySem.EqNone.ne_none_bool (aY I q (by simp))
  | int j=>obtain⟨t',rfl⟩:=ry;exact PySem.EqNone.ne_none_int (aY I q (by simp))
  | str j=>obtain⟨t',rfl⟩:=ry;exact PySem.EqNone.ne_none_str (aY I q (by simp))
  | _=>exact absurd (show false=true from hs) Bool.false_ne_true
 | bl i =>
  cases rx
  cases y with
  | yK=>cases ry;exact PySem.EqNone.ne_bool_none (aY I q (by simp))
  | bl j=>cases ry;exact ne_bool (aY I q (congrArg not tN))
  | str j=>obtain⟨t',rfl⟩:=ry;exact PySem.EqMixed.ne_bool_str (aY I q (by simp))
  | _=>exact absurd (show false=true from hs) Bool.false_ne_true
 | int i =>
  obtain⟨t,rfl⟩:=rx
  cases y with
  | yK=>cases ry;exact PySem.EqNone.ne_int_none (aY I q (by simp))
  | int j=>obtain⟨t',rfl⟩:=ry;exact ne_int (aY I q (congrArg not pF))
  | str j=>obtain⟨t',rfl⟩:=ry;exact PySem.EqMixed.ne_int_str (aY I q (by simp))
  | _=>exact absurd (show false=true from hs) Bool.false_ne_true
 | str i =>
  obtain⟨t,rfl⟩:=rx
  cases y with
  | yK=>cases ry;exact PySem.EqNone.ne_str_none (aY I q (by simp))
  | bl j=>cases ry;exact PySem.EqMixed.ne_str_bool (aY I q (by simp))
  | int j=>obtain⟨t',rfl⟩:=ry;exact PySem.EqMixed.ne_str_int (aY I q (by simp))
  | str j=>obtain⟨t',rfl⟩:=ry;exact ne_str (aY I q (congrArg not pE))
  | _=>exact absurd (show false=true from hs) Bool.false_ne_true
 | BW i =>
  obtain⟨t,rfl⟩:=rx
  cases y with
  | BW j=>obtain⟨t',rfl⟩:=ry;exact PySem.W.ne_bytes (aY I q (congrArg not pG))
  | _=>exact absurd (show false=true from hs) Bool.false_ne_true
 | _=>cases y<;>exact absurd (show false=true from hs) Bool.false_ne_true
theorem jD:dW X (compareOp .Lt) (qI fun i j => .bl (decide (i < j))):=u6 fun _ _ _ _ _ _ _ q=>lt_int q
theorem lO:dW X (compareOp .LtE) (qI fun i j => .bl (decide (i <= j))):=u6 fun _ _ _ _ _ _ _ q=>le_int q
theorem oX:dW X (compareOp .Gt) (qI fun i j => .bl (decide (j < i))):=u6 fun _ _ _ _ _ _ _ q=>gt_int q
theorem oY:dW X (compareOp .GtE) (qI fun i j => .bl (decide (j <= i))):=u6 fun _ _ _ _ _ _ _ q=>ge_int q
theorem jc:dW X (compareOp .Is) (fun x y H Q=>y = .yK/\Q (.bl (decide (x = .yK))) H):=by
 intro pins s σ H x y v u Q I rx ry h
 obtain⟨rfl,q⟩:=h
 cases ry
 refine is_none_gen (aY I q ?_)
 cases x<;>first
  | (cases rx;rfl)
  | (obtain⟨t,rfl⟩:=rx;rfl)
theorem ir:dW X (compareOp .IsNot) (fun x y H Q=>y = .yK/\Q (.bl (!decide (x = .yK))) H):=by
 intro pins s σ H x y v u Q I rx ry h
 obtain⟨rfl,q⟩:=h
 cases ry
 refine isnot_none_gen (aY I q ?_)
 cases x<;>first
  | (cases rx;rfl)
  | (obtain⟨t,rfl⟩:=rx;rfl)
theorem aB (b:Expr){op:CmpOp}(h:autoParam (op ≠ .In) θ)(h2:autoParam (op ≠ .NotIn) θ):behindInMarks op b=false:=by
 have e1:(op == CmpOp.In)=false:=by cases op<;>first | rfl | exact absurd rfl h
 have e2:(op == CmpOp.NotIn)=false:=by cases op<;>first | rfl | exact absurd rfl h2
 cases b<;>simp[behindInMarks,e1,e2]
theorem c8 {op:CmpOp}{r:R2}(ho:dW X (compareOp op) r)(ha:PE X a ta)(hb:PE X b tb)(hm:behindInMarks op b=false):PE X (.Compare a [op] [b] pos) (Mx r ta tb):=by
 intro pins s σ H Q I h
 exact wpAny_Compare1 (yo ha hb I h fun v u s2 x y H2 I2 rx ry q=>ho pins s2 σ H2 x y v u Q I2 rx ry q) hm
noncomputable def IA (t:TE):TT:=fun σ H Q=>t σ H fun x H'=>∃ k,x = .bl k/\Q k H'
theorem ax {op:CmpOp}{r:R2}(ho:dW X (compareOp op) r)(ha:PE X a ta)(hb:PE X b tb)(hm:behindInMarks op b=false):PT X (.Compare a [op] [b] pos) (IA (Mx r ta tb)):=by
 intro pins s σ H Q I h
 refine wpAny_isTrue_Compare1 (b5 (ha pins s σ H _ I h) fun v s1 ⟨x,H1,I1,r1,q1⟩=>b5 (hb pins s1 σ H1 _ I1 q1) fun u s2 ⟨y,H2,I2,r2,q2⟩ =>
  b5 (ho pins s2 σ H2 x y v u _ I2 r1 r2 q2) fun c s3 ⟨z,H3,I3,r3,k,e,q3⟩=>?_) hm
 subst e
 cases r3
 exact wpAny_truthy_bool ⟨H3,I3,q3⟩
noncomputable def wq (r r':R2)(ta tb tc:TE):TE:=fun σ H Q=>ta σ H fun x H1=>tb σ H1 fun y H2=>r x y H2 fun z H3=>∃ k,z = .bl k /\
 (if k=true then tc σ H3 fun w' H4=>r' y w' H4 Q else Q (.bl false) H3)
theorem lN {op Ob:CmpOp}{r r':R2}(ho:dW X (compareOp op) r)(BC:dW X (compareOp Ob) r')(ha:PE X a ta)(hb:PE X b tb)(hc:PE X c tc)
  (hm:lastMarks [op,Ob] [b,c]=false:=by with_unfolding_all rfl):PE X (.Compare a [op,Ob] [b,c] pos) (wq r r' ta tb tc):=by
 intro pins s σ H Q I h
 refine Compare_chain (b5 (ha pins s σ H _ I h) fun v s1 ⟨x,H1,I1,r1,q1⟩=>chain_link (b5 (hb pins s1 σ H1 _ I1 q1) fun u s2 ⟨y,H2,I2,r2,q2⟩ =>
  b5 (ho pins s2 σ H2 x y v u _ I2 r1 r2 q2) fun d s3 ⟨z,H3,I3,r3,k,e,q3⟩=>?_)) hm
 subst e
 cases r3
 refine wpAny_truthy_bool ?_
 cases k with
 | false=>exact ite_ff ⟨.bl false,H3,I3,rfl,q3⟩
 | true=>exact ite_tt (chain_last (b5 (hc pins s3 σ H3 _ I3 q3) fun w' s4 y8=>by obtain⟨z',H4,I4,r4,q4⟩:=y8;exact BC pins s4 σ H4 y z' u w' Q I4 r2 r4 q4))
noncomputable def yr (K:Frag)(x:V)(H:Hp)(k:Bool):Prop :=
 match x with
 | .yK=>k=false
 | .bl b=>k=b
 | .int i=>k=(i != 0)
 | .str y=>y.length <= sizeLine/\k=((y.length:Int) != 0)
 | .BW y=>y.size <= sizeLine/\k=((y.size:Int) != 0)
 | .ref p=>(∃ xs,y6 K H p xs/\k = !xs.isEmpty)∨(∃ xs,yD K H p xs/\k = !xs.isEmpty)∨∃ kvs,H p=some (.dK kvs)/\k = !kvs.isEmpty
 | _=>False
theorem oh {κ:Type} {kvs:List (κ × V)} {vs:List (κ × Value)} (r:KV kvs vs):(!vs.isEmpty) = !kvs.isEmpty:=by
 cases r<;>rfl
theorem jk {xs:List V}{y9:List Value}(r:Vals xs y9):(!y9.toArray.isEmpty) = !xs.isEmpty:=by
 cases r<;>simp
theorem jg:(sizeLine:Nat) < 2 ^ 63:=by rw[sizeLine_eq];decide
theorem qT:NZ X (fun x H Q=>∃ k,yr X.K x H k/\Q k H):=by
 intro pins s σ H x v Q I rx h
 obtain⟨k,e,q⟩:=h
 have hl:=jg
 have hs:sizeLine=16777216:=sizeLine_eq
 cases x with
 | yK =>
  cases rx
  have e':k=false:=e
  subst e'
  exact truthy_none ⟨H,I,q⟩
 | bl b =>
  cases rx
  have e':k=b:=e
  subst e'
  exact wpAny_truthy_bool ⟨H,I,q⟩
 | int i =>
  obtain⟨t,rfl⟩:=rx
  have e':k=(i != 0):=e
  subst e'
  exact PySem.P.truthy_int ⟨H,I,q⟩
 | str y =>
  obtain⟨t,rfl⟩:=rx
  obtain⟨hy,e'⟩:y.length <= sizeLine/\k=((y.length:Int) != 0):=e
  subst e'
  exact PySem.P.truthy_str (by omega) ⟨H,I.tok _,q⟩
 | BW y =>
  obtain⟨t,rfl⟩:=rx
  obtain⟨hy,e'⟩:y.size <= sizeLine/\k=((y.size:Int) != 0):=e
  subst e'
  exact PySem.W.truthy_bytes (by omega) ⟨H,I.tok _,q⟩
 | ref p =>
  cases rx
  have e':(∃ xs,y6 X.K H p xs/\k = !xs.isEmpty)∨(∃ xs,yD X.K H p xs/\k = !xs.isEmpty)∨∃ kvs,H p=some (.dK kvs)/\k = !kvs.isEmpty:=e
  rcases e' with ⟨xs,hx,e'⟩ | ⟨xs,hx,e'⟩ | ⟨kvs,hx,e'⟩
  ·subst e'
   obtain⟨y9,r,pl,hz⟩:=I.list hx
   have hlen:=r.length
   exact wpAny_truthy_list pl.isList (by simp only[size_toArray];omega) ⟨H,I.tok _,by rw[jk r];exact q⟩
  ·subst e'
   obtain⟨y9,r,pl,hz⟩:=I.tuple hx
   have hlen:=r.length
   exact truthy_tuple pl (by simp only[size_toArray];omega) ⟨H,I.tok _,by rw[jk r];exact q⟩
  ·subst e'
   obtain⟨hz,hS,vs,r,m⟩:kvs.length <= sizeLine/\(p == sysModules)=false/\∃ vs,KV kvs vs/\s.heap.DictOf (kY X.prog X.w) p vs:=I.yE p _ hx
   have hlen:kvs.length=vs.length:=Paired.length r
   exact wpAny_truthy_dict hS m (by omega) ⟨H,I.tok _,by rw[oh r];exact q⟩
 | _=>exact(show False from e).elim
theorem iV (ha:PE X a ta)(he:∀ whole,isTrue a X.env whole=(do let v ← whole;standAt a.pos;holding [v] (truthy v))) :
  PT X a (fun σ H Q=>ta σ H fun x H'=>∃ k,yr X.K x H' k/\Q k H'):=by
 intro pins s σ H Q I h
 exact isTrue_plain (b5 (ha pins s σ H _ I h) fun v s1 y8=>by obtain⟨x,H1,I1,r1,q1⟩:=y8;exact qT pins s1 σ H1 x v Q I1 r1 q1) (he _)
theorem j8 {x:V}{us:List Value}(r:Vals [x] us):∃ u,us=[u]/\RelV x u:=by
 cases r with
 | cons r1 r2=>cases r2;exact⟨_,rfl,r1⟩
theorem vals2 {x y:V}{us:List Value}(r:Vals [x,y] us):∃ u w',us=[u,w']/\RelV x u/\RelV y w':=by
 cases r with
 | cons r1 r2 =>
  cases r2 with
  | cons r3 r4=>cases r4;exact⟨_,_,rfl,r1,r3⟩
theorem tR:cE X (.builtin "abs") (fun xs H Q=>∃ i,xs=[.int i]/\Q (.int (if i < 0 then -i else i)) H):=by
 intro pins s σ H xs us Q I r h
 obtain⟨i,rfl,q⟩:=h
 obtain⟨u,rfl,t,rfl⟩:=j8 r
 exact call_abs_int fun u tk=>⟨.int (if i < 0 then -i else i),H,I.tok _,⟨_,rfl⟩,q⟩
theorem jS (hc:X.calm=true):cE X (.builtin "max") (fun xs H Q=>∃ i j,xs=[.int i, .int j]/\Q (.int (if j > i then j else i)) H):=by
 intro pins s σ H xs us Q I r h
 obtain⟨i,j,rfl,q⟩:=h
 obtain⟨u,w',rfl,⟨t,rfl⟩,⟨t',rfl⟩⟩:=vals2 r
 refine max_two_ints (I.ok.hd hc) fun h' tk k=>⟨_,H,I.kept k,?_,q⟩
 by_cases hj:j > i
 ·rw[if_pos hj,if_pos hj];exact⟨_,rfl⟩
 ·rw[if_neg hj,if_neg hj];exact⟨_,rfl⟩
end
structure BJ (h:Heap)(x dx C:Addr)(mA:Str->Option Value):Prop where
 obj:h.get? x=some (PySem.W.instObj C dx)
 ns:h.Ns1 dx mA
 ne:dx ≠ x
theorem qr {h:Heap}{dx:Addr}{mA:Str->Option Value}(n:h.Ns1 dx mA):∃ od,h.get? dx=some od/\∀ name,PySem.W.lookIn name od=some (mA name):=by
 obtain⟨o,es,ep,ho,hd,hk,_,hm⟩:=n
 refine⟨o,ho,fun name=>?_⟩
 have e:=hm name
 unfold nsFind findBy at e
 rw[← Array.find?_toList]at e
 unfold PySem.W.lookIn
 rw[hd]
 dsimp only
 split
 ·rename_i y q
  rw[q]at e
  exact congrArg some e
 ·rename_i q
  rw[q]at e
  have a:es.toList.any (·.refKey)=false:=by
   rw[List.any_eq_false]
   intro y hy
   obtain⟨z,t,Oc⟩:=hk y (Array.mem_toList_iff.mp hy)
   simp[DictEntry.refKey,Oc]
  have a':¬ es.toList.any (·.refKey)=true:=by rw[a];exact Bool.false_ne_true
  rw[if_neg a']
  exact congrArg some e
theorem BJ.look {h:Heap}{x dx C:Addr}{mA:Str->Option Value}(I:BJ h x dx C mA):∃ od,PySem.W.InstAt h x (PySem.W.instObj C dx) C (some od)/\∀ name,PySem.W.lookIn name od=some (mA name) :=
 let ⟨od,ho,hl⟩:=qr I.ns
 ⟨od,⟨I.obj,rfl,rfl,ho⟩,hl⟩
section
variable {prog:Program}{w:World}{A:Around}{E:Value->Shared->Prop}{s:Shared}{K:Frag}{x dx C f:Addr}{mA:Str->Option Value}{name:Str}{v:Value}
theorem vj {expr:Bool}{Q:Value->Shared->Prop}(X:K.In s.heap)(I:BJ s.heap x dx C mA)(hg:plainGet K C name=true)(hh:hasDictIn K C=true)
  (ha:findIn K (.ref C) name=some none) (hv:mA name=some v) (DL:PySem.W.handedIn v=true) (h:Q v { s with toks:=s.toks + 1 }) :
  wpAny (model prog w) A (getAttr (.ref x) name expr) Q E s:=by
 obtain⟨od,J,hl⟩:=I.look
 exact PySem.W.get_value X J (PySem.W.plainGet_of hg).1 (PySem.W.findObj_own hh ha rfl (by rw[hl,hv])) DL h
theorem tD {pl:Sem Bool}{Q:Value × List Value->Shared->Prop}(X:K.In s.heap)(I:BJ s.heap x dx C mA)(hg:plainGet K C name=true)
  (hf:findIn K (.ref C) name=some (some (.ref f))) (ht:isFn K (.ref f)=true) (hv:mA name=none) (h:Q (.ref f,[.ref x]) s) :
  wpAny (model prog w) A (getMethod (.ref x) name pl) Q E s:=by
 obtain⟨od,J,hl⟩:=I.look
 exact PySem.W.method_fn X J (PySem.W.plainGet_of hg).1 (PySem.W.plainGet_of hg).2 hf (beq_iff_eq.mp ht) (by show(PySem.W.lookIn name od).map (·.isSome)=some false;rw[hl,hv];rfl) h
theorem uh {ns:List Str}{Q:Unit->Shared->Prop}(X:K.In s.heap)(I:BJ s.heap x dx C mA)
  (hs:findIn K (.ref C) "__setattr__" = some (some (.builtin "object.__setattr__"))) (hp:plainOver K C=true) (ht:PySem.W.takerIn K C name=some none) (hh:hasDictIn K C=true)
  (hw:PySem.Within mA ns) (hsz:ns.length <= sizeLine)
  (h:∀ h',BJ h' x dx C (fun y=>if y=name then some v else mA y)->Heap.SameBut dx s.heap h'->Q () { s with heap:=h',toks:=s.toks + 2 }) :
  wpAny (model prog w) A (setAttr (.ref x) name v) Q E s:=by
 obtain⟨od,J,hl⟩:=I.look
 refine PySem.W.set_plain X J hs (PySem.W.osa_open (s:={ s with toks:=s.toks + 1 }) (r:=none) X J hp ht fun b=>?_)
 obtain⟨cd,hc,Dy⟩:=PySem.W.any_some hh
 have hx:s.heap.get? x=some ⟨.ref C,some dx, .plain,#[]⟩:=I.obj
 refine wpAny_bind (wpAny_pure (wpAny_bind (wpAny_bind (wpAny_loadPart hx (wpAny_bind (PySem.W.Looks.here (s:={ s with toks:=s.toks + 1 }) (PySem.W.looks_clsIn X hc) ?_))))))
 rw[Dy]
 refine wpAny_pure (a:=some dx) (wpAny_bind (wpAny_pure (wpAny_bind ?_)))
 refine wpAny_nsSet1 (s:={ s with toks:=s.toks + 1 }) I.ns fun h' CN Cp=>?_
 obtain⟨oD,esD,epD,hoD,hdD,hcD⟩:=CN.count (PySem.Within.cons name v hw)
 refine wpAny_bind (wpAny_lookBehind hoD (by rw[hdD];exact pastItsLine_dict (le_trans hcD (by rw[length_cons];omega))) ?_)
 exact wpAny_pure (h _ ⟨(Cp.2 _ (Ne.symm I.ne)).trans I.obj,CN,I.ne⟩ Cp)
theorem sW {R:Result->Shared->Prop}{vs:List Value}{kw:List (Str × Value)}(X:K.In s.heap)(hm:makesIn K C=true)
  (hi:findIn K (.ref C) "__init__" = some (some (.ref f))) (hf:PySem.W.typeIn K (.ref f)=some (.type "function"))
  (h:codeAny (model prog w) (A.under (.builtin "type.__call__" ⟨.ref C :: vs,kw⟩)) (.call (.ref f) ⟨.ref (s.heap.objs.size + 1) :: vs,kw⟩) (PySem.W.InitBack (s.heap.objs.size + 1) R)
   { s with heap:=(s.heap.push PySem.W.emptyDict).push (PySem.W.instObj C s.heap.objs.size) }) :
  codeAny (model prog w) A (.call (.ref C) ⟨vs,kw⟩) R s:=by
 obtain⟨hh,g,d,t,os⟩:=s
 exact PySem.W.make_core (PySem.W.makes_of X hm) (PySem.W.looks_findIn X hi) (fun self=>PySem.W.bind_fn X self hf) (.inl rfl) h
end
noncomputable def aN (f:Str)(v:V):List (Str × V)->List (Str × V)
 | []=>[(f,v)]
 | (g,x) :: r=>if g=f then (g,v) :: r else (g,x) :: aN f v r
theorem gQ (f g:Str)(v:V):∀ fs:List (Str × V),(aN f v fs).lookup g=if g=f then some v else fs.lookup g
 | []=>by
  show List.lookup g [(f,v)]=_
  by_cases h:g=f
  ·have hb:(g == f)=true:=beq_iff_eq.mpr h
   simp only[List.lookup,hb,if_pos h]
  ·have hb:(g == f)=false:=beq_eq_false_iff_ne.mpr h
   simp only[List.lookup,hb,if_neg h]
 | (k,x) :: r=>by
  have ih:=gQ f g v r
  rw[show aN f v ((k,x) :: r)=(if k=f then (k,v) :: r else (k,x) :: aN f v r) from rfl]
  by_cases hk:k=f
  ·rw[if_pos hk]
   by_cases h:g=k
   ·have hb:(g == k)=true:=beq_iff_eq.mpr h
    simp only[List.lookup,hb,if_pos (h.trans hk)]
   ·have hb:(g == k)=false:=beq_eq_false_iff_ne.mpr h
    simp only[List.lookup,hb,if_neg (fun e:g=f=>h (e.trans hk.symm))]
  ·rw[if_neg hk]
   by_cases h:g=k
   ·have hb:(g == k)=true:=beq_iff_eq.mpr h
    simp only[List.lookup,hb,if_neg (fun e:g=f=>hk (h.symm.trans e))]
   ·have hb:(g == k)=false:=beq_eq_false_iff_ne.mpr h
    simp only[List.lookup,hb]
    exact ih
theorem gI (f:Str)(v:V):∀ fs:List (Str × V),f ∈ (aN f v fs).map (·.1)/\∀ g,g ∈ fs.map (·.1)->g ∈ (aN f v fs).map (·.1)
 | []=>⟨by simp[aN],fun g h=>by simp at h⟩
 | (k,x) :: r=>by
  obtain⟨i1,i2⟩:=gI f v r
  rw[show aN f v ((k,x) :: r)=(if k=f then (k,v) :: r else (k,x) :: aN f v r) from rfl]
  by_cases hk:k=f
  ·rw[if_pos hk]
   subst hk
   exact⟨by simp,fun g h=>by simpa using h⟩
  ·rw[if_neg hk]
   refine⟨?_,fun g h=>?_⟩
   ·rw[map_cons]
    exact mem_cons_of_mem _ i1
   ·rw[map_cons]at h ⊢
    rcases mem_cons.mp h with e | e
    ·exact mem_cons.mpr (.inl e)
    ·exact mem_cons_of_mem _ (i2 g e)
theorem gR (f:Str)(v:V):∀ fs:List (Str × V),(aN f v fs).length <= fs.length + 1
 | []=>by simp[aN]
 | (k,x) :: r=>by
  have ih:=gR f v r
  rw[show aN f v ((k,x) :: r)=(if k=f then (k,v) :: r else (k,x) :: aN f v r) from rfl]
  by_cases hk:k=f
  ·rw[if_pos hk,length_cons,length_cons];omega
  ·rw[if_neg hk,length_cons,length_cons];omega
theorem Aa.some_of {v:V}{o:Option Value}(r:Aa (some v) o):∃ u,o=some u/\RelV v u:=by
 cases o with
 | none=>exact(show False from r).elim
 | some u=>exact⟨u,rfl,r⟩
theorem Aa.none_of {o:Option Value}(r:Aa none o):o=none:=by
 cases o with
 | none=>rfl
 | some u=>exact(show False from r).elim
theorem qz {v:V}{u:Value}(r:RelV v u):PySem.W.handedIn u=true:=by
 cases v with
 | yK=>cases (show u=Value.none from r);rfl
 | bl b=>cases (show u=Value.bool b from r);rfl
 | int i=>obtain⟨t,e⟩:=(show ∃ t,u=Value.int i t from r);cases e;rfl
 | str x=>obtain⟨t,e⟩:=(show ∃ t,u=Value.str x t from r);cases e;rfl
 | BW b=>obtain⟨t,e⟩:=(show ∃ t,u=Value.bytes b t from r);cases e;rfl
 | Fj b=>obtain⟨t,e⟩:=(show ∃ t,u=Value.float b t from r);cases e;rfl
 | ref a=>cases (show u=Value.ref a from r);rfl
 | ty n=>cases (show u=Value.type n from r);rfl
section
variable {P:Program}{w:World}{H H':Hp}{h h':Heap}{a C dx:Addr}{fs Hg:List (Str × V)}
theorem iy (yE:Ab P w H h)(e:H a=some (.ins C dx fs)):∃ mA,BJ h a dx C mA/\(∀ f,Aa (fs.lookup f) (mA f))/\PySem.Within mA (fs.map (·.1))/\fs.length <= 1000/\H dx=some (.own a):=by
 obtain⟨d,z,ne,ob,mA,n,r,q⟩:=(show yU P w H h a (.ins C dx fs) from yE a _ e)
 exact⟨mA,⟨ob,n,ne⟩,r,q,z,d⟩
end
structure Bd (K:Frag)(C:Addr):Prop where
 pg:plainGet K C Str.empty=true
 hd:hasDictIn K C=true
 po:plainOver K C=true
 sa:findIn K (.ref C) "__setattr__" = some (some (.builtin "object.__setattr__"))
theorem Bd.get {K:Frag}{C:Addr}(c:Bd K C)(f:Str):plainGet K C f=true:=c.pg
noncomputable def yI (K:Frag)(C:Addr)(f:Str):Prop:=findIn K (.ref C) f=some none
theorem yI.IB {K:Frag}{C:Addr}{f:Str}(n:yI K C f):PySem.W.takerIn K C f=some none:=by
 unfold PySem.W.takerIn
 rw[show findIn K (.ref C) f=some none from n]
 rfl
structure bB (K:Frag)(C:Addr)(m:Str)(f:Addr):Prop where
 at_:findIn K (.ref C) m=some (some (.ref f))
 fn:isFn K (.ref f)=true
 kp:keepIn K (.ref f)=true
section
variable {X:Cx}{pins:List (Addr × Obj)}{σ:St}{H:Hp}{s:Shared}{a C dx:Addr}{fs:List (Str × V)}{f:Str}{v:V}{A:Around}{E:Value->Shared->Prop}
theorem jn {b:Bool}{Q:Value->Shared->Prop}(I:Inv X pins σ H s)(e:H a=some (.ins C dx fs))(c:Bd X.K C)(n:yI X.K C f)(l:fs.lookup f=some v)
  (h:∀ u s',Inv X pins σ H s'->RelV v u->Q u s'):wpAny (model X.prog X.w) A (getAttr (.ref a) f b) Q E s:=by
 obtain⟨mA,O,r,_,_,_⟩:=iy I.yE e
 obtain⟨u,hu,ru⟩:=Aa.some_of (v:=v) (o:=mA f) (by rw[← l];exact r f)
 exact vj I.Ae O (c.get f) c.hd n hu (qz ru) (h u _ (I.tok _) ru)
theorem jm {m:Str}{g:Addr}{pl:Sem Bool}{Q:Value × List Value->Shared->Prop}(I:Inv X pins σ H s)(e:H a=some (.ins C dx fs))(c:Bd X.K C)(k:bB X.K C m g)(l:fs.lookup m=none)
  (h:Q (.ref g,[.ref a]) s):wpAny (model X.prog X.w) A (getMethod (.ref a) m pl) Q E s:=by
 obtain⟨mA,O,r,_,_,_⟩:=iy I.yE e
 have hn:mA m=none:=Aa.none_of (by rw[← l];exact r m)
 exact tD I.Ae O (c.get m) k.at_ k.fn hn h
theorem iK {y:V}{u:Value}{Q:Unit->Shared->Prop}(I:Inv X pins σ H s)(e:H a=some (.ins C dx fs))(c:Bd X.K C)(n:yI X.K C f)(hl:fs.length < 1000)(ry:RelV y u)
  (h:∀ s',Inv X pins σ (upd H a (.ins C dx (aN f y fs))) s'->Q () s'):wpAny (model X.prog X.w) A (setAttr (.ref a) f u) Q E s:=by
 obtain⟨mA,O,r,wi,_,ho⟩:=iy I.yE e
 have hz:(fs.map (·.1)).length <= sizeLine:=by rw[length_map,sizeLine_eq];omega
 refine uh I.Ae O c.sa c.po n.IB c.hd wi hz fun h' O' sb=>h _ ?_
 have hd:∃ o,h'.get? dx=some o:=let ⟨o,_,_,e',_⟩:=O'.ns; ⟨o,e'⟩
 refine I.write (x:=a) (e:=dx) (by rw[e];exact True.intro) (.inr ho) (fun b q hb z=>(sb.2 b hb).trans z) hd ?_
 refine⟨by rw[af O.ne];exact ho,?_,O.ne,O'.obj,_,O'.ns,fun g=>?_,fun g hg=>?_⟩
 ·have:=gR f y fs;omega
 ·show Aa ((aN f y fs).lookup g) (if g=f then some u else mA g)
  rw[gQ]
  by_cases q:g=f
  ·rw[if_pos q,if_pos q];exact ry
  ·rw[if_neg q,if_neg q];exact r g
 ·by_cases q:g=f
  ·rw[q];exact(gI f y fs).1
  ·refine(gI f y fs).2 g (wi g fun z=>hg ?_)
   show(if g=f then some u else mA g)=none
   rw[if_neg q];exact z
theorem Inv.made (I:Inv X pins σ H s):Inv X pins σ (upd (upd H s.heap.objs.size (.own (s.heap.objs.size + 1))) (s.heap.objs.size + 1) (.ins C s.heap.objs.size []))
  { s with heap:=(s.heap.push PySem.W.emptyDict).push (PySem.W.instObj C s.heap.objs.size) }:=by
 have e1:(s.heap.push PySem.W.emptyDict).get? s.heap.objs.size=some PySem.W.emptyDict:=Heap.get?_push_size s.heap rfl
 have e2:((s.heap.push PySem.W.emptyDict).push (PySem.W.instObj C s.heap.objs.size)).get? (s.heap.objs.size + 1)=some (PySem.W.instObj C s.heap.objs.size):=by
  have:=Heap.get?_push_size (s.heap.push PySem.W.emptyDict) (o:=PySem.W.instObj C s.heap.objs.size) rfl
  rwa [size_push]at this
 have e3:(s.heap.push PySem.W.emptyDict).Ns s.heap.objs.size (fun _=>none):=⟨PySem.W.emptyDict,#[],_,e1,rfl,(fun e he=>absurd he (by simp)),fun _=>rfl⟩
 have I1:=I.laid (a:=s.heap.objs.size) (o := .own (s.heap.objs.size + 1)) (h':=s.heap.push PySem.W.emptyDict) (t':=s.toks) (fun b u q=>Heap.get?_push_of_some _ q) (le_refl _) ⟨_,e1⟩
 refine I1.laid (a:=s.heap.objs.size + 1) (o := .ins C s.heap.objs.size []) (t':=s.toks) (fun b u q=>Heap.get?_push_of_some _ q) (le_of_eq (size_push _ _)) ?_
 have ne:s.heap.objs.size ≠ s.heap.objs.size + 1:=ne_of_lt (lt_succ_self _)
 refine⟨by rw[af ne,ac],zero_le _,ne,e2,fun _=>none,(Heap.Ns1.of_empty e3).at fun o q=>Heap.get?_push_of_some _ q,fun _=>True.intro,fun y hy=>absurd rfl hy⟩
theorem vv {prog:Program}{w:World}{env:Env}{e:Expr}{f:Str}{pos:Pos}{s:Shared}{Q:Value->Shared->Prop}(hb:attributeBase e f env (eval e env)=eval e env)
  (h:wpAny (model prog w) A (eval e env) (fun o s₁=>wpAny (model prog w) A (getAttr o f true) Q E s₁) E s):wpAny (model prog w) A (eval (.Attribute e f pos) env) Q E s :=
 Attribute_any_ h (by rw[arm_eval_Attribute,hb])
end
noncomputable def iA (K:Frag)(ta:TE)(f:Str):TE:=fun σ H Q=>ta σ H fun x H1=>∃ a C dx fs v,x = .ref a/\H1 a=some (.ins C dx fs)/\Bd K C/\yI K C f/\fs.lookup f=some v/\Q v H1
noncomputable def Od (K:Frag)(ta tv:TE)(f:Str):TS:=fun D σ H=>tv σ H fun y H1=>ta σ H1 fun x H2=>∃ a C dx fs,x = .ref a/\H2 a=some (.ins C dx fs)/\Bd K C/\yI K C f/\fs.length < 1000 /\
 D.nx σ (upd H2 a (.ins C dx (aN f y fs)))
noncomputable def Oe (X:Cx)(op:Operator)(rd:V->V->Hp->VK->Prop):Prop :=
 ∀ (pins:List (Addr × Obj))(s:Shared)(σ:St)(H:Hp)(x y:V)(u v:Value)(Q:VK),Inv X pins σ H s->RelV x u->RelV y v->rd x y H Q->wpAny (model X.prog X.w) X.A (inplaceOp op u v) (EP X pins σ Q) X.xe s
noncomputable def um (K:Frag)(ta tv:TE)(rd:V->V->Hp->VK->Prop)(f:Str):TS:=fun D σ H=>ta σ H fun x H1=>∃ a C dx fs v,x = .ref a/\H1 a=some (.ins C dx fs)/\Bd K C/\yI K C f/\fs.lookup f=some v /\
 tv σ H1 fun y H2=>rd v y H2 fun z H3=>∃ Cq Hg,H3 a=some (.ins C Cq Hg)/\Hg.length < 1000/\D.nx σ (upd H3 a (.ins C Cq (aN f z Hg)))
section
variable {X:Cx}{o e value:Expr}{f:Str}{pos pos' Bw:Pos}{ta tv:TE}
theorem al (he:PE X e ta)(hb:attributeBase e f X.env (eval e X.env)=eval e X.env):PE X (.Attribute e f pos) (iA X.K ta f):=by
 intro pins s σ H Q I h
 refine vv hb (b5 (he pins s σ H _ I h) fun u s1 y8=>?_)
 obtain⟨x,H1,I1,rx,a,C,dx,fs,v,ex,ea,c,n,l,q⟩:=y8
 subst ex
 obtain rfl:u=Value.ref a:=rx
 exact jn I1 ea c n l fun u' s2 I2 ru=>⟨v,H1,I2,ru,q⟩
theorem bj (ha:PE X o ta)(hv:PE X value tv)(hs:swapsWith value (some (.Attribute o f pos')) pos.line X.env=pure false):PS X (.Assign [.Attribute o f pos'] value pos) (Od X.K ta tv f):=by
 intro pins s σ H D I h
 refine plainObj_wpAny_Assign_Attribute (b5 (hv pins s σ H _ I h) fun u s1 ⟨y,H1,I1,ry,q⟩=>b5 (ha pins s1 σ H1 _ I1 q) fun ov s2 y8=>?_) hs
 obtain⟨x,H2,I2,rx,a,C,dx,fs,ex,ea,c,n,l,q2⟩:=y8
 subst ex
 obtain rfl:ov=Value.ref a:=rx
 exact iK I2 ea c n l ry fun s3 I3=>⟨σ,_,I3,q2⟩
theorem dF {op:Operator}{rd:V->V->Hp->VK->Prop}(ha:PE X o ta)(hv:PE X value tv)(IC:Oe X op rd):PS X (.AugAssign (.Attribute o f Bw) op value pos) (um X.K ta tv rd f):=by
 intro pins s σ H D I h
 refine wpAny_AugAssign_AttributeAny (b5 (ha pins s σ H _ I h) fun ov s1 y8=>?_)
 obtain⟨x,H1,I1,rx,a,C,dx,fs,v,ex,ea,c,n,l,q⟩:=y8
 subst ex
 obtain rfl:ov=Value.ref a:=rx
 refine jn I1 ea c n l fun u s2 I2 ru=>b5 (hv pins s2 σ H1 _ I2 q) fun w3 s3 ⟨y,H2,I3,ry,q3⟩=>b5 (IC pins s3 σ H2 v y u w3 _ I3 ru ry q3) fun w4 s4 y8=>?_
 obtain⟨z,H3,I4,rz,Cq,Hg,ea',l',q4⟩:=y8
 exact iK I4 ea' c n l' rz fun s5 I5=>⟨σ,_,I5,q4⟩
end
section
variable {X:Cx}{pins:List (Addr × Obj)}{σ:St}{H:Hp}{s:Shared}{A:Around}{E:Value->Shared->Prop}{Q:Value->Shared->Prop}{c:Value}{b:Bool}
inductive gN (K:Frag)(H:Hp):V->Value->Prop where
 | yK:gN K H .yK (.type "NoneType")
 | bl (x:Bool):gN K H (.bl x) (.type "bool")
 | int (i:Int):gN K H (.int i) (.type "int")
 | str (x:Str):gN K H (.str x) (.type "str")
 | Fj (x:UInt64):gN K H (.Fj x) (.type "float")
 | lst {a:Addr} {xs:List V} (e:H a=some (.lst xs)):gN K H (.ref a) (.type "list")
 | BX {a:Addr} {o:Obj} {xs:List V} (e:H a=some (.BX o (.lst xs))):gN K H (.ref a) (.type "list")
 | tup {a:Addr} {xs:List V} (e:H a=some (.tup xs)):gN K H (.ref a) (.type "tuple")
 | dK {a:Addr} {kvs:List (j6 × V)} (e:H a=some (.dK kvs)):gN K H (.ref a) (.type "dict")
 | dT {a:Addr} {kvs:List (List j6 × V)} (e:H a=some (.dT kvs)):gN K H (.ref a) (.type "dict")
 | ins {a C dx:Addr} {fs:List (Str × V)} (e:H a=some (.ins C dx fs)) (cl:Bd K C) (ha:findIn K (.ref C) "__class__" = some (some (.builtin "object.__class__")))
   (hn:PySem.W.specialIn K (.builtin "object.__class__") "__get__" = some (some (.builtin "getset_descriptor.__get__"))) (Tq:PySem.W.takesIn K (.builtin "object.__class__")=some true)
   (hm:PySem.W.mroIn K C (.type "object")=some true):gN K H (.ref a) (.ref C)
theorem qu {x:V}{u t:Value}(I:Inv X pins σ H s)(rx:RelV x u)(ty:gN X.K H x t)(e:kitOne X.K t c=some b)(h:∀ tk,Q (.bool b) { s with toks:=tk }) :
  wpAny (model X.prog X.w) A (call (.builtin "isinstance") [u,c]) Q E s:=by
 cases ty with
 | yK=>cases (show u=Value.none from rx);exact PySem.W.kia_one PySem.W.kitx_none I.Ae True.intro e (fun z=>nomatch z) h
 | bl y=>cases (show u=Value.bool y from rx);exact PySem.W.kia_one PySem.W.kitx_bool I.Ae True.intro e (fun z=>nomatch z) h
 | int i=>obtain⟨t,q⟩:=(show ∃ t,u=Value.int i t from rx);cases q;exact PySem.W.kia_one PySem.W.kitx_int I.Ae True.intro e (fun z=>nomatch z) h
 | str y=>obtain⟨t,q⟩:=(show ∃ t,u=Value.str y t from rx);cases q;exact PySem.W.kia_one PySem.W.kitx_str I.Ae True.intro e (fun z=>nomatch z) h
 | Fj y=>obtain⟨t,q⟩:=(show ∃ t,u=Value.float y t from rx);cases q;exact PySem.W.kia_one PySem.W.kitx_float I.Ae True.intro e (fun z=>nomatch z) h
 | @lst a xs ea =>
  cases (show u=Value.ref a from rx)
  obtain⟨_,_,n,_,h1⟩:=(show yU X.prog X.w H s.heap a (.lst xs) from I.yE a _ ea)
  exact PySem.W.kia_one PySem.W.kitx_list I.Ae ⟨_,h1,rfl⟩ e (fun z=>nomatch z) h
 | @BX a ob xs ea =>
  cases (show u=Value.ref a from rx)
  obtain⟨_,_,_,n,_,h1⟩:=(show yU X.prog X.w H s.heap a (.BX ob (.lst xs)) from I.yE a _ ea)
  exact PySem.W.kia_one PySem.W.kitx_list I.Ae ⟨_,h1,rfl⟩ e (fun z=>nomatch z) h
 | @tup a xs ea =>
  cases (show u=Value.ref a from rx)
  obtain⟨_,_,_,p⟩:=(show yU X.prog X.w H s.heap a (.tup xs) from I.yE a _ ea)
  obtain⟨o,h1,⟨h2,_⟩,_⟩:=p
  exact PySem.W.kia_one PySem.W.kitx_tuple I.Ae ⟨o,h1,h2⟩ e (fun z=>nomatch z) h
 | @dK a kvs ea =>
  cases (show u=Value.ref a from rx)
  obtain⟨_,_,vs,_,p⟩:=(show yU X.prog X.w H s.heap a (.dK kvs) from I.yE a _ ea)
  obtain⟨o,es,ep,h1,h2,_⟩:=p
  exact PySem.W.kia_one PySem.W.kitx_dict I.Ae ⟨o,h1,h2.1⟩ e (fun z=>nomatch z) h
 | @dT a kvs ea =>
  cases (show u=Value.ref a from rx)
  obtain⟨_,_,xs,_,o,es,ep,h1,h2,_⟩:=(show yU X.prog X.w H s.heap a (.dT kvs) from I.yE a _ ea)
  exact PySem.W.kia_one PySem.W.kitx_dict I.Ae ⟨o,h1,h2.1⟩ e (fun z=>nomatch z) h
 | @ins a C dx fs ea cl ha hn Tq hm =>
  cases (show u=Value.ref a from rx)
  obtain⟨mA,O,_⟩:=iy I.yE ea
  obtain⟨od,J,_⟩:=O.look
  exact PySem.W.kia_one (PySem.W.kitx_own (cl.get _) cl.hd ha hn Tq hm) I.Ae J e (fun z=>nomatch z) h
end
structure yC (k:Nat)(A:Around):Prop where
 hd:A.handled=none
 dp:A.depth + 3 * k + 5 < recursionLimit
 un:A.units + 16 * k + 200 < cLine
theorem yC.mono {j k:Nat}{A:Around}(r:yC k A)(h:j <= k):yC j A:=⟨r.hd,by have:=r.dp;omega,by have:=r.un;omega⟩
theorem yC.deeper {k:Nat}{A:Around}(r:yC (k + 1) A)(env:Env):yC k (A.deeper env) :=
 ⟨r.hd,by have:=r.dp;show A.depth + 1 + 3 * k + 5 < _;omega,by have:=r.un;show A.units + 3 + 16 * k + 200 < _;omega⟩
theorem nT {A:Around}{C:Addr}{us:List Value}{kw:List (Str × Value)}:(A.under (.builtin "type.__call__" ⟨.ref C :: us,kw⟩)).depth=A.depth + 1:=by
 first | rfl | simp[Around.under,Code.weight,Code.isCreation,Code.isGuard,Code.isCaller,Code.frames,Code.isFrame,guardIds]
theorem nR {A:Around}{C:Addr}{us:List Value}{kw:List (Str × Value)}:(A.under (.builtin "type.__call__" ⟨.ref C :: us,kw⟩)).units=A.units + 1:=by
 first | rfl | simp[Around.under,Code.cUnits,Code.frames,Code.isFrame]
theorem yC.make {k:Nat}{A:Around}(r:yC (k + 1) A)(C:Addr)(us:List Value)(kw:List (Str × Value)):yC k (A.under (.builtin "type.__call__" ⟨.ref C :: us,kw⟩)) :=
 ⟨r.hd,by have:=r.dp;rw[nT];omega,by have:=r.un;rw[nR];omega⟩
theorem yC.depth {k:Nat}{A:Around}(r:yC k A):A.depth < recursionLimit:=by have:=r.dp;omega
theorem yC.units {k:Nat}{A:Around}(r:yC k A):A.units + 64 < cLine:=by have:=r.un;omega
noncomputable def ID:TA:=fun _ H Q=>Q [] H
noncomputable def IE (ta:TE)(tr:TA):TA:=fun σ H Q=>ta σ H fun x H1=>tr σ H1 fun xs H2=>Q (x :: xs) H2
section
variable {X:Cx}{e:Expr}{es:List Expr}{te:TE}{t:TA}{pos:Pos}
theorem ad:PA X [] ID:=fun _ _ _ _ H Q I h=>Calls.spliced_nil ⟨[],H,I, .nil,h⟩
theorem aa (ha:PE X e te)(hr:PA X es t)(hs:autoParam (starEach (e :: es) X.env=(false,eval e X.env) :: starEach es X.env) η):PA X (e :: es) (IE te t):=by
 intro pos pins s σ H Q I h
 rw[hs]
 show wpAny _ _ (spliced ((false,eval e X.env) :: backTo pos (starEach es X.env))) _ _ s
 refine Calls.spliced_cons (b5 (ha pins s σ H _ I h) fun u s1 y8=>?_)
 obtain⟨x,H1,I1,r1,q1⟩:=y8
 exact b5 (hr pos pins s1 σ H1 _ I1 q1) fun us s2 y8=>by obtain⟨xs,H2,I2,r2,q2⟩:=y8;exact⟨x :: xs,H2,I2, .cons r1 r2,q2⟩
noncomputable def Of (t:TA):TE:=fun σ H Q=>t σ H fun xs H1=>xs.length <= sizeLine/\∀ p,H1 p=none->Q (.ref p) (upd H1 p (.tup xs))
noncomputable def Og (t:TA):TE:=fun σ H Q=>t σ H fun xs H1=>xs.length <= sizeLine/\∀ p,H1 p=none->Q (.ref p) (upd H1 p (.lst xs))
theorem aW {x1} (h:PA X es t):PE X (.Tuple es x1 pos) (Of t):=by
 intro pins s σ H Q I hq
 refine wpAny_Tuple_spliced (b5 (h pos pins s σ H _ I hq) fun us s1 ⟨xs,H1,I1,r,z,q⟩=>⟨by rw[← r.length];exact z,?_⟩)
 have hf:H1 s1.heap.objs.size=none:=I1.yE.fresh (le_refl _)
 refine⟨.ref s1.heap.objs.size,upd H1 s1.heap.objs.size (.tup xs),I1.laid (t':=s1.toks) (fun b u e=>Heap.get?_push_of_some _ e) (le_refl _) ?_,rfl,q _ hf⟩
 exact⟨z,us,r,⟨_,Heap.get?_push_size _ rfl,⟨rfl,_,rfl⟩,rfl⟩⟩
theorem aU (h:PA X es t):PE X (.List es pos) (Og t):=by
 intro pins s σ H Q I hq
 refine wpAny_List_spliced (b5 (h pos pins s σ H _ I hq) fun us s1 ⟨xs,H1,I1,r,z,q⟩=>⟨by rw[← r.length];exact z,?_⟩)
 have hf:H1 s1.heap.objs.size=none:=I1.yE.fresh (le_refl _)
 refine⟨.ref s1.heap.objs.size,upd H1 s1.heap.objs.size (.lst xs),I1.laid (t':=s1.toks) (fun b u e=>Heap.get?_push_of_some _ e) (le_refl _) ?_,rfl,q _ hf⟩
 exact⟨z,us,0,r,Heap.get?_push_size _ rfl⟩
end
abbrev Sp:=List V->Hp->VK->XK->Prop
abbrev pJ:=List Env->Hp->Shared->XK->Value->Shared->Prop
structure BK (P:Program)(w:World)(K:Frag)(mg:Str->Option Value)(base:Heap)(A:Around)(outer:List Env)(s:Shared)(H:Hp):Prop where
 frames:A.frames=some outer
 mod:Mod K mg base
 bs:∀ b o,base.get? b=some o->s.heap.get? b=some o/\H b=none
 DI:base.objs.size <= s.heap.objs.size
 Aq:s.heap.FunFrames base outer
 Fl:∀ b ∈ pB outer,H b=none
 yE:Ab P w H s.heap
 bare:AllBare s.gens
noncomputable def CE (outer:List Env)(P:Program)(w:World)(H:Hp)(s:Shared)(Q:VK)(u:Value)(s':Shared):Prop :=
 ∃ v H',s'.os=s.os/\AllBare s'.gens/\Un (pB outer) [] H H' s.heap s'.heap/\Ab P w H' s'.heap/\RelV v u/\Q v H'
noncomputable def CR (CX:pJ)(outer:List Env)(P:Program)(w:World)(H:Hp)(s:Shared)(Q:VK)(E:XK)(r:Result)(s':Shared):Prop :=
 match r with
 | .ok (.ret u)=>CE outer P w H s Q u s'
 | .ok _=>False
 | .error e=>CX outer H s E e s'
structure y2 (P:Program)(w:World)(K:Frag)(mg:Str->Option Value)(base:Heap)(CX:pJ)(k:Nat)(f:Addr)(fd:FuncData)(ps:List Str)(sp:Sp):Prop where
 len:∀ vs H Q E,sp vs H Q E->vs.length=ps.length
 run:∀ (A:Around)(outer:List Env)(s:Shared)(H:Hp)(args:Args)(us:List Value)(vs:List V)(Q:VK)(E:XK),yC k A->BK P w K mg base A outer s H->BindsTo s fd args (ps.zip us)->Vals vs us->sp vs H Q E ->
  codeAny (model P w) A (.call (.ref f) args) (CR CX outer P w H s Q E) s
theorem y2.imp {P:Program}{w:World}{K:Frag}{mg:Str->Option Value}{base:Heap}{CX:pJ}{k:Nat}{f:Addr}{fd:FuncData}{ps:List Str}{sp Tt:Sp}(F:y2 P w K mg base CX k f fd ps sp)
  (h:∀ vs H Q E,Tt vs H Q E->sp vs H Q E):y2 P w K mg base CX k f fd ps Tt :=
 ⟨fun vs H Q E q=>F.len vs H Q E (h _ _ _ _ q),fun A outer s H args us vs Q E hr he hb hv hs=>F.run A outer s H args us vs Q E hr he hb hv (h _ _ _ _ hs)⟩
theorem BK.make {P:Program}{w:World}{K:Frag}{mg:Str->Option Value}{base:Heap}{A:Around}{outer:List Env}{s:Shared}{H:Hp}(e:BK P w K mg base A outer s H)(C:Addr)(us:List Value)(kw:List (Str × Value)) :
  BK P w K mg base (A.under (.builtin "type.__call__" ⟨.ref C :: us,kw⟩)) outer s H:=⟨by first | exact e.frames | (simpa [Around.under,Code.envs,Code.isFrame,pushEnvs] using e.frames),e.mod,e.bs,e.DI,e.Aq,e.Fl,e.yE,e.bare⟩
section
variable {X:Cx}{pins:List (Addr × Obj)}{σ:St}{H:Hp}{s s':Shared}
theorem Inv.IF (I:Inv X pins σ H s):BK X.prog X.w X.K X.mg X.base X.A X.stack s H :=
 ⟨I.ok.frames,I.ok.mod,I.bs,le_trans I.ok.DI I.sz,I.stack,I.BY,I.yE,I.bare⟩
theorem Inv.after {Q:VK}{u:Value}(I:Inv X pins σ H s)(h:CE X.stack X.prog X.w H s Q u s'):EP X pins σ Q u s':=by
 obtain⟨v,H',os,bare,un,yE,r,q⟩:=h
 obtain⟨hh,g,d,t,Oh⟩:=s'
 obtain rfl:Oh = s.os:=os
 exact⟨v,H',I.call (h':=hh) (g':=g) (d':=d) (t':=t) (ch:=[]) un yE bare (fun b z=>absurd z (by simp)),r,q⟩
end
noncomputable def IG (sp:Sp)(zH:List V)(E:XK)(t:TA):TE:=fun σ H Q=>t σ H fun vs H1=>sp (vs ++ zH) H1 Q E
noncomputable def vE (C:Addr)(m:Str)(sp:Sp)(zH:List V)(E:XK)(ta:TE)(t:TA):TE:=fun σ H Q=>ta σ H fun x H1=>∃ a dx fs,x = .ref a/\H1 a=some (.ins C dx fs)/\fs.lookup m=none /\
 t σ H1 fun vs H2=>sp (x :: (vs ++ zH)) H2 Q E
noncomputable def IH (C:Addr)(sp:Sp)(zH:List V)(E:XK)(t:TA):TE:=fun σ H Q=>t σ H fun vs H1=>∀ x dx,H1 x=none->H1 dx=none->dx ≠ x ->
 sp (.ref x :: (vs ++ zH)) (upd (upd H1 dx (.own x)) x (.ins C dx [])) (fun v H2=>v = .yK/\Q (.ref x) H2) E
noncomputable def Binds (K:Frag)(fd:FuncData)(ps:List Str)(ds:List Value):Prop :=
 ∀ (s:Shared)(us:List Value),K.In s.heap->(us ++ ds).length=ps.length->BindsTo s fd ⟨us,[]⟩ (ps.zip (us ++ ds))
theorem Binds.all {K:Frag}{fd:FuncData}{ps:List Str}(h:∀ us:List Value,us.length=ps.length->bindArgs fd ⟨us,[]⟩ = pure (ps.zip us)):Binds K fd ps []:=fun s us _ hl=>by
 rw[append_nil]at hl ⊢
 exact .of_eq (h us hl)
noncomputable def eE (CX:pJ)(X:Cx)(E:XK):Prop:=∀ (pins:List (Addr × Obj))(σ:St)(H:Hp)(s:Shared)(e:Value)(s':Shared),Inv X pins σ H s->CX X.stack H s E e s'->X.xe e s'
section
variable {X:Cx}{CX:pJ}{k:Nat}{f C:Addr}{fd:FuncData}{ps:List Str}{sp:Sp}{zH:List V}{ds:List Value}{E:XK}{x m:Str}{p pos apos:Pos}{e o:Expr}{es:List Expr}{ta:TE}{t:TA}
theorem kJ {pins:List (Addr × Obj)}{σ:St}{H:Hp}{s:Shared}{Q:VK}{us:List Value}{vs:List V}(F:y2 X.prog X.w X.K X.mg X.base CX k f fd ps sp)(hr:yC k X.A)(hb:Binds X.K fd ps ds)(hd:Vals zH ds)(hx:eE CX X E)
  (I:Inv X pins σ H s) (r:Vals vs us) (h:sp (vs ++ zH) H Q E):wpAny (model X.prog X.w) X.A (call (.ref f) us) (EP X pins σ Q) X.xe s:=by
 have r2:Vals (vs ++ zH) (us ++ ds):=r.append hd
 have hl:(us ++ ds).length=ps.length:=by rw[← r2.length];exact F.len _ _ _ _ h
 refine wpAny_call (codeAny_mono (F.run X.A X.stack s H ⟨us,[]⟩ (us ++ ds) (vs ++ zH) Q E hr I.IF (hb s us I.Ae hl) r2 h) fun r s' hq=>?_)
 cases r with
 | error e=>exact hx pins σ H s e s' I hq
 | ok fl =>
  cases fl with
  | ret u=>exact I.after hq
  | next=>exact False.elim hq
  | brk=>exact False.elim hq
  | cont=>exact False.elim hq
theorem av (F:y2 X.prog X.w X.K X.mg X.base CX k f fd ps sp)(hr:yC k X.A)(hg:Gl X x)(hm:X.mg x=some (.ref f))(hk:keepIn X.K (.ref f)=true)(hb:Binds X.K fd ps ds)(hd:Vals zH ds)(hx:eE CX X E)
  (ha:PA X (e :: es) t) (DN:autoParam ((x == ("__debug__":Str))=false) θ) (he:autoParam (starEach (e :: es) X.env=(false,eval e X.env) :: starEach es X.env) η) (Bq:autoParam ((backTo pos (starEach es X.env)).any (·.1)=false) η) :
  PE X (.Call (.Name x p) (e :: es) [] pos) (IG sp zH E t):=by
 intro pins s σ H Q I h
 refine wpAny_Call_Name_kw (lb I hg hm ?_ DN)
 refine PySem.W.callWith_K (h₀:=X.base) I.ok.mod.Dx hk (b5 (ha pos pins s σ H _ I h) fun us s1 ⟨vs,H1,I1,r,q⟩=>⟨I1.Ae,?_⟩) he Bq
 exact kJ F hr hb hd hx I1 r q
theorem aH {pl:Sem Bool}(he:PE X o ta)(c:Bd X.K C)(hm:bB X.K C m f)(F:y2 X.prog X.w X.K X.mg X.base CX k f fd ps sp)(hr:yC k X.A)(hb:Binds X.K fd ps ds)(hd:Vals zH ds)(hx:eE CX X E)(ha:PA X (e :: es) t)
  (Bp:autoParam (starEach (e :: es) X.env=(false,eval e X.env) :: starEach es X.env) η) (Bq:autoParam ((backTo pos (starEach es X.env)).any (·.1)=false) η)
  (ht:eval (.Call (.Attribute o m apos) (e :: es) [] pos) X.env=(do
   let ov ← eval o X.env
   standAt apos.atName
   let (f,first) ← holding [ov] (getMethod ov m pl)
   callWith pos f first (backTo pos (starEach (e :: es) X.env)) (backToKw pos (keywordEach [] X.env))):=by rfl) :
  PE X (.Call (.Attribute o m apos) (e :: es) [] pos) (vE C m sp zH E ta t):=by
 intro pins s σ H Q I h
 refine PySem.W.methodCall_KW (pl:=pl) (b5 (he pins s σ H _ I h) fun u s1 y8=>?_) ht
 obtain⟨x,H1,I1,rx,a,dx,fs,ex,ea,l,q⟩:=y8
 subst ex
 obtain rfl:u=Value.ref a:=rx
 refine jm I1 ea c hm l ?_
 refine PySem.W.callWith_K (first:=[.ref a]) (h₀:=X.base) I.ok.mod.Dx hm.kp (b5 (ha pos pins s1 σ H1 _ I1 q) fun us s2 ⟨vs,H2,I2,r,q2⟩=>⟨I2.Ae,?_⟩) Bp Bq
 exact kJ (us := .ref a :: us) (vs := .ref a :: vs) F hr hb hd hx I2 (.cons rfl r) q2
theorem aO {pl:Sem Bool}(he:PE X o ta)(c:Bd X.K C)(hm:bB X.K C m f)(F:y2 X.prog X.w X.K X.mg X.base CX k f fd ps sp)(hr:yC k X.A)(hb:Binds X.K fd ps ds)(hd:Vals zH ds)(hx:eE CX X E)
  (ht:eval (.Call (.Attribute o m apos) [] [] pos) X.env=(do
   let ov ← eval o X.env
   standAt apos.atName
   let (f,first) ← holding [ov] (getMethod ov m pl)
   callWith pos f first (backTo pos (starEach [] X.env)) (backToKw pos (keywordEach [] X.env))):=by rfl) :
  PE X (.Call (.Attribute o m apos) [] [] pos) (vE C m sp zH E ta ID):=by
 intro pins s σ H Q I h
 refine PySem.W.methodCall_KW (pl:=pl) (b5 (he pins s σ H _ I h) fun u s1 y8=>?_) ht
 obtain⟨x,H1,I1,rx,a,dx,fs,ex,ea,l,q⟩:=y8
 subst ex
 obtain rfl:u=Value.ref a:=rx
 refine jm I1 ea c hm l ?_
 exact PySem.W.callWith_K0 (first:=[.ref a]) I1.Ae hm.kp (kJ (us:=[.ref a]) (vs:=[.ref a]) F hr hb hd hx I1 (.cons rfl .nil) q)
structure Mk (K:Frag)(C f:Addr):Prop where
 makes:makesIn K C=true
 init:findIn K (.ref C) "__init__" = some (some (.ref f))
 fn:isFn K (.ref f)=true
 kp:keepIn K (.ref C)=true
theorem rX {pins:List (Addr × Obj)}{σ:St}{H:Hp}{s:Shared}{Q:VK}{us:List Value}{vs:List V}(M:Mk X.K C f)(F:y2 X.prog X.w X.K X.mg X.base CX k f fd ps sp)(hr:yC (k + 1) X.A)(hb:Binds X.K fd ps ds)(hd:Vals zH ds)
  (hx:eE CX X E) (I:Inv X pins σ H s) (r:Vals vs us)
  (h:∀ x dx,H x=none->H dx=none->dx ≠ x->sp (.ref x :: (vs ++ zH)) (upd (upd H dx (.own x)) x (.ins C dx [])) (fun v H2=>v = .yK/\Q (.ref x) H2) E) :
  wpAny (model X.prog X.w) X.A (call (.ref C) us) (EP X pins σ Q) X.xe s:=by
 have hq:=h (s.heap.objs.size + 1) s.heap.objs.size (I.yE.fresh (le_succ _)) (I.yE.fresh (le_refl _)) (ne_of_lt (lt_succ_self _))
 have I2:=Inv.made (C:=C) I
 have r2:Vals (V.ref (s.heap.objs.size + 1) :: (vs ++ zH)) (Value.ref (s.heap.objs.size + 1) :: (us ++ ds)) := .cons rfl (r.append hd)
 have hl:(Value.ref (s.heap.objs.size + 1) :: us ++ ds).length=ps.length:=by
  have e:=r2.length
  rw[F.len _ _ _ _ hq]at e
  exact e.symm
 refine wpAny_call (sW (f:=f) I.Ae M.makes M.init (beq_iff_eq.mp M.fn) (codeAny_mono (F.run _ X.stack _ _ ⟨Value.ref (s.heap.objs.size + 1) :: us,[]⟩ (Value.ref (s.heap.objs.size + 1) :: (us ++ ds)) _ _ E (hr.make C us [])
  (I2.IF.make C us []) (hb _ (Value.ref (s.heap.objs.size + 1) :: us) I2.Ae hl) r2 hq) fun r s' Be=>?_))
 cases r with
 | error e=>exact hx pins σ _ _ e s' I2 Be
 | ok fl =>
  cases fl with
  | ret u =>
   obtain⟨v,H',I3,rv,ev,q3⟩:=I2.after Be
   subst ev
   exact⟨rv,⟨V.ref (s.heap.objs.size + 1),H',I3,rfl,q3⟩⟩
  | next=>exact False.elim Be
  | brk=>exact False.elim Be
  | cont=>exact False.elim Be
theorem dz (M:Mk X.K C f)(F:y2 X.prog X.w X.K X.mg X.base CX k f fd ps sp)(hr:yC (k + 1) X.A)(hg:Gl X x)(hm:X.mg x=some (.ref C))(hb:Binds X.K fd ps ds)(hd:Vals zH ds)(hx:eE CX X E)
  (ha:PA X (e :: es) t) (DN:autoParam ((x == ("__debug__":Str))=false) θ) (he:autoParam (starEach (e :: es) X.env=(false,eval e X.env) :: starEach es X.env) η) (Bq:autoParam ((backTo pos (starEach es X.env)).any (·.1)=false) η) :
  PE X (.Call (.Name x p) (e :: es) [] pos) (IH C sp zH E t):=by
 intro pins s σ H Q I h
 refine wpAny_Call_Name_kw (lb I hg hm ?_ DN)
 refine PySem.W.callWith_K (h₀:=X.base) I.ok.mod.Dx M.kp (b5 (ha pos pins s σ H _ I h) fun us s1 ⟨vs,H1,I1,r,q⟩=>⟨I1.Ae,?_⟩) he Bq
 exact rX M F hr hb hd hx I1 r q
end
section
variable {X:Cx}{CX:pJ}{k:Nat}{f C:Addr}{fd:FuncData}{ps ks:List Str}{sp:Sp}{E:XK}{x m:Str}{p pos apos kpos:Pos}{e o:Expr}{es:List Expr}{kws:List Keyword}{te ta:TE}{t tk:TA}{nm:Option Str}
variable {g:List Value->List Value->List Value}{gV:List V->List V->List V}
end
structure ap (N P:List Str)(sc:Scope):Prop where
 kind:sc.kind = .function
 co:sc.isCoroutine=false
 gen:sc.isGenerator=false
 nd:N.Nodup
 pre:N.take P.length=P
 par:∀ x ∈ P,sc.names.lookup x=some .local∨sc.names.lookup x=some .cell
 Fo:∀ y ∈ sc.names,y.2 ≠ .free
theorem jT {kindOf:Str->Option NameKind}{x:Str}:∀ {binds:List (Str × Value)}{m:Str->Option Value},(∀ v,(x,v) ∉ binds)->bindL kindOf binds m x=m x
 | [],_,_=>rfl
 | (n,v) :: r,m,h=>by
  unfold bindL
  rw[jT fun w hw=>h w (mem_cons_of_mem _ hw)]
  split
  ·have:x ≠ n:=by rintro rfl;exact h v mem_cons_self
   simp[this]
  ·rfl
theorem jV {kindOf:Str->Option NameKind}{x:Str}:∀ {binds:List (Str × Value)}{m:Str->Option Value},(∀ v,(x,v) ∉ binds)->bindC kindOf binds m x=m x
 | [],_,_=>rfl
 | (n,v) :: r,m,h=>by
  unfold bindC
  rw[jV fun w hw=>h w (mem_cons_of_mem _ hw)]
  split
  ·rfl
  ·have:x ≠ n:=by rintro rfl;exact h v mem_cons_self
   simp[this]
theorem jU {kindOf:Str->Option NameKind}{x:Str}{v:Value}:∀ {P:List Str}{vs:List Value}{i:Nat}{m:Str->Option Value},P.Nodup->P[i]? = some x->vs[i]? = some v->kindOf x=some .local ->
  bindL kindOf (P.zip vs) m x=some v
 | [],_,_,_,_,h,_,_=>by simp at h
 | _ :: _,[],_,_,_,_,h,_=>by simp at h
 | p :: P,w :: vs,0,m,nd,h1,h2,hk=>by
  simp at h1 h2;subst h1;subst h2
  show bindL kindOf ((p,w) :: P.zip vs) m p=_
  unfold bindL
  rw[jT fun v hv=>(nodup_cons.mp nd).1 (of_mem_zip hv).1,if_pos hk]
  simp
 | p :: P,w :: vs,i + 1,m,nd,h1,h2,hk=>by
  show bindL kindOf ((p,w) :: P.zip vs) m x=_
  unfold bindL
  exact jU (i:=i) (nodup_cons.mp nd).2 (by simpa using h1) (by simpa using h2) hk
theorem jW {kindOf:Str->Option NameKind}{x:Str}{v:Value}:∀ {P:List Str}{vs:List Value}{i:Nat}{m:Str->Option Value},P.Nodup->P[i]? = some x->vs[i]? = some v->kindOf x ≠ some .local ->
  bindC kindOf (P.zip vs) m x=some v
 | [],_,_,_,_,h,_,_=>by simp at h
 | _ :: _,[],_,_,_,_,h,_=>by simp at h
 | p :: P,w :: vs,0,m,nd,h1,h2,hk=>by
  simp at h1 h2;subst h1;subst h2
  show bindC kindOf ((p,w) :: P.zip vs) m p=_
  unfold bindC
  rw[jV fun v hv=>(nodup_cons.mp nd).1 (of_mem_zip hv).1,if_neg hk]
  simp
 | p :: P,w :: vs,i + 1,m,nd,h1,h2,hk=>by
  show bindC kindOf ((p,w) :: P.zip vs) m x=_
  unfold bindC
  exact jW (i:=i) (nodup_cons.mp nd).2 (by simpa using h1) (by simpa using h2) hk
noncomputable def start (N:List Str)(vs:List V):St:=vs.map some ++ List.replicate (N.length - vs.length) none
noncomputable def oy (CX:pJ)(P:Program)(w:World)(K:Frag)(mg:Str->Option Value)(base:Heap)(N:List Str)(qual:Str)(scope:Scope)(f:Addr)(cd:Value)(A:Around)(outer:List Env)(s:Shared)(H:Hp)(E:XK):Cx where
 prog:=P
 w:=w
 K:=K
 mg:=mg
 base:=base
 A:=A.deeper (envOfC qual scope s.heap.objs.size f cd)
 N:=N
 s₀:=s
 H₀:=H
 env:=envOfC qual scope s.heap.objs.size f cd
 outer:=outer
 stack:=envOfC qual scope s.heap.objs.size f cd :: outer
 ex:=[]
 calm:=true
 fn:=fun _=>true
 pn:=[]
 xe:=fun e s'=>wpAny (model P w) (A.deeper (envOfC qual scope s.heap.objs.size f cd)) (leaving (envOfC qual scope s.heap.objs.size f cd) e) (fun _ II=>CX outer H s E e II) (fun e' II=>CX outer H s E e' II) s'
theorem mG {sc:Scope}{n:Nat}{x:Str}(h:sc.names.lookup x=some .cell):∃ c,(cellsFrom n sc.names []).lookup x=some c:=by
 have q:=PySem.W.cellsFrom_some sc.names n [] (.inl h)
 exact Option.isSome_iff_exists.mp q
theorem qv {CX:pJ}{P:Program}{w:World}{K:Frag}{mg:Str->Option Value}{base:Heap}{N ps:List Str}{qual:Str}{scope:Scope}{f:Addr}{cd:Value}{A:Around}{outer:List Env}{s s1:Shared}{H:Hp}{E:XK}{us:List Value}{vs:List V}
  (S:ap N ps scope) (hd:A.handled=none) (e0:BK P w K mg base A outer s H) (hl:vs.length=ps.length) (r:Vals vs us)
  (x:InCallC s s.heap.objs.size (bindL (envOfC qual scope s.heap.objs.size f cd).kindOf (ps.zip us) fun _=>none) (cellsFrom (s.heap.objs.size + 1) scope.names []) (bindC (envOfC qual scope s.heap.objs.size f cd).kindOf (ps.zip us) fun _=>none) s1) :
  Inv (oy CX P w K mg base N qual scope f cd A outer s H E) [] (start N vs) H s1:=by
 have Bq:ps.length <= N.length:=by have:=congrArg List.length S.pre;rw[length_take]at this;omega
 obtain⟨h1,tk,rfl,hk⟩:=x.done
 have IJ:∀ b:Addr,b ∉ (oy CX P w K mg base N qual scope f cd A outer s H E).ex:=fun b z=>absurd (show b ∈ ([]:List Addr) from z) (by simp)
 refine⟨⟨e0.mod,S.kind,rfl,rfl,le_refl _,fun y z c h1 h2=>?_,fun y hy=>?_,fun y c _ h=>?_,fun _=>hd,Around.frames_deeper e0.frames, .inr ⟨rfl,rfl⟩,fun b z=>absurd z (IJ b),e0.bs,e0.DI,fun b _ _=>IJ b,fun b z=>absurd z (IJ b),e0.Aq,e0.Fl⟩,
  rfl,e0.bare,Un.kept hk,⟨_,x.toInCall.ns,fun i y v h1 h2 h3=>?_⟩,fun y c h=>⟨_,x.cell y c h⟩,e0.yE.fresh (le_refl _),fun y c h=>?_,fun p hp=>absurd (show p ∈ ([]:List (Addr × Obj)) from hp) (by simp),e0.yE.kept hk,?_⟩
 ·exact name_of_addr x.apart (PySem.mem_of_lookup h1) (PySem.mem_of_lookup h2)
 ·have hy:scope.names.lookup y=some .cell∨scope.names.lookup y=some .free:=hy
  rcases hy with hy | hy
  ·exact mG hy
  ·exact absurd rfl (S.Fo _ (PySem.mem_of_lookup hy))
 ·exact le_of_lt (x.above y c (PySem.mem_of_lookup h))
 ·have hi:i < vs.length:=by
   unfold start at h2
   by_cases hi:i < vs.length
   ·exact hi
   ·rw[getElem?_append_right (by simpa using hi)]at h2
    rw[List.getElem?_replicate]at h2
    split at h2<;>cases h2
  have ha:vs[i]? = some v:=by
   unfold start at h2
   rw[getElem?_append_left (by simpa using hi),getElem?_map]at h2
   cases e:vs[i]? with
   | none=>rw[e]at h2;cases h2
   | some a=>rw[e]at h2;cases h2;rfl
  obtain⟨u,hu,rv⟩:=r.get ha
  have hp:ps[i]? = some y:=by
   rw[← S.pre,List.getElem?_take_of_lt (by omega)];exact h1
  have Tu:ps.Nodup:=by rw[← S.pre];exact S.nd.sublist (List.take_sublist _ _)
  refine⟨u,rv,?_⟩
  rcases S.par y (mem_of_getElem? hp) with k | k
  ·exact .inl ⟨k,jU Tu hp hu k⟩
  ·obtain⟨c,e⟩:=mG (n:=s.heap.objs.size + 1) k
   refine .inr ⟨.inl k,c,e,?_⟩
   have q:=x.cell y c e
   rw[jW Tu hp hu (by show scope.names.lookup y ≠ _;rw[k];decide)]at q
   exact q
 ·exact e0.yE.fresh (le_of_lt (x.above y c (PySem.mem_of_lookup h)))
 ·unfold start
  show _=N.length
  rw[length_append,length_map,length_replicate]
  omega
theorem wf {CX:pJ}{P:Program}{w:World}{K:Frag}{mg:Str->Option Value}{base:Heap}{k:Nat}{f:Addr}{name qual:Str}{params:Arguments}{body:List Stmt}{scope:Scope}{dV kV doc pm cdv ct oc:Value}{an od:Option Addr}
  {Cb:Array (Option Value)} {N ps:List Str} {sp:Sp} (lk:K.lookup f=some ⟨oc,od, .func (fnOf name qual params body scope dV kV doc pm an cdv ct),Cb⟩) (BD:codeIn K cdv qual=true) (S:ap N ps scope)
  (len:∀ vs H Q E,sp vs H Q E->vs.length=ps.length)
  (Bx:∀ (A:Around)(outer:List Env)(s:Shared)(H:Hp)(vs:List V)(Q:VK)(E:XK),yC k (A.deeper (envOfC qual scope s.heap.objs.size f cdv))->sp vs H Q E ->
   ∃ t,BZ (oy CX P w K mg base N qual scope f cdv A outer s H E) body t/\t { nx:=fun _ H'=>Q .yK H',rt:=Q } (start N vs) H) :
  y2 P w K mg base CX (k + 1) f (fnOf name qual params body scope dV kV doc pm an cdv ct) ps sp:=by
 refine⟨len,fun A outer s H args us vs Q E hr e0 hb r D4=>?_⟩
 have hl:=len _ _ _ _ D4
 have KX:K.In s.heap:=e0.mod.Dx.keeps fun b o e=>(e0.bs b o e).1
 have lim:s.heap.NoLimit:=e0.mod.nolimit.keeps fun b o e=>(e0.bs b o e).1
 have IK:∀ y ∈ ps.zip us,scope.names.lookup y.1=some .local∨(scope.names.lookup y.1=some .cell/\((cellsFrom (s.heap.objs.size + 1) scope.names []).lookup y.1).isSome=true):=fun⟨n,v⟩ hy=>by
  rcases S.par n (of_mem_zip hy).1 with q | q
  ·exact .inl q
  ·exact .inr ⟨q,PySem.W.cellsFrom_some _ _ _ (.inl q)⟩
 refine codeAny_call_function hr.depth (KX _ _ lk) rfl S.co S.gen rfl (PySem.W.codeRec_of KX BD) (hb _ _ _ _ ?_)
 refine wpAny_newFunctionEnv_cells S.kind IK fun env he s1 x=>?_
 subst he
 refine⟨lim.keeps x.toInCall.keep,codeAny_func ?_⟩
 obtain⟨t,ht,hq⟩:=Bx A outer s H vs Q E (hr.deeper _) D4
 have I:Inv (oy CX P w K mg base N qual scope f cdv A outer s H E) [] (start N vs) H s1:=qv S hr.hd e0 hl r x
 refine wpAny_mono (ht [] s1 (start N vs) H _ I hq) (fun fl s' hs=>?_) fun e s' hs=>hs
 have fin:∀ {σ':St}{H':Hp}{v:V}{u:Value},Inv (oy CX P w K mg base N qual scope f cdv A outer s H E) [] σ' H' s'->RelV v u->Q v H'->CE outer P w H s Q u s' :=
  fun {σ' H' v u} J rv q=>⟨v,H',J.os,J.bare,J.base,J.yE,rv,q⟩
 cases fl with
 | ret u =>
  obtain⟨v,σ',H',J,rv,q⟩:=hs
  exact fin J rv q
 | next =>
  obtain⟨σ',H',J,q⟩:=hs
  exact fin (v:=V.yK) (u:=Value.none) J rfl q
 | brk =>
  obtain⟨_,_,_,q⟩:=hs
  exact False.elim q
 | cont =>
  obtain⟨_,_,_,q⟩:=hs
  exact False.elim q
section
variable {X:Cx}{x:Str}{p pos:Pos}{e:Expr}{es:List Expr}{t:TA}{id T:String}{r:List V->Hp->VK->Prop}
noncomputable def Tv (r:List V->Hp->VK->Prop)(t:TA):TE:=fun σ H Q=>t σ H fun vs H1=>r vs H1 Q
theorem au (hc:cE X (.builtin id) r)(hg:Gl X x)(hm:X.mg x=none)(hv:bootBuiltins x=some (.builtin id))(ha:PA X (e :: es) t)(hn:autoParam (x ≠ "__name__") θ)(DN:autoParam ((x == ("__debug__":Str))=false) θ)
  (he:autoParam (starEach (e :: es) X.env=(false,eval e X.env) :: starEach es X.env) η) (Bq:autoParam ((backTo pos (starEach es X.env)).any (·.1)=false) η):PE X (.Call (.Name x p) (e :: es) [] pos) (Tv r t):=by
 intro pins s σ H Q I h
 refine wpAny_Call_Name_kw (eC I hg hm hv ?_ hn DN)
 exact PyProof.Rows.callWith_builtin1 (b5 (ha pos pins s σ H _ I h) fun us s1 y8=>by obtain⟨vs,H1,I1,r1,q1⟩:=y8;exact hc pins s1 σ H1 vs us Q I1 r1 q1) he Bq
theorem aJ (hc:cE X (.type T) r)(hg:Gl X x)(hm:X.mg x=none)(hv:bootBuiltins x=some (.type T))(ha:PA X (e :: es) t)(hn:autoParam (x ≠ "__name__") θ)(DN:autoParam ((x == ("__debug__":Str))=false) θ)
  (he:autoParam (starEach (e :: es) X.env=(false,eval e X.env) :: starEach es X.env) η) (Bq:autoParam ((backTo pos (starEach es X.env)).any (·.1)=false) η):PE X (.Call (.Name x p) (e :: es) [] pos) (Tv r t):=by
 intro pins s σ H Q I h
 refine wpAny_Call_Name_kw (eC I hg hm hv ?_ hn DN)
 exact PyProof.Rows.callWith_type1 (b5 (ha pos pins s σ H _ I h) fun us s1 y8=>by obtain⟨vs,H1,I1,r1,q1⟩:=y8;exact hc pins s1 σ H1 vs us Q I1 r1 q1) he Bq
end
end L2
namespace HT
open PySem PyProof.Rows
section
open PySem.SeqAt
open PySem.AutoSeq1 (wpAny_loadPart')
open PySem.MeetsSeq PySem.MeetsSeq2 PySem.MeetsSeq3
end
section
variable {prog:Program}{w:World}{A:Around}{E:Value->Shared->Prop}{s:Shared}
theorem DO {t b:Addr}{vs ws:List Value}{Q:Value->Shared->Prop}(ht:IsTup s.heap t vs.toArray)(hb:IsTup s.heap b ws.toArray)(hv:vs ≠ [])
  (h1:ws=[]->Q (.ref t) s) (h2:ws ≠ []->Q (.ref s.heap.objs.size) { s with heap:=s.heap.push { cls := .type "tuple",data := .seq (vs ++ ws).toArray } })
  (hsz:vs.length + ws.length <= sizeLine):wpAny (model prog w) A (binaryOp .Add (.ref t) (.ref b)) Q E s:=by
 obtain⟨⟨cls,dd,data,sl⟩,ho,hc,n,hd⟩:=id ht
 obtain⟨⟨Oi,Mz,data2,M0⟩,zO,AV,n2,hd2⟩:=id hb
 simp only at hc hd AV hd2
 subst hc hd AV hd2
 have e:vs.toArray ++ ws.toArray=(vs ++ ws).toArray:=by simp
 by_cases hw:ws=[]
 ·exact concat_meets ⟨_,ho,rfl⟩ ⟨_,zO,rfl⟩ noFill_tuple_add seq_tuple_add slot_tuple_add entry_tuple_add (args_tuple_add_2 _ _)
   (tuple_addW1 t b vs.toArray ws.toArray n n2 dd Mz sl M0 (by simpa using hv) (by simp[hw])) ⟨ho,zO,h1 hw⟩
 ·refine concat_meets ⟨_,ho,rfl⟩ ⟨_,zO,rfl⟩ noFill_tuple_add seq_tuple_add slot_tuple_add entry_tuple_add (args_tuple_add_2 _ _)
   (tuple_addW2 t b vs.toArray ws.toArray n n2 dd Mz sl M0 (by simpa using hv) (by simpa using hw) (by rw[size_toArray,size_toArray];exact hsz)) ⟨ho,zO,?_⟩
  rw[e]
  exact h2 hw
noncomputable def Aw (n d:Nat):Option Int->Nat
 | none=>d
 | some v=>if v < 0 then (v + (n:Int)).toNat else min v.toNat n
theorem zK (n d k:Nat):Aw n d (some (k:Int))=min k n:=by
 show(if (k:Int) < 0 then ((k:Int) + (n:Int)).toNat else min (k:Int).toNat n)=min k n
 rw[if_neg (by omega),toNat_natCast]
end
end HT
namespace L2
open PySem PySem.Spec PyProof.Rows
abbrev TO:=St->Hp->(Option Int->Hp->Prop)->Prop
noncomputable def PO (X:Cx)(e:Option Expr)(t:TO):Prop :=
 ∀ (pins:List (Addr × Obj))(s:Shared)(σ:St)(H:Hp)(Q:Option Int->Hp->Prop),Inv X pins σ H s->t σ H Q ->
  wpAny (model X.prog X.w) X.A (evalPart e X.env) (fun u s'=>∃ o H',Inv X pins σ H' s'/\IsPart u o/\Q o H') X.xe s
noncomputable def ub:TO:=fun _ H Q=>Q none H
noncomputable def IL (t:TE):TO:=fun σ H Q=>t σ H fun x H1=>∃ i,x = .int i/\Q (some i) H1
theorem oi {ns:List Int}:∀ {us:List Value},Vals (ns.map V.int) us->IntsAre us ns:=by
 induction ns with
 | nil=>intro us r;rw[map_nil]at r;cases r;exact .nil
 | cons n ns ih =>
  intro us r
  rw[map_cons]at r
  cases r with
  | cons r1 r2 =>
   obtain⟨t,e⟩:=r1
   subst e
   exact .cons n t (ih r2)
section
variable {X:Cx}{e:Expr}{te:TE}{lo hi:Option Expr}{tl th:TO}{pos p2:Pos}
theorem kM:PO X none ub:=by
 intro pins s σ H Q I h
 rw[evalPart_none]
 exact wpAny_pure ⟨none,H,I, .none,h⟩
theorem dP (h:PE X e te):PO X (some e) (IL te):=by
 intro pins s σ H Q I hw
 rw[evalPart_some]
 refine b5 (h pins s σ H _ I hw) fun u s1 y8=>?_
 obtain⟨x,H1,I1,r1,q1⟩:=y8
 obtain⟨i,rfl,q⟩:=q1
 obtain⟨t,rfl⟩:=r1
 exact⟨some i,H1,I1, .int i t,q⟩
noncomputable def Tw (X:Cx)(r:V->Option Int->Option Int->Hp->VK->Prop):Prop :=
 ∀ (pins:List (Addr × Obj))(s:Shared)(σ:St)(H:Hp)(x:V)(v vl vu:Value)(lo hi:Option Int)(sl:Addr)(Q:VK),Inv X pins σ H s->RelV x v->s.heap.IsSliceOf sl vl vu .none->IsPart vl lo->IsPart vu hi->r x lo hi H Q ->
  ∃ T id,typeLookup (.type T) "__getitem__" = pure (some (.builtin id))/\s.TypeIs v T/\wpAny (model X.prog X.w) X.A (getItem v (.ref sl)) (EP X pins σ Q) X.xe s
noncomputable def tSl (r:V->Option Int->Option Int->Hp->VK->Prop)(te:TE)(tl th:TO):TE:=fun σ H Q=>te σ H fun x H1=>tl σ H1 fun l H2=>th σ H2 fun u H3=>r x l u H3 Q
theorem e9 {r:V->Option Int->Option Int->Hp->VK->Prop}(hr:Tw X r)(he:PE X e te)(hl:PO X lo tl)(hu:PO X hi th):PE X (.Subscript e (.Slice lo hi none p2) pos) (tSl r te tl th):=by
 intro pins s σ H Q I h
 refine Subscript_ (b5 (he pins s σ H _ I h) fun v s1 y8=>?_)
 obtain⟨x,H1,I1,r1,q1⟩:=y8
 refine wpAny_Slice (b5 (hl pins s1 σ H1 _ I1 q1) fun vl s2 ⟨l,H2,I2,pl,q2⟩=>b5 (hu pins s2 σ H2 _ I2 q2) fun vu s3 y8=>?_)
 obtain⟨u,H3,I3,pu,q3⟩:=y8
 rw[evalPart_none]
 refine wpAny_pure ?_
 have I4:Inv X pins σ H3 { s3 with heap:=s3.heap.push { cls := .type "slice",data := .fields #[vl,vu, .none] } }:=I3.kept (t':=s3.toks) fun b ob q=>Heap.get?_push_of_some _ q
 obtain⟨T,id,hT,ht,hg⟩:=hr pins { s3 with heap:=s3.heap.push { cls := .type "slice",data := .fields #[vl,vu, .none] } } σ H3 x v vl vu l u s3.heap.objs.size Q I4 r1 (Heap.IsSliceOf.new ..) pl pu q3
 show wpAny (model X.prog X.w) X.A (subscriptTail e (.Slice lo hi none p2) v (.ref s3.heap.objs.size)) (EP X pins σ Q) X.xe { s3 with heap:=s3.heap.push { cls := .type "slice",data := .fields #[vl,vu, .none] } }
 exact tail_any (ops:=[.ref s3.heap.objs.size,v]) ht hT hg (by with_unfolding_all rfl)
noncomputable def gh (xs:List V)(lo hi:Option Int):List V:=(xs.drop (HT.Aw xs.length 0 lo)).take (HT.Aw xs.length xs.length hi - HT.Aw xs.length 0 lo)
theorem m9 (xs:List V)(lo hi:Option Int):(gh xs lo hi).length <= xs.length:=by
 unfold gh
 rw[length_take,length_drop]
 omega
noncomputable def IM (K:Frag):R2:=fun x y H Q=>∃ a b xs ys,x = .ref a/\y = .ref b/\yD K H a xs/\yD K H b ys/\xs ≠ []/\xs.length + ys.length <= sizeLine /\
 (ys=[]->Q (.ref a) H)/\(ys ≠ []->∀ p,H p=none->Q (.ref p) (upd H p (.tup (xs ++ ys))))
theorem Vals.Ax {xs:List V}{us:List Value}(r:Vals xs us):us=[]↔xs=[]:=by
 cases r with
 | nil=>simp
 | cons _ _=>simp
theorem uz:dW X (binaryOp .Add) (IM X.K):=by
 intro pins s σ H x y v u Q I rx ry h
 obtain⟨a,b,xs,ys,rfl,rfl,ha,hb,hx,hz,q1,q2⟩:=h
 cases rx
 cases ry
 obtain⟨y9,r1,p1,_⟩:=I.tuple ha
 obtain⟨AM,r2,p2,_⟩:=I.tuple hb
 refine HT.DO p1 p2 (fun z=>hx (r1.Ax.mp z)) (fun z=>⟨.ref a,H,I,rfl,q1 (r2.Ax.mp z)⟩) (fun z=>?_) (by rw[← r1.length,← r2.length];exact hz)
 refine⟨.ref s.heap.objs.size,_,I.laid (t':=s.toks) (o := .tup (xs ++ ys)) (fun b ob q=>Heap.get?_push_of_some _ q) (le_refl _) ?_,rfl,q2 (fun w=>z (r2.Ax.mpr w)) _ (I.yE.fresh (le_refl _))⟩
 exact⟨by rw[length_append];exact hz,_,r1.append r2,zF.new _ _⟩
end
noncomputable def vg (n:Nat)(i:Int):Option Nat:=if 0 <= i then (if i < n then some i.toNat else none) else if -(n:Int) <= i then some (i + n).toNat else none
noncomputable def Hl {α:Type}(xs:List α)(i:Int):Option α:=(vg xs.length i).bind fun j=>xs[j]?
theorem py {n:Nat}{i:Int}{j:Nat}(h:vg n i=some j):seqIndex? i n=some j/\j < n/\-(n:Int) <= i/\i < n:=by
 unfold vg at h
 by_cases h0:0 <= i
 ·rw[if_pos h0]at h
  by_cases h1:i < n
  ·rw[if_pos h1]at h
   have e:i.toNat=j:=Option.some.inj h
   exact⟨by rw[seqIndex_of h0 h1,e],by omega,by omega,h1⟩
  ·rw[if_neg h1]at h;cases h
 ·rw[if_neg h0]at h
  by_cases h1:-(n:Int) <= i
  ·rw[if_pos h1]at h
   have e:(i + n).toNat=j:=Option.some.inj h
   exact⟨by rw[seqIndex_neg (by omega) h1,e],by omega,h1,by omega⟩
  ·rw[if_neg h1]at h;cases h
theorem pH {α:Type}{xs:List α}{i:Int}{v:α}(h:Hl xs i=some v):∃ j,seqIndex? i xs.length=some j/\xs[j]? = some v/\j < xs.length/\-(xs.length:Int) <= i/\i < xs.length:=by
 unfold Hl at h
 cases e:vg xs.length i with
 | none=>rw[e]at h;cases h
 | some j =>
  rw[e]at h
  obtain⟨h1,h2,h3,h4⟩:=py e
  exact⟨j,h1,h,h2,h3,h4⟩
theorem ak {α:Type}{xs:List α}{j:Nat}{v:α}(h:xs[j]? = some v):Hl xs (j:Int)=some v:=by
 have hj:j < xs.length:=(gQ0 h)
 have e:vg xs.length (j:Int)=some j:=by
  unfold vg
  rw[if_pos (by omega),if_pos (by omega)];simp
 unfold Hl;rw[e];exact h
noncomputable def v7 (b:Expr):Prop:=∀ o i,subscripted b false o i=operate [o,i] (getItem o i)
noncomputable def qH (X:Cx)(r:R2):Prop :=
 ∀ (value slice:Expr)(pins:List (Addr × Obj))(s:Shared)(σ:St)(H:Hp)(x y:V)(v u:Value)(Q:VK),Inv X pins σ H s->RelV x v->RelV y u->r x y H Q ->
  subscripted slice false v u=operate [v,u] (getItem v u)->wpAny (model X.prog X.w) X.A (subscriptTail value slice v u) (EP X pins σ Q) X.xe s
noncomputable def M1 (X:Cx)(id:String)(r:V->List V->Hp->VK->Prop):Prop :=
 ∀ (pins:List (Addr × Obj))(s:Shared)(σ:St)(H:Hp)(x:V)(xs:List V)(v:Value)(us:List Value)(Q:VK),Inv X pins σ H s->RelV x v->Vals xs us->r x xs H Q ->
  wpAny (model X.prog X.w) X.A (call (.builtin id) (v :: us)) (EP X pins σ Q) X.xe s
section
variable {X:Cx}{a b:Expr}{ta tb:TE}{pos:Pos}
theorem aC {r:R2}(hr:qH X r)(ha:PE X a ta)(hb:PE X b tb)(hs:v7 b):PE X (.Subscript a b pos) (Mx r ta tb):=by
 intro pins s σ H Q I h
 exact Subscript_ (yo ha hb I h fun v u s2 x y H2 I2 rx ry q=>hr a b pins s2 σ H2 x y v u Q I2 rx ry q (hs _ _))
noncomputable def uq (K:Frag):R2:=fun x y H Q=>∃ p xs i v,x = .ref p/\y = .int i/\y6 K H p xs/\Hl xs i=some v/\Q v H
noncomputable def lI (K:Frag):R2:=fun x y H Q=>∃ p xs i v,x = .ref p/\y = .int i/\yD K H p xs/\Hl xs i=some v/\Q v H
theorem aS:qH X (uq X.K):=by
 intro value slice pins s σ H x y v u Q I rx ry h hs
 obtain⟨p,xs,i,z,rfl,rfl,hq,he,q⟩:=h
 cases rx
 obtain⟨t,rfl⟩:=ry
 obtain⟨y9,r,pl,hz⟩:=I.list hq
 obtain⟨j,h1,h2,h3,h4,h5⟩:=pH he
 obtain⟨w,ew,DP⟩:=r.get h2
 have hl:=r.length
 have hn:=jg
 have fin:EP X pins σ Q w s:=⟨z,H,I,DP,q⟩
 by_cases h0:0 <= i
 ·have hj:i.toNat=j:=by
   rw[seqIndex_of h0 h5]at h1
   exact Option.some.inj h1
  exact item_listR pl.isList h0 (by omega) (by rw[hj];simpa using ew) fin hs
 ·have hj:(i + (y9.toArray.size:Int)).toNat=j:=by
   rw[seqIndex_neg (by omega) h4]at h1
   rw[size_toArray,← hl]
   exact Option.some.inj h1
  exact subscriptTail_builtinR (x:=w) pl.isList.typeIs slot_list_getitem.lookup
   (wpAny_getItem_list_neg (Q:=fun r s'=>r=w/\EP X pins σ Q r s') pl.isList (by omega) (by rw[size_toArray]<;>omega) (by omega) (by rw[hj];simpa using ew) ⟨rfl,fin⟩) hs
theorem aE:qH X (lI X.K):=by
 intro value slice pins s σ H x y v u Q I rx ry h hs
 obtain⟨p,xs,i,z,rfl,rfl,hq,he,q⟩:=h
 cases rx
 obtain⟨t,rfl⟩:=ry
 obtain⟨y9,r,pl,hz⟩:=I.tuple hq
 obtain⟨j,h1,h2,h3,h4,h5⟩:=pH he
 obtain⟨w,ew,DP⟩:=r.get h2
 have hl:=r.length
 have hn:=jg
 have fin:EP X pins σ Q w s:=⟨z,H,I,DP,q⟩
 exact subscriptTail_builtinR (x:=w) pl.typeIs slot_tuple_getitem.lookup
  (getItem_tuple (j:=j) (Q:=fun r s'=>r=w/\EP X pins σ Q r s') pl (by omega) (by omega) (by rw[size_toArray,← hl];exact h1) (by simpa using ew) ⟨rfl,fin⟩) hs
theorem nQ (y9:List Value)(n j:Nat)(u:Value):Obj.mapSeq (·.setIfInBounds j u) { cls := .type "list",data := .seq y9.toArray n } = { cls := .type "list",data := .seq (y9.set j u).toArray n }:=by
 simp[Obj.mapSeq]
theorem Inv.lst {pins:List (Addr × Obj)}{σ:St}{H:Hp}{s:Shared}{p:Addr}{xs:List V}(I:Inv X pins σ H s)(h:H p=some (.lst xs)) :
  ∃ (y9:List Value)(n:Nat),Vals xs y9/\s.heap.get? p=some { cls := .type "list",data := .seq y9.toArray n }/\xs.length <= sizeLine:=by
 obtain⟨z,y9,n,r,e⟩:=I.yE p _ h
 exact⟨y9,n,r,e,z⟩
theorem Inv.Fp {pins:List (Addr × Obj)}{σ:St}{H:Hp}{s:Shared}{p:Addr}{xs ys:List V}{y9 its':List Value}{n n':Nat}{f:Obj->Obj}(I:Inv X pins σ H s)(h:H p=some (.lst xs))
  (ho:s.heap.get? p=some { cls := .type "list",data := .seq y9.toArray n }) (hf:f { cls := .type "list",data := .seq y9.toArray n } = { cls := .type "list",data := .seq its'.toArray n' }) (r:Vals ys its') (hz:ys.length <= sizeLine) (t:Nat) :
  Inv X pins σ (upd H p (.lst ys)) { s with heap:=s.heap.update p f,toks:=t }:=by
 have e:(s.heap.update p f).get? p=some { cls := .type "list",data := .seq its'.toArray n' }:=by
  rw[Heap.get?_update_self f ho (by rw[hf]<;>rfl),hf]
 refine I.write (x:=p) (e:=p) (by rw[h];trivial) (.inl rfl) (fun b u hb q=>(Heap.get?_update_other _ _ (Ne.symm hb)).trans q) ⟨_,e⟩ ?_
 exact⟨hz,its',n',r,e⟩
noncomputable def IP:V->V->V->Hp->(Hp->Prop)->Prop:=fun o i v H Q=>∃ p xs k j,o = .ref p/\i = .int k/\H p=some (.lst xs)/\vg xs.length k=some j/\Q (upd H p (.lst (xs.set j v)))
theorem iL:Ir X IP:=by
 intro pins s σ H o i v ov iv u Q I ro ri rv h
 obtain⟨p,xs,k,j,rfl,rfl,hp,hj,q⟩:=h
 cases ro
 obtain⟨t,rfl⟩:=ri
 obtain⟨y9,n,r,ho,hz⟩:=I.lst hp
 obtain⟨h1,h2,h3,h4⟩:=py hj
 have hl:=r.length
 have hn:=jg
 have I':Inv X pins σ (upd H p (.lst (xs.set j v))) { s with heap:=s.heap.update p (Obj.mapSeq (·.setIfInBounds j u)) } :=
  I.Fp hp ho (nQ y9 n j u) (r.set rv j) (by rw[length_set];exact hz) s.toks
 by_cases h0:0 <= k
 ·have hk:k.toNat=j:=by
   rw[seqIndex_of h0 h4]at h1
   exact Option.some.inj h1
  exact PySem.W.ki_setAt ho h0 (by omega) (by rw[size_toArray,← hl];exact h4) (by rw[hk];exact⟨_,I',q⟩)
 ·have hk:(k + (y9.toArray.size:Int)).toNat=j:=by
   rw[seqIndex_neg (by omega) h3]at h1
   rw[size_toArray,← hl]
   exact Option.some.inj h1
  exact PySem.W.ki_setBack ho (by omega) (by rw[size_toArray,← hl];exact h3) (by omega) (by rw[hk];exact⟨_,I',q⟩)
theorem kB (lo hi:Option Int)(n:Nat):(sliceBounds lo hi none n).1=((HT.Aw n 0 lo:Nat):Int)/\(sliceBounds lo hi none n).2.1=((HT.Aw n n hi:Nat):Int)/\(sliceBounds lo hi none n).2.2=1:=by
 refine⟨?_,?_,rfl⟩
 ·cases lo with
  | none=>simp[sliceBounds,HT.Aw]
  | some i =>
   simp only[sliceBounds,HT.Aw,Option.getD_none,show (1:Int) > 0 by decide,if_true]
   by_cases h:i < 0
   ·simp only[h,if_true]<;>omega
   ·simp only[h,if_false]<;>omega
 ·cases hi with
  | none=>simp[sliceBounds,HT.Aw]
  | some i =>
   simp only[sliceBounds,HT.Aw,Option.getD_none,show (1:Int) > 0 by decide,if_true]
   by_cases h:i < 0
   ·simp only[h,if_true]<;>omega
   ·simp only[h,if_false]<;>omega
theorem jy (y9:List Value)(lo hi:Option Int):slicePick y9.toArray lo hi none=((y9.drop (HT.Aw y9.length 0 lo)).take (HT.Aw y9.length y9.length hi - HT.Aw y9.length 0 lo)).toArray:=by
 obtain⟨h1,h2,h3⟩:=kB lo hi y9.toArray.size
 unfold slicePick
 rw[h1,h2,h3]
 simp only[sliceRange_one,pick_run,size_toArray]<;>rfl
noncomputable def Oj (K:Frag):V->Option Int->Option Int->Hp->VK->Prop:=fun x lo hi H Q=>∃ a xs,x = .ref a/\y6 K H a xs/\∀ p,H p=none->Q (.ref p) (upd H p (.lst (gh xs lo hi)))
theorem fS:Tw X (Oj X.K):=by
 intro pins s σ H x v vl vu lo hi sl Q I rx hs pl pu h
 obtain⟨a,xs,rfl,hx,q⟩:=h
 cases rx
 obtain⟨y9,r,ht,hz⟩:=I.list hx
 have hlen:=r.length
 refine⟨"list",_,slot_list_getitem.lookup,ht.isList.typeIs,?_⟩
 refine wpAny_getItem_list_slice ht.isList hs pl pu .none (by simp) ?_ (by rw[size_toArray]<;>omega)
 rw[jy,← hlen]
 refine⟨.ref s.heap.objs.size,_,I.laid (t':=s.toks) (o := .lst (gh xs lo hi)) (fun b ob q=>Heap.get?_push_of_some _ q) (le_refl _) ?_,rfl,q _ (I.yE.fresh (le_refl _))⟩
 exact⟨le_trans (m9 xs lo hi) hz,_,0,(r.drop (HT.Aw xs.length 0 lo)).take (HT.Aw xs.length xs.length hi - HT.Aw xs.length 0 lo),Heap.get?_push_size _ rfl⟩
noncomputable def ge:V->Bool
 | .yK=>true
 | .bl _=>true
 | .int _=>true
 | .str _=>true
 | _=>false
noncomputable def wg:V->V->Bool
 | .yK, .yK=>true
 | .bl a, .bl b=>a == b
 | .bl a, .int b=>(if a then 1 else 0) == b
 | .int a, .bl b=>a == (if b then 1 else 0)
 | .int a, .int b=>a == b
 | .str a, .str b=>a == b
 | _,_=>false
theorem yh {A:Around}{s:Shared}{y x:V}{u v:Value}(ry:RelV y u)(rx:RelV x v)(fy:ge y=true)(fx:ge x=true):SeqAt.EqAt A s u v (wg y x):=by
 cases y with
 | yK =>
  cases ry
  cases x with
  | yK=>cases rx;exact SeqAt.EqAt.same _
  | bl b=>cases rx;exact SeqAt.EqAt.none_bool b
  | int b=>obtain⟨t,rfl⟩:=rx;exact SeqAt.EqAt.none_int b t
  | str b=>obtain⟨t,rfl⟩:=rx;exact SeqAt.EqAt.none_str b t
  | _=>exact absurd (show false=true from fx) Bool.false_ne_true
 | bl a =>
  cases ry
  cases x with
  | yK=>cases rx;exact SeqAt.EqAt.bool_none a
  | bl b=>cases rx;exact SeqAt.EqAt.bool_bool a b
  | int b=>obtain⟨t,rfl⟩:=rx;exact SeqAt.EqAt.bool_int a b t
  | str b=>obtain⟨t,rfl⟩:=rx;exact SeqAt.EqAt.bool_str a b t
  | _=>exact absurd (show false=true from fx) Bool.false_ne_true
 | int a =>
  obtain⟨t',rfl⟩:=ry
  cases x with
  | yK=>cases rx;exact SeqAt.EqAt.int_none a t'
  | bl b=>cases rx;exact SeqAt.EqAt.int_bool a t' b
  | int b=>obtain⟨t,rfl⟩:=rx;exact SeqAt.EqAt.int_int a t' b t
  | str b=>obtain⟨t,rfl⟩:=rx;exact SeqAt.EqAt.int_str a t' b t
  | _=>exact absurd (show false=true from fx) Bool.false_ne_true
 | str a =>
  obtain⟨t',rfl⟩:=ry
  cases x with
  | yK=>cases rx;exact SeqAt.EqAt.str_none a t'
  | bl b=>cases rx;exact SeqAt.EqAt.str_bool a t' b
  | int b=>obtain⟨t,rfl⟩:=rx;exact SeqAt.EqAt.str_int a t' b t
  | str b=>obtain⟨t,rfl⟩:=rx;exact SeqAt.EqAt.str_str a t' b t
  | _=>exact absurd (show false=true from fx) Bool.false_ne_true
 | _=>exact absurd (show false=true from fy) Bool.false_ne_true
noncomputable def ow (x:V)(u:Value):Bool:=match u with
 | .none=>wg .yK x
 | .bool b=>wg (.bl b) x
 | .int i _=>wg (.int i) x
 | .str z _=>wg (.str z) x
 | _=>false
theorem tF {x y:V}{u:Value}(r:RelV y u)(f:ge y=true):ow x u=wg y x:=by
 cases y with
 | yK=>cases r;rfl
 | bl b=>cases r;rfl
 | int i=>obtain⟨t,rfl⟩:=r;rfl
 | str z=>obtain⟨t,rfl⟩:=r;rfl
 | _=>exact absurd (show false=true from f) Bool.false_ne_true
theorem gn {x:V}:∀ {xs:List V}{us:List Value},Vals xs us->xs.all ge=true->us.any (ow x)=xs.any fun y=>wg y x
 | _,_, .nil,_=>rfl
 | y :: xs,u :: us, .cons r t,f=>by
  rw[all_cons,Bool.and_eq_true]at f
  rw[any_cons,any_cons,tF r f.1,gn t f.2]
theorem eB {A:Around}{s:Shared}{x:V}{v:Value}(rx:RelV x v)(fx:ge x=true):∀ {xs:List V}{us:List Value},Vals xs us->xs.all ge=true->∀ u ∈ us,SeqAt.EqAt A s u v (ow x u)
 | _,_, .nil,_=>fun u hu=>by cases hu
 | y :: xs,u :: us, .cons r t,f=>fun u' hu=>by
  rw[all_cons,Bool.and_eq_true]at f
  rcases mem_cons.mp hu with rfl | hu
  ·rw[tF r f.1];exact yh r rx f.1 fx
  ·exact eB rx fx t f.2 u' hu
noncomputable def Hm (x:V)(xs:List V):Bool:=xs.any fun y=>wg y x
noncomputable def Ol (K:Frag)(neg:Bool):R2:=fun x y H Q=>∃ p xs,y = .ref p/\(y6 K H p xs∨yD K H p xs)/\ge x=true/\xs.all ge=true/\Q (.bl (if neg then !Hm x xs else Hm x xs)) H
theorem qc:dW X (compareOp .In) (Ol X.K false):=by
 intro pins s σ H x y v u Q I rx ry h
 obtain⟨p,xs,rfl,hq,fx,fs,q⟩:=h
 cases ry
 rcases hq with hq | hq
 ·obtain⟨y9,r,pl,hz⟩:=I.list hq
  refine SeqAt.in_listAt (ow x) pl.isList (fun w hw=>eB rx fx r fs w (by simpa using hw)) ⟨.bl _,H,I,rfl,?_⟩
  rw[show y9.toArray.any (ow x)=y9.any (ow x) by simp,gn r fs]
  exact q
 ·obtain⟨y9,r,pl,hz⟩:=I.tuple hq
  refine SeqAt.in_tupleAt (ow x) pl (fun w hw=>eB rx fx r fs w (by simpa using hw)) ⟨.bl _,H,I,rfl,?_⟩
  rw[show y9.toArray.any (ow x)=y9.any (ow x) by simp,gn r fs]
  exact q
theorem kR:dW X (compareOp .NotIn) (Ol X.K true):=by
 intro pins s σ H x y v u Q I rx ry h
 obtain⟨p,xs,rfl,hq,fx,fs,q⟩:=h
 cases ry
 rcases hq with hq | hq
 ·obtain⟨y9,r,pl,hz⟩:=I.list hq
  refine SeqAt.notIn_listAt (ow x) pl.isList (fun w hw=>eB rx fx r fs w (by simpa using hw)) ⟨.bl _,H,I,rfl,?_⟩
  rw[show y9.toArray.any (ow x)=y9.any (ow x) by simp,gn r fs]
  exact q
 ·obtain⟨y9,r,pl,hz⟩:=I.tuple hq
  refine SeqAt.notIn_tupleAt (ow x) pl (fun w hw=>eB rx fx r fs w (by simpa using hw)) ⟨.bl _,H,I,rfl,?_⟩
  rw[show y9.toArray.any (ow x)=y9.any (ow x) by simp,gn r fs]
  exact q
theorem aq:cE X (.builtin "len") (fun xs H Q=>∃ p ys,xs=[.ref p]/\(y6 X.K H p ys∨yD X.K H p ys)/\Q (.int ys.length) H):=by
 intro pins s σ H xs us Q I r h
 obtain⟨p,ys,rfl,hq,q⟩:=h
 obtain⟨u,rfl,rx⟩:=j8 r
 cases rx
 have hn:=jg
 rcases hq with hq | hq
 ·obtain⟨y9,r',pl,hz⟩:=I.list hq
  have hlen:=r'.length
  exact Calls.call_len_list pl.isList (by simp only[size_toArray]<;>omega) ⟨.int ys.length,H,I.tok _,⟨s.toks + 1,by rw[size_toArray,hlen]⟩,q⟩
 ·obtain⟨y9,r',pl,hz⟩:=I.tuple hq
  have hlen:=r'.length
  exact len_tuple pl (by simp only[size_toArray]<;>omega) ⟨.int ys.length,H,I.tok _,⟨s.toks + 1,by rw[size_toArray,hlen]⟩,q⟩
theorem bx:cE X (.type "list") (fun xs H Q=>∃ p ys,xs=[.ref p]/\(y6 X.K H p ys∨yD X.K H p ys)/\∀ l,H l=none->Q (.ref l) (upd H l (.lst ys))):=by
 intro pins s σ H xs us Q I r h
 obtain⟨p,ys,rfl,hq,q⟩:=h
 obtain⟨u,rfl,rx⟩:=j8 r
 cases rx
 have fin:∀ (y9:List Value),Vals ys y9->ys.length <= sizeLine->∀ (h':Heap)(c':Nat),(∀ b o',s.heap.get? b=some o'->h'.get? b=some o') ->
   h'.get? s.heap.objs.size=some { cls := .type "list",dict:=none,data := .seq y9.toArray c',slots:=#[] }->EP X pins σ Q (.ref s.heap.objs.size) { s with heap:=h' }:=fun y9 r' hz h' c' kp e =>
  ⟨.ref s.heap.objs.size,_,I.laid (t':=s.toks) kp (le_refl _) (show yU X.prog X.w _ h' _ (.lst ys) from ⟨hz,y9,c',r',e⟩),rfl,q _ (I.yE.fresh (le_refl _))⟩
 rcases hq with hq | hq
 ·obtain⟨y9,r',pl,hz⟩:=I.list hq
  have hlen:=r'.length
  obtain⟨o,ho,hc,n,hd⟩:=pl.isList
  exact call_list_seq p (.inl rfl) ho hc hd (fun h' c' kp e=>fin y9 r' hz h' c' kp e) (by simp only[size_toArray]<;>omega)
 ·obtain⟨y9,r',pl,hz⟩:=I.tuple hq
  have hlen:=r'.length
  obtain⟨o,ho,hc,n,hd⟩:=pl
  exact call_list_seq p (.inr rfl) ho hc hd (fun h' c' kp e=>fin y9 r' hz h' c' kp e) (by simp only[size_toArray]<;>omega)
theorem aT:cE X (.type "tuple") (fun xs H Q=>∃ p ys,xs=[.ref p]/\((y6 X.K H p ys/\∀ l,H l=none->Q (.ref l) (upd H l (.tup ys)))∨(yD X.K H p ys/\Q (.ref p) H))):=by
 intro pins s σ H xs us Q I r h
 obtain⟨p,ys,rfl,h⟩:=h
 obtain⟨u,rfl,rx⟩:=j8 r
 cases rx
 rcases h with ⟨hq,q⟩ | ⟨hq,q⟩
 ·obtain⟨y9,r',pl,hz⟩:=I.list hq
  have hlen:=r'.length
  refine call_tuple_list pl.isList (fun h' kp=>?_) (by simp only[size_toArray]<;>omega)
  have I1:Inv X pins σ H { s with heap:=h' }:=I.kept (t':=s.toks) kp
  have I2:Inv X pins σ (upd H h'.objs.size (.tup ys)) { s with heap:=h'.push { cls := .type "tuple",data := .seq y9.toArray } } :=
   I1.laid (t':=s.toks) (fun b o e=>Heap.get?_push_of_some _ e) (le_refl _) (show yU X.prog X.w _ _ _ (.tup ys) from ⟨hz,y9,r',zF.new _ _⟩)
  exact⟨.ref h'.objs.size,_,I2,rfl,q _ (I1.yE.fresh (le_refl _))⟩
 ·obtain⟨y9,r',pl,hz⟩:=I.tuple hq
  exact call_tuple_same pl ⟨.ref p,H,I,rfl,q⟩
noncomputable def Om (K:Frag)(T:String)(x:V)(H:Hp):Prop:=match x with
 | .str _=>T = "str"
 | .int _=>T = "int"
 | .ref p=>(T = "list"/\∃ xs,y6 K H p xs)∨(T = "tuple"/\∃ o,K.lookup p=some o/\o.cls = .type "tuple"/\o.dict=none) ∨
   (T = "dict"/\((∃ kvs,H p=some (.dK kvs))∨∃ kvs,H p=some (.dT kvs)))∨(T = "set"/\∃ S n,H p=some (.set S n))
 | _=>False
theorem qQ {pins:List (Addr × Obj)}{σ:St}{H:Hp}{s:Shared}{T:String}{x:V}{v:Value}(I:Inv X pins σ H s)(r:RelV x v)(ty:Om X.K T x H) :
  s.TypeIs v T/\∀ a,v = .ref a->∃ ob,s.heap.get? a=some ob/\ob.dict=none:=by
 cases x with
 | str z =>
  obtain⟨t,rfl⟩:=r
  cases (show T = "str" from ty)
  exact⟨typeIs_str s z t,fun _ e=>nomatch e⟩
 | int i =>
  obtain⟨t,rfl⟩:=r
  cases (show T = "int" from ty)
  exact⟨typeIs_int s i t,fun _ e=>nomatch e⟩
 | ref p =>
  cases r
  rcases ty with ⟨rfl,xs,hq⟩ | ⟨rfl,o,hk,hc,hd⟩ | ⟨rfl,hk⟩ | ⟨rfl,S,n,hk⟩
  ·obtain⟨y9,_,pl,_⟩:=I.list hq
   refine⟨pl.isList.typeIs,fun a e=>?_⟩
   cases e
   obtain⟨o,n,e,c,hd,_⟩:=pl
   exact⟨o,e,hd⟩
  ·refine⟨⟨o,I.Ae p o hk,hc⟩,fun a e=>?_⟩
   cases e
   exact⟨o,I.Ae _ o hk,hd⟩
  ·have z:∃ o,s.heap.get? p=some o/\o.ExactDict:=by
    rcases hk with ⟨kvs,hk⟩ | ⟨kvs,hk⟩
    ·obtain⟨_,_,_,_,o,_,_,e,ex,_⟩:=I.yE p _ hk
     exact⟨o,e,ex⟩
    ·obtain⟨_,_,_,_,o,_,_,e,ex,_⟩:=I.yE p _ hk
     exact⟨o,e,ex⟩
   obtain⟨o,e,ex⟩:=z
   refine⟨⟨o,e,ex.1⟩,fun a e2=>?_⟩
   cases e2
   exact⟨o,e,ex.2.1⟩
  ·obtain⟨o,_,_,_,e,ex,_⟩:=I.yE p _ hk
   refine⟨⟨o,e,ex.1⟩,fun a e2=>?_⟩
   cases e2
   exact⟨o,e,ex.2.1⟩
 | _=>exact False.elim ty
noncomputable def Oo (K:Frag)(T:String)(r:V->List V->Hp->VK->Prop)(to:TE):TE:=fun σ H Q=>to σ H fun x H1=>Om K T x H1/\r x [] H1 Q
noncomputable def tBM (K:Frag)(T:String)(r:V->List V->Hp->VK->Prop)(to:TE)(t:TA):TE:=fun σ H Q=>to σ H fun x H1=>Om K T x H1/\t σ H1 fun xs H2=>r x xs H2 Q
variable {o e:Expr}{es:List Expr}{to:TE}{t:TA}{name:Str}{apos zr:Pos}{T id:String}{r:V->List V->Hp->VK->Prop}
theorem wX (pa:PlainAttrs T)(slot:Slot T name id)(Oq:typeOf (.builtin id)=pure (.type "method_descriptor"))(hm:M1 X id r)(ho:PE X o to)
  (CO:autoParam (attributeBase o name X.env (eval o X.env)=eval o X.env) η) (CP:autoParam ((apos.endLine == zr.line)=true) η):PE X (.Call (.Attribute o name apos) [] [] zr) (Oo X.K T r to):=by
 intro pins s σ H Q I h
 refine wpAny_Call_method0_late CO CP (b5 (ho pins s σ H _ I h) fun v s1 y8=>?_)
 obtain⟨x,H1,I1,r1,ty,q1⟩:=y8
 obtain⟨h1,h2⟩:=qQ I1 r1 ty
 exact⟨T,id,pa,slot,Oq,h1,h2,Calls.callWith_builtin rfl (PySem.evalArgs_none (hm pins s1 σ H1 x [] v [] Q I1 r1 .nil q1))⟩
theorem bV (pa:PlainAttrs T)(slot:Slot T name id)(Oq:typeOf (.builtin id)=pure (.type "method_descriptor"))(hm:M1 X id r)(ho:PE X o to)(ha:PA X (e :: es) t)
  (CO:autoParam (attributeBase o name X.env (eval o X.env)=eval o X.env) η)
  (Bf:((backTo zr (starEach (e :: es) X.env)).all (fun x=>!x.1) && (backToKw zr (keywordEach [] X.env)).all (fun x=>x.1.isSome)
   && decide ((e :: es).length + ([]:List Keyword).length + (if ([]:List Keyword).isEmpty then 0 else 1) < 30))=true:=by rfl)
  (CP:autoParam ((apos.endLine == zr.line)=true) η) (hs:autoParam (starEach (e :: es) X.env=(false,eval e X.env) :: starEach es X.env) η) (Fq:autoParam ((backTo zr (starEach es X.env)).any (·.1)=false) η) :
  PE X (.Call (.Attribute o name apos) (e :: es) [] zr) (tBM X.K T r to t):=by
 intro pins s σ H Q I h
 refine wpAny_Call_method_late CO Bf CP rfl (b5 (ho pins s σ H _ I h) fun v s1 y8=>?_)
 obtain⟨x,H1,I1,r1,ty,q1⟩:=y8
 obtain⟨h1,h2⟩:=qQ I1 r1 ty
 refine⟨T,id,pa,slot,Oq,h1,h2,?_⟩
 have hA:=ha zr pins s1 σ H1 _ I1 q1
 rw[hs]at hA ⊢
 refine Calls.callWith_builtin (by show(false || (backTo zr (starEach es X.env)).any (·.1))=false;rw[Fq]<;>rfl) (Calls.evalArgs_plain ?_)
 exact b5 hA fun us s2 y8=>by obtain⟨vs,H2,I2,r2,q2⟩:=y8;exact hm pins s2 σ H2 x vs v us Q I2 r1 r2 q2
end
noncomputable def Ot (X:Cx)(id:String)(r:V->List V->Hp->VK->Prop):Prop :=
 ∀ (pins:List (Addr × Obj))(s:Shared)(σ:St)(H:Hp)(x:V)(xs:List V)(v:Value)(us:List Value)(Q:VK),Inv X pins σ H s->RelV x v->Vals xs us->r x xs H Q ->
  wpAny (model X.prog X.w) X.A (call (.builtin id) (v :: us)) (EP X pins σ Q) X.xe s
theorem Vals.one:∀ {x:V}{us:List Value},Vals [x] us->∃ u,us=[u]/\RelV x u:=by
 intro x us h
 cases h with
 | cons r t=>cases t;exact⟨_,rfl,r⟩
theorem Vals.eraseIdx:∀ {xs:List V}{us:List Value}(i:Nat),Vals xs us->Vals (xs.eraseIdx i) (us.eraseIdx i)
 | _,_,_, .nil => .nil
 | _,_,0, .cons _ t=>t
 | _,_,i + 1, .cons r t => .cons r (Vals.eraseIdx i t)
theorem jJ {α:Type}:∀ (l:List α)(i:Nat),(l.eraseIdx i).length <= l.length
 | [],_=>le_refl _
 | _ :: _,0=>le_succ _
 | _ :: r,i + 1=>Nat.succ_le_succ (jJ r i)
section
variable {X:Cx}{pins:List (Addr × Obj)}{σ:St}{H:Hp}{s:Shared}{l b:Addr}{xs ys zs:List V}
theorem Inv.Ft {y9 its':List Value}{n:Nat}{f:Array Value->Array Value}{t':Nat}(I:Inv X pins σ H s)(hH:H l=some (.lst xs))
  (e:s.heap.get? l=some { cls := .type "list",data := .seq y9.toArray n }) (hf:f y9.toArray=its'.toArray) (hv:Vals ys its') (hz:ys.length <= sizeLine) :
  Inv X pins σ (upd H l (.lst ys)) { s with heap:=s.heap.update l (Obj.mapSeq f),toks:=t' }:=by
 have q:=PySem.IsL.update e f
 rw[hf]at q
 refine I.write (x:=l) (e:=l) (by rw[hH];exact trivial) (.inl rfl) (fun b' u hb hu=>(Heap.get?_update_other s.heap (Obj.mapSeq f) (Ne.symm hb)).trans hu) ⟨_,q⟩ ?_
 exact⟨hz,its',_,hv,q⟩
theorem Inv.Ov {y9:List Value}{t':Nat}(I:Inv X pins σ H s)(hv:Vals ys y9)(hz:ys.length <= sizeLine) :
  Inv X pins σ (upd H s.heap.objs.size (.lst ys)) { s with heap:=s.heap.push { cls := .type "list",data := .seq y9.toArray },toks:=t' } :=
 I.laid (fun _ _ q=>Heap.get?_push_of_some _ q) (le_refl _) ⟨hz,y9,0,hv,Heap.get?_push_size _ rfl⟩
theorem Inv.fresh (I:Inv X pins σ H s):H s.heap.objs.size=none:=I.yE.fresh (le_refl _)
theorem Inv.BL (I:Inv X pins σ H s)(hH:H l=some (.lst xs)):xs.length <= sizeLine/\∃ (y9:List Value)(n:Nat),Vals xs y9/\xs.length=y9.length/\s.heap.get? l=some { cls := .type "list",data := .seq y9.toArray n }:=by
 obtain⟨z,y9,n,r,e⟩:=I.yE l _ hH
 exact⟨z,y9,n,r,r.length,e⟩
theorem sP {n:Nat}(h:n <= sizeLine):Builtin.List.listTooLong n=false:=by
 unfold Builtin.List.listTooLong
 exact decide_eq_false (by omega)
end
section
variable {X:Cx}
noncomputable def ut:V->List V->Hp->VK->Prop:=fun x vs H Q=>∃ l xs y,x = .ref l/\vs=[y]/\H l=some (.lst xs)/\xs.length < sizeLine/\Q .yK (upd H l (.lst (xs ++ [y])))
theorem aV:Ot X "list.append" ut:=by
 intro pins s σ H x vs v us Q I rx rv h
 obtain⟨l,xs,y,rfl,rfl,hH,hz,q⟩:=h
 cases rx
 obtain⟨u,rfl,ru⟩:=rv.one
 obtain⟨z,y9,n,r,hl,e⟩:=I.BL hH
 refine call_meets F.slot_list_append ⟨_,e,rfl⟩ F.entry_list_append (F.args_list_append_2 _ _) (PySem.list_append l y9.toArray n u (by rw[size_toArray];omega)) ⟨e,?_⟩
 refine⟨.yK,_,I.Ft (its':=y9 ++ [u]) hH e (by simp) (r.append (.cons ru .nil)) ?_,rfl,q⟩
 rw[length_append,length_singleton]
 omega
noncomputable def ur:V->List V->Hp->VK->Prop:=fun x vs H Q=>∃ l b xs zs,x = .ref l/\vs=[.ref b]/\H l=some (.lst xs)/\H b=some (.lst zs)/\xs.length + zs.length <= sizeLine/\Q .yK (upd H l (.lst (xs ++ zs)))
theorem eQ:Ot X "list.extend" ur:=by
 intro pins s σ H x vs v us Q I rx rv h
 obtain⟨l,b,xs,zs,rfl,rfl,hH,hB,hz,q⟩:=h
 cases rx
 obtain⟨u,rfl,ru⟩:=rv.one
 cases ru
 obtain⟨z,y9,n,r,hl,e⟩:=I.BL hH
 obtain⟨z2,AM,n2,r2,C9,e2⟩:=I.BL hB
 have hsz:y9.toArray.size + AM.toArray.size <= sizeLine:=by rw[size_toArray,size_toArray];omega
 have IQ:¬ (!y9.toArray.isEmpty && Builtin.List.listTooLong (y9.toArray.size + AM.toArray.size))=true:=by
  rw[sP hsz,Bool.and_false]
  exact Bool.false_ne_true
 refine call_meets F.slot_list_extend ⟨_,e,rfl⟩ F.entry_list_extend (F.args_list_extend_2 _ _)
  (AutoSeq1.list_extend_list_list_0 l y9.toArray n b AM.toArray n2 IQ (by rw[size_toArray];omega) (by omega)) ⟨e,e2,?_⟩
 refine⟨.yK,_,I.Ft (its':=y9 ++ AM) hH e (by simp) (r.append r2) ?_,rfl,q⟩
 rw[length_append]
 omega
noncomputable def wU:V->List V->Hp->VK->Prop:=fun x vs H Q=>∃ l xs i k y,x = .ref l/\vs=[.int i]/\H l=some (.lst xs)/\-(2 ^ 63) <= i/\i < 2 ^ 63/\seqIndex? i xs.length=some k/\xs[k]? = some y/\Q y (upd H l (.lst (xs.eraseIdx k)))
theorem sR:Ot X "list.pop" wU:=by
 intro pins s σ H x vs v us Q I rx rv h
 obtain⟨l,xs,i,k,y,rfl,rfl,hH,h1,h2,hk,hy,q⟩:=h
 cases rx
 obtain⟨u,rfl,ru⟩:=rv.one
 obtain⟨t,rfl⟩:=ru
 obtain⟨z,y9,n,r,hl,e⟩:=I.BL hH
 obtain⟨w,hw,DP⟩:=r.get hy
 refine call_meets F.slot_list_pop ⟨_,e,rfl⟩ F.entry_list_pop (F.args_list_pop_2 _ _)
  (MeetsSeq.list_pop_at l y9.toArray n i t k w (fitsIndex_both h1 h2) (by rw[size_toArray,← hl];exact hk) (by rw[← Array.getElem?_toList];exact hw) (by rw[size_toArray];omega)) ⟨e,?_⟩
 refine⟨y,_,I.Ft (its':=y9.eraseIdx k) hH e ?_ (r.eraseIdx k) ?_,DP,q⟩
 ·show y9.toArray.eraseIdxIfInBounds k=(y9.eraseIdx k).toArray
  rw[List.eraseIdxIfInBounds_toArray]
 ·have:=jJ xs k
  omega
noncomputable def Ow:R2:=fun x y H Q=>∃ l b xs zs,x = .ref l/\y = .ref b/\H l=some (.lst xs)/\H b=some (.lst zs)/\xs.length + zs.length <= sizeLine/\∀ p,H p=none->Q (.ref p) (upd H p (.lst (xs ++ zs)))
theorem xf:dW X (binaryOp .Add) Ow:=by
 intro pins s σ H x y v u Q I rx ry h
 obtain⟨l,b,xs,zs,rfl,rfl,hH,hB,hz,q⟩:=h
 cases rx
 cases ry
 obtain⟨z,y9,n,r,hl,e⟩:=I.BL hH
 obtain⟨z2,AM,n2,r2,C9,e2⟩:=I.BL hB
 refine PySem.P.add_list e e2 ?_ (by rw[size_toArray,size_toArray];omega)
 have ea:y9.toArray ++ AM.toArray=(y9 ++ AM).toArray:=by simp
 rw[ea]
 exact⟨.ref _,_,I.Ov (t':=s.toks) (r.append r2) (by rw[length_append];omega),rfl,q _ I.fresh⟩
end
section
variable {prog:Program}{w:World}{A:Around}{E:Value->Shared->Prop}{s:Shared}
set_option maxRecDepth 100000 in
end
section
variable {X:Cx}
end
end L2
namespace Tx
open PySem PySem.W PySem.Calls PyProof.Rows
theorem hZ {P:Params}{h:Heap}:∀ (ns:List Int)(vs:List Value),WellAll P h vs (ns.map WData.int)->IntsAre vs ns:=by
 intro ns
 induction ns with
 | nil =>
  intro vs w
  rw[map_nil]at w
  cases w
  exact .nil
 | cons n ns ih =>
  intro vs w
  rw[map_cons]at w
  cases w with
  | cons a b =>
   cases a
   exact .cons _ _ (ih _ b)
theorem pR {l:OpenLaw}{n:Nat}(hn:l.most=some n){P:Params}{h:Heap}{args:List WData}{vals:List Value}
  (DQ:l.row.toRowW.claim.pre args=true) (D5:WellAll P h vals args) :
  ∃ a vs ns,vals=[Value.ref a]/\args=[WData.list (ns.map WData.int)]/\h.get? a=some { cls := .type "list",data := .seq vs.toArray }/\IntsAre vs ns/\ns.length <= n:=by
 have hsh:WShape.hasAll [] args [.list .int]=true:=(pre_splitW DQ).1
 have hc:l.pre.holds [] { args:=args } = true:=(pre_splitW DQ).2
 obtain⟨d,r,rfl,h1,h2⟩:=hasAllW_cons hsh
 obtain rfl:=hasAllW_nil h2
 obtain⟨xs,rfl,h3⟩:=hasW_list h1
 obtain⟨ns,rfl⟩:=items_int h3
 have hlen:ns.length <= n:=by
  unfold OpenLaw.pre at hc
  have h4:(WTm.not (.lt (.lit (.int (n:Int))) (.len (.arg 0)))).holds [] { args:=[.list (ns.map .int)] } = true:=by
   have h4:=(holds_andW hc).1
   rw[hn]at h4
   exact h4
  have h5:=condW_of h4 (w_not (w_lt w_lit (w_len_list (w_arg rfl))))
  rw[length_map]at h5
  refine Nat.le_of_not_lt fun q=>?_
  have q':(n:Int) < ((ns.length:Nat):Int):=by omega
  first
   | (rw[decide_eq_true q']at h5;exact absurd h5 (by decide))
   | (simp at h5;omega)
 cases D5 with
 | cons w1 w2 =>
  cases w2
  cases w1 with
  | list ho Az=>exact⟨_,_,ns,rfl,rfl,ho,hZ ns _ Az,hlen⟩
theorem pX (l:OpenLaw)(args:List WData):l.row.toRowW.claim.post args (.bool true) args=true :=
 postW_of (r:=l.row.toRowW) (X:=(true == true))
  (show WShape.has [] (.bool true) .bool=true by first | rfl | decide | simp[WShape.has,WShape.arms,WShape.armsAll])
  (show(WTm.eq .res (.lit (.bool true))).value [] { args:=args,res:=some (.bool true),after:=args } = some (.bool (true == true)) from w_eq_bool (w_res rfl) w_lit) rfl
theorem By {l:OpenLaw}{n:Nat}{q:Program}{loose:List Str}{XP:(Str->Option Value)->Heap->Prop}{YP:World->Heap->Prop}{d:DefRec}
  (hn:l.most=some n) (IS:d.params.defaults=[])
  (call:∀ (w:World)(s₀ s₁:Shared)(mg mb:Str->Option Value)(fa:Addr)(o:Obj)(pm cd doc:Value)(a:Addr)(vs:List Value)(ns:List Int),
   Ground q loose [] XP w s₀ mg mb s₁.heap->YP w s₁.heap ->
   s₁.heap.get? fa=some o->o.data = .func (docDef d.name d.params d.body d.scope pm cd doc)->s₁.heap.CodeRec cd d.name->mg d.name=some (.ref fa) ->
   s₁.heap.get? a=some { cls := .type "list",data := .seq vs.toArray }->IntsAre vs ns->ns.length <= n->s₁.gens = #[] ->
   codeAny (model l.prog w) callerA (.call (.ref fa) ⟨[.ref a],[]⟩) (fun r s'=>r = .ok (.ret (.bool true))/\OldK s₁.heap s'.heap/\s'.os=s₁.os/\AllBare s'.gens) s₁) :
  WalkO q loose XP YP l.row.toRowW d [] (fun f vs=>PySem.call f vs):=by
 intro w s₀ s₁ mg mb G Y fa o pm cd doc dV kV ho hd BD hD hmg hg args vals as DQ hlay hrd D5 hlo
 obtain rfl:dV = .none:=Dflts.none hD IS
 obtain rfl:kV = .none:=Dflts.noKw hD
 obtain⟨a,vs,ns,rfl,rfl,Fu,hints,hlen⟩:=pR hn DQ D5
 refine enter_call (codeAny_mono (call w s₀ s₁ mg mb fa o pm cd doc a vs ns G Y ho (fd_plain hd) BD hmg Fu hints hlen hg) fun r s' hq=>?_)
 obtain⟨rfl,h2,h3,h4⟩:=hq
 exact⟨.inl ⟨.bool true, .bool true,[],rfl,fun _=>rfl, .bool true,pX l _,fun _=>⟨List.Pairwise.nil,fun _ hm=>(nomatch hm)⟩⟩,h2,h3,h4⟩
section
variable {prog:Program}{w:World}{A:Around}{E:Value->Shared->Prop}{s:Shared}{K:Frag}
end
end Tx
namespace L2
open PySem PySem.Spec PyProof.Rows
theorem j7:∀ {vs:List Value}{ns:List Int},IntsAre vs ns->Vals (ns.map V.int) vs
 | _,_, .nil => .nil
 | _,_, .cons n t h => .cons ⟨t,rfl⟩ (j7 h)
noncomputable def yw (H:Hp):Prop:=∀ b,H b=none∨∃ o xs,H b=some (.BX o (.lst xs))
theorem tf {P:Program}{w:World}{K:Frag}{mg mb:Str->Option Value}{CX:pJ}{k:Nat}{fa a:Addr}{fd:FuncData}{x:Str}{sp:Sp}{s₁:Shared}{vs:List Value}{ns:List Int}
  (KX:K.In s₁.heap) (Hn:s₁.heap.Ns mainGlobals mg) (hb:s₁.heap.Ns builtinsNs mb) (hbb:∀ x:Str,x ≠ "__name__"->mb x=bootBuiltins x) (Ox:s₁.heap.NoLimit) (hg:s₁.gens = #[])
  (ha:s₁.heap.get? a=some { cls := .type "list",data := .seq vs.toArray }) (hi:IntsAre vs ns) (hl:ns.length <= sizeLine) (hr:yC k callerA)
  (F:∀ base:Heap,K.In base->base.Ns mainGlobals mg->y2 P w K mg base CX k fa fd [x] sp) (IT:∀ (s:Shared)(u:Value),BindsTo s fd ⟨[u],[]⟩ [(x,u)])
  (D4:∀ H:Hp,yw H->y6 K H a (ns.map V.int)->sp [.ref a] H (fun v _=>v = .bl true) fun _ _ _=>False)
  (Oy:∀ H e s',CX [] H s₁ (fun _ _ _=>False) e s'->False) :
  codeAny (model P w) callerA (.call (.ref fa) ⟨[.ref a],[]⟩) (fun r s'=>r = .ok (.ret (.bool true))/\OldK s₁.heap s'.heap/\s'.os=s₁.os/\AllBare s'.gens) s₁:=by
 have rv:=j7 hi
 have Oz:=hi.length
 have core:∀ H:Hp,yw H->y6 K H a (ns.map V.int)->Ab P w H s₁.heap->(∀ b,H b ≠ none->b=a)->(H a ≠ none->K.lookup a=none) ->
   codeAny (model P w) callerA (.call (.ref fa) ⟨[.ref a],[]⟩) (fun r s'=>r = .ok (.ret (.bool true))/\OldK s₁.heap s'.heap/\s'.os=s₁.os/\AllBare s'.gens) s₁:=by
  intro H hO hS yE hA hK
  have base_of:∀ {b:Addr}{o:Obj},s₁.heap.get? b=some o->H b=none->(lj s₁.heap H).get? b=some o:=fun e n=>tw e n
  have IJ:∀ {b:Addr}{o:Obj}{es:Array DictEntry}{ep:Nat},s₁.heap.get? b=some o->o.data = .dict es ep->H b=none:=fun {b o es ep} e d=>by
   cases q:H b with
   | none=>rfl
   | some u =>
    have e':b=a:=hA b (by rw[q];simp)
    subst e'
    rw[ha]at e;cases e
    have d':Data.seq vs.toArray _=Data.dict es ep:=d
    cases d'
  have M3:∀ {b:Addr}{m:Str->Option Value},s₁.heap.Ns b m->(lj s₁.heap H).Ns b m:=fun {b m} ⟨o,es,ep,e,d,r⟩=>⟨o,es,ep,base_of e (IJ e d),d,r⟩
  have Tz:K.In (lj s₁.heap H):=fun b o e=>base_of (KX b o e) (by
   cases q:H b with
   | none=>rfl
   | some u =>
    have e':b=a:=hA b (by rw[q];simp)
    subst e'
    rw[hK (by rw[q];simp)]at e;cases e)
  have hM:Mod K mg (lj s₁.heap H):=⟨Tz,M3 Hn,⟨mb,M3 hb,hbb⟩,let ⟨mc,h1,h2⟩:=Ox; ⟨mc,M3 h1,h2⟩⟩
  have e0:BK P w K mg (lj s₁.heap H) callerA [] s₁ H:=⟨rfl,hM,fun b o e=>uY e,le_of_eq (qw _ _),trivial,fun b hb=>absurd (show b ∈ ([]:List Addr) from hb) (by simp),yE, .of_eq hg⟩
  refine codeAny_mono ((F _ Tz (M3 Hn)).run callerA [] s₁ H ⟨[.ref a],[]⟩ [.ref a] [.ref a] _ _ hr e0 (IT s₁ (.ref a)) (.cons rfl .nil) (D4 H hO hS)) fun r s' h=>?_
  cases r with
  | error e=>exact(Oy H e s' h).elim
  | ok fl =>
   cases fl with
   | next=>exact False.elim h
   | brk=>exact False.elim h
   | cont=>exact False.elim h
   | ret u =>
    obtain⟨v,H',os,bare,un,O0,r',q⟩:=h
    have q':v = .bl true:=q
    subst q'
    obtain rfl:u=Value.bool true:=r'
    refine⟨rfl,OldK.of_keep fun b o e=>?_,os,bare⟩
    cases q:H b with
    | none=>exact un.keep b o e q (by intro z;exact absurd (show b ∈ ([]:List Addr) from z) (by simp)) (by simp)
    | some u =>
     rcases hO b with z | ⟨ob,xs,z⟩
     ·rw[q]at z;cases z
     ·have z2:=un.AK b ob _ z
      obtain⟨e1,_⟩:=yE b _ z
      obtain⟨e2,_⟩:=O0 b _ z2
      rw[e]at e1;cases e1
      exact e2
 cases hk:K.lookup a with
 | some o =>
  have e:=KX a o hk
  rw[ha]at e
  cases e
  refine core (fun _=>none) (fun _ => .inl rfl) (.inr ⟨_,vs.toArray,_,hk,rfl,rfl,rfl,by rw[size_toArray,Oz];exact hl,by simpa using rv⟩) (fun b u z=>by have z':(none:Option HO)=some u:=z;cases z') (fun b z=>absurd rfl z) fun z=>absurd rfl z
 | none =>
  refine core (fun b=>if b=a then some (.BX { cls := .type "list",data := .seq vs.toArray } (.lst (ns.map V.int))) else none) (fun b=>?_) (.inl (.inr ⟨{ cls := .type "list",data := .seq vs.toArray },if_pos rfl⟩)) (fun b u z=>?_) (fun b z=>?_) fun _=>hk
  ·by_cases hb:b=a
   ·exact .inr ⟨_,_,if_pos hb⟩
   ·exact .inl (if_neg hb)
  ·by_cases hb:b=a
   ·have z':=(if_pos hb).symm.trans z
    cases z'
    subst hb
    exact⟨ha,by rw[length_map];exact hl,vs,_,rv,ha⟩
   ·have z':=(if_neg hb).symm.trans z
    cases z'
  ·by_cases hb:b=a
   ·exact hb
   ·exact absurd (if_neg hb) z
theorem DR {l:PySem.W.OpenLaw}{n k:Nat}{q:Program}{loose:List Str}{XP:(Str->Option Value)->Heap->Prop}{YP:World->Heap->Prop}{d:DefRec}{K:Params->Frag}{CX:World->pJ}{sp:World->Sp}{x:Str}
  (hn:l.most=some n) (CN:n <= sizeLine) (IS:d.params.defaults=[]) (hr:yC k callerA)
  (hY:∀ (w:World)(h:Heap),YP w h->(K w.params).In h)
  (F:∀ (w:World)(mg:Str->Option Value)(fa:Addr)(h:Heap),(K w.params).In h->h.Ns mainGlobals mg->mg d.name=some (.ref fa) ->
   ∃ fd:FuncData,(∀ (s:Shared)(u:Value),BindsTo s fd ⟨[u],[]⟩ [(x,u)]) /\
    ∀ base:Heap,(K w.params).In base->base.Ns mainGlobals mg->y2 l.prog w (K w.params) mg base (CX w) k fa fd [x] (sp w))
  (D4:∀ (w:World)(H:Hp)(a:Addr)(ns:List Int),ns.length <= n->yw H->y6 (K w.params) H a (ns.map V.int)->sp w [.ref a] H (fun v _=>v = .bl true) fun _ _ _=>False)
  (Oy:∀ (w:World)(H:Hp)(s:Shared)(e:Value)(s':Shared),CX w [] H s (fun _ _ _=>False) e s'->False) :
  PySem.W.WalkO q loose XP YP l.row.toRowW d [] (fun f vs=>PySem.call f vs):=by
 refine Tx.By hn IS fun w s₀ s₁ mg mb fa o pm cd doc a vs ns G Y ho hd BD hmg Fu hints hlen hg=>?_
 have KX:=hY w _ Y
 obtain⟨fd,hb,hF⟩:=F w mg fa _ KX G.T.g hmg
 exact tf KX G.T.g G.T.b G.T.builtins G.T.nolimit hg Fu hints (le_trans hlen CN) hr hF hb (fun H hO hS=>D4 w H a ns hlen hO hS) fun H e s'=>Oy w H s₁ e s'
noncomputable def aG (s:Stmt)(j:Nat):Stmt:=match s with
 | .ClassDef _ _ _ body _ _ _ _ _ _ _=>body.getD j (.Pass ⟨0,0,0,0⟩)
 | _ => .Pass ⟨0,0,0,0⟩
noncomputable def bU (s:Stmt):Arguments:=match s with
 | .FunctionDef _ a _ _ _ _ _ _ _ _=>a
 | _=>{ posonlyargs:=[],args:=[],vararg:=none,kwonlyargs:=[],kw_defaults:=[],kwarg:=none,defaults:=[] }
noncomputable def aM (s:Stmt):List Stmt:=match s with
 | .FunctionDef _ _ b _ _ _ _ _ _ _=>b
 | _=>[]
noncomputable def aj (s:Stmt):Scope:=match s with
 | .FunctionDef _ _ _ _ _ _ sc _ _ _=>sc
 | _=>zQ0
abbrev az:pJ:=fun _ _ _ _ _ _=>False
abbrev E0:XK:=fun _ _ _=>False
theorem ao {X:Cx}:eE az X E0:=fun _ _ _ _ _ _ _ h=>h.elim
structure yS (K:Frag)(x qual:Str)(st:Stmt)(f:Addr)(fd:FuncData):Prop where
 ex:∃ (oc:Value)(od:Option Addr)(kV doc pm:Value)(an:Option Addr)(cdv ct:Value)(Cb:Array (Option Value)),
  fd=fnOf x qual (bU st) (aM st) (aj st) .none kV doc pm an cdv ct/\K.lookup f=some ⟨oc,od, .func fd,Cb⟩/\codeIn K cdv qual=true
 kp:keepIn K (.ref f)=true
section
variable {P:Program}{w:World}{K:Frag}{mg:Str->Option Value}{base:Heap}
theorem yS.ok {x qual:Str}{st:Stmt}{f:Addr}{fd:FuncData}{N ps:List Str}{k:Nat}{sp:Sp}(F:yS K x qual st f fd)(S:ap N ps (aj st))(len:∀ vs H Q E,sp vs H Q E->vs.length=ps.length)
  (Bx:∀ (cdv:Value)(A:Around)(outer:List Env)(s:Shared)(H:Hp)(vs:List V)(Q:VK)(E:XK),yC k (A.deeper (envOfC qual (aj st) s.heap.objs.size f cdv))->sp vs H Q E ->
   ∃ t,BZ (oy az P w K mg base N qual (aj st) f cdv A outer s H E).Hi (aM st) t/\t { nx:=fun _ H'=>Q .yK H',rt:=Q } (start N vs) H):y2 P w K mg base az (k + 1) f fd ps sp:=by
 obtain⟨oc,od,kV,doc,pm,an,cdv,ct,Cb,rfl,lk,BD⟩:=F.ex
 refine wf lk BD S len fun A outer s H vs Q E hr D4=>?_
 obtain⟨t,h,q⟩:=Bx cdv A outer s H vs Q E hr D4
 exact⟨t,h.Hi,q⟩
theorem yS.binds {x qual:Str}{st:Stmt}{f:Addr}{fd:FuncData}{ps:List Str}(F:yS K x qual st f fd)
  (h:∀ (kV doc pm:Value)(an:Option Addr)(cdv ct:Value)(us:List Value),us.length=ps.length->bindArgs (fnOf x qual (bU st) (aM st) (aj st) .none kV doc pm an cdv ct) ⟨us,[]⟩ = pure (ps.zip us)):Binds K fd ps []:=by
 obtain⟨oc,od,kV,doc,pm,an,cdv,ct,Cb,rfl,lk,BD⟩:=F.ex
 exact .all (h kV doc pm an cdv ct)
theorem jo {x qual:Str}{st:Stmt}{f:Addr}{oc:Value}{od an:Option Addr}{Cb:Array (Option Value)}{kV doc pm cdv ct:Value}(l:K.lookup f=some ⟨oc,od, .func (fnOf x qual (bU st) (aM st) (aj st) .none kV doc pm an cdv ct),Cb⟩)
  (c:codeIn K cdv qual=true) (k:keepIn K (.ref f)=true):yS K x qual st f (fnOf x qual (bU st) (aM st) (aj st) .none kV doc pm an cdv ct):=⟨⟨oc,od,kV,doc,pm,an,cdv,ct,Cb,rfl,l,c⟩,k⟩
end
theorem vY {A:Around}{k:Nat}(hr:yC k A):A.units + 1 < cLine:=lt_of_le_of_lt (Nat.add_le_add_left (by decide:1 <= 64) _) hr.units
section
variable {X:Cx}
theorem pv (i:Nat){x:Str}{pos:Pos}(hN:autoParam (X.N[i]? = some x) η)(hv:Mj X.env.scope x:=by first | exact Or.inl rfl | exact Or.inr (Or.inl rfl) | exact Or.inr (Or.inr rfl))(hd:autoParam ((x == ("__debug__":Str))=false) θ)
  (BD:autoParam ((x == ("__classdict__":Str))=false) θ):PE X (.Name x pos) (gY i):=wW hN hv hd BD
end
theorem aF {A B:Prop}(h:B):if false=true then A else B:=by
 rw[if_neg Bool.false_ne_true]
 exact h
theorem aK {A B:Prop}(h:A):if true=true then A else B:=by
 rw[if_pos rfl]
 exact h
theorem vh {c A B:Prop} [Decidable c] (h1:c->A) (h2:¬ c->B):if c then A else B:=by
 by_cases h:c
 ·rw[if_pos h]
  exact h1 h
 ·rw[if_neg h]
  exact h2 h
noncomputable def y1 (H H':Hp):Prop:=∀ b o,H b=some o->H' b=some o
theorem y1.refl (H:Hp):y1 H H:=fun _ _ h=>h
theorem y1.trans {H H1 H2:Hp}(a:y1 H H1)(b:y1 H1 H2):y1 H H2:=fun c o h=>b c o (a c o h)
theorem y1.free {H H':Hp}(e:y1 H H'){l:Addr}(h:H' l=Option.none):H l=Option.none:=by
 cases q:H l with
 | none=>rfl
 | some o =>
  rw[e l o q]at h
  cases h
theorem y1.seq {K:Frag}{H H':Hp}{a:Addr}{xs:List V}(e:y1 H H')(h:y6 K H a xs):y6 K H' a xs:=by
 rcases h with (h | ⟨o,h⟩) | h
 ·exact .inl (.inl (e _ _ h))
 ·exact .inl (.inr ⟨o,e _ _ h⟩)
 ·exact .inr h
end L2
namespace Yd
open PySem
theorem o0 (a b:Nat):Builtin.bitAnd (a:Int) (b:Int)=((a &&& b:Nat):Int):=by
 unfold Builtin.bitAnd
 simp
theorem cN (x:Int):Builtin.bitNot x = -x - 1:=by
 unfold Builtin.bitNot
 omega
theorem Cr (a b:Nat):Builtin.bitOr (a:Int) (b:Int)=((a ||| b:Nat):Int):=by
 unfold Builtin.bitOr
 have h1:Builtin.bitNot (a:Int) = -(a:Int) - 1:=cN _
 have h2:Builtin.bitNot (b:Int) = -(b:Int) - 1:=cN _
 unfold Builtin.bitAnd
 rw[h1,h2]
 have e1:decide (0 <= -(a:Int) - 1)=false:=decide_eq_false (by omega)
 have e2:decide (0 <= -(b:Int) - 1)=false:=decide_eq_false (by omega)
 rw[e1,e2]
 simp only[]
 have e3:Builtin.bitNot (-(a:Int) - 1)=a:=by rw[cN];omega
 have e4:Builtin.bitNot (-(b:Int) - 1)=b:=by rw[cN];omega
 rw[e3,e4]
 simp only[toNat_natCast]
 rw[cN,cN]
 omega
noncomputable def zC:List Nat->Nat->Nat
 | [],s=>s
 | n :: r,s=>zC r (s ||| 2 ^ n)
theorem A0 (k:Nat):∀ (l:List Nat)(s:Nat),(zC l s).testBit k=(s.testBit k || decide (k ∈ l))
 | [],s=>by simp[zC]
 | n :: r,s=>by
  unfold zC
  rw[A0 k r]
  rw[Nat.testBit_or,Nat.testBit_two_pow]
  by_cases h:n=k
  ·subst h;simp
  ·have:¬ k=n:=fun z=>h z.symm
   simp[h,this]
theorem CQ (l r:List Nat)(s:Nat):zC (l ++ r) s=zC r (zC l s):=by
 induction l generalizing s with
 | nil=>rfl
 | cons n t ih=>exact ih _
noncomputable def j0 (l:List Nat):Nat->Nat
 | 0=>0
 | n + 1=>if n ∈ l then j0 l n + 2 ^ n else j0 l n
theorem Bg (l:List Nat):∀ n,j0 l n < 2 ^ n
 | 0=>by simp[j0]
 | n + 1=>by
  have:=Bg l n
  unfold j0
  rw[Nat.pow_succ]
  split<;>omega
theorem m8 (l:List Nat)(k:Nat):∀ n,(j0 l n).testBit k=decide (k < n/\k ∈ l)
 | 0=>by simp[j0]
 | n + 1=>by
  have ih:=m8 l k n
  have yR:=Bg l n
  unfold j0
  by_cases hn:n ∈ l
  ·rw[if_pos hn,Nat.add_comm]
   rcases lt_trichotomy k n with h | h | h
   ·rw[Nat.testBit_two_pow_add_gt h,ih]
    simp[h,lt_succ_of_lt h]
   ·subst h
    rw[Nat.testBit_two_pow_add_eq,Nat.testBit_lt_two_pow yR]
    simp[hn]
   ·have hb:2 ^ n + j0 l n < 2 ^ k:=by
     have:2 ^ (n + 1) <= 2 ^ k:=Nat.pow_le_pow_right (by decide) h
     rw[Nat.pow_succ]at this
     omega
    rw[Nat.testBit_lt_two_pow hb]
    have:¬ k < n + 1:=by omega
    simp[this]
  ·rw[if_neg hn,ih]
   by_cases h:k=n
   ·subst h;simp[hn]
   ·have:k < n↔k < n + 1:=by omega
    simp[this]
theorem DS {l:List Nat}{n:Nat}(h:∀ k ∈ l,k < n):j0 l n=zC l 0:=by
 apply Nat.eq_of_testBit_eq
 intro k
 rw[m8,A0]
 by_cases hk:k ∈ l
 ·simp[hk,h k hk]
 ·simp[hk]
noncomputable def IU (m b:Nat):List Nat:=(List.range b).filter fun k=>m.testBit k
theorem bits_le {m b:Nat}(h:m < 2 ^ b):Builtin.Int.intBits (m:Int) <= b:=by
 unfold Builtin.Int.intBits
 by_cases h0:m=0
 ·subst h0;simp
 ·have e:((m:Int) == 0)=false:=by simp[h0]
  rw[e]
  simp only[Bool.false_eq_true,if_false,Int.natAbs_natCast]
  have:=(Nat.log2_lt h0).mpr h
  omega
theorem Cc (m k:Nat):decide (Builtin.bitAnd ((m:Int) / 2 ^ k) 1=1)=m.testBit k:=by
 have e:((m:Int) / 2 ^ k)=((m / 2 ^ k:Nat):Int):=by
  rw[Int.natCast_ediv,Int.natCast_pow]
  rfl
 rw[e,show (1:Int)=((1:Nat):Int) from rfl,o0,Nat.testBit_eq_decide_div_mod_eq]
 rw[Nat.and_one_is_mod]
 congr 1
 exact propext ⟨fun z=>by exact_mod_cast z,fun z=>by exact_mod_cast z⟩
end Yd
namespace L2
open PySem PySem.Spec PyProof.Rows
noncomputable def ce (cells:List (Str × Addr)):List (Str × NameKind)->List (Str × Addr)->List (Str × Addr)
 | [],acc=>acc
 | (n,k) :: r,acc=>if k == .free then ce cells r ((n,(cells.lookup n).getD 0) :: acc) else ce cells r acc
theorem fq {scope:Scope}{env:Env}(h:∀ y ∈ scope.names,y.2 = .free->∃ c,env.cells.lookup y.1=some c) :
  closureFor scope env=pure (ce env.cells scope.names []):=by
 unfold closureFor
 have key:∀ (names:List (Str × NameKind))(acc:List (Str × Addr)),(∀ y ∈ names,y.2 = .free->∃ c,env.cells.lookup y.1=some c) ->
   (forIn names acc fun (x:Str × NameKind)(cs:List (Str × Addr))=>(match x with
    | (name,kind)=>if (kind == NameKind.free)=true then do
      let c ← cellOf env name
      pure (ForInStep.yield ((name,c) :: cs))
     else pure (ForInStep.yield cs):Sem (ForInStep (List (Str × Addr)))))=(pure (ce env.cells names acc):Sem (List (Str × Addr))):=by
  intro names
  induction names with
  | nil=>intro acc _;rfl
  | cons y r ih =>
   intro acc hy
   obtain⟨n,k⟩:=y
   rw[forIn_cons]
   by_cases hk:(k == NameKind.free)=true
   ·obtain⟨c,hc⟩:=hy (n,k) mem_cons_self (by simpa using hk)
    have e1:cellOf env n=pure c:=by
     unfold cellOf
     simp only[]at hc
     rw[hc]
    simp only[hk,if_true,e1,pure_bind]
    rw[ih _ fun z hz=>hy z (mem_cons_of_mem _ hz)]
    unfold ce
    simp only[]at hc
    rw[if_pos hk,hc]
    conv=>rhs;unfold ce
    rfl
   ·simp only[hk,Bool.false_eq_true,if_false,pure_bind]
    rw[ih _ fun z hz=>hy z (mem_cons_of_mem _ hz)]
    conv=>rhs;unfold ce
    rw[if_neg hk]
 exact(congrArg (fun (m:Sem (List (Str × Addr)))=>m >>= fun z=>pure z) (key scope.names [] h)).trans (pure_bind _ _)
theorem dE {cells:List (Str × Addr)}{x:Str}{c:Addr}:∀ (names:List (Str × NameKind))(acc:List (Str × Addr)),(∀ y ∈ names,y.2 = .free->∃ c,cells.lookup y.1=some c) ->
  (∀ c,acc.lookup x=some c->cells.lookup x=some c)->(ce cells names acc).lookup x=some c->cells.lookup x=some c
 | [],acc,_,ha,e=>ha c e
 | (n,k) :: r,acc,hn,ha,e=>by
  unfold ce at e
  have hr:=fun z hz=>hn z (mem_cons_of_mem _ hz)
  split at e
  ·rename_i hk
   refine dE r _ hr (fun c' e'=>?_) e
   rw[lookup_cons]at e'
   split at e'
   ·rename_i hx
    have Bz:x=n:=by simpa using hx
    subst Bz
    obtain⟨c0,Fv⟩:=hn (x,k) mem_cons_self (by simpa using hk)
    simp only[]at Fv
    rw[Fv]at e' ⊢
    exact e'
   ·exact ha c' e'
  ·exact dE r acc hr ha e
theorem dU {cells:List (Str × Addr)}{x:Str}:∀ (names:List (Str × NameKind))(acc:List (Str × Addr)),((x,NameKind.free) ∈ names∨∃ c,acc.lookup x=some c) ->
  ∃ c,(ce cells names acc).lookup x=some c
 | [],acc,h=>by
  rcases h with h | h
  ·cases h
  ·exact h
 | (n,k) :: r,acc,h=>by
  unfold ce
  split
  ·rename_i hk
   refine dU r _ ?_
   rcases h with h | ⟨c,h⟩
   ·rcases mem_cons.mp h with h | h
    ·refine .inr ⟨(cells.lookup n).getD 0,?_⟩
     injection h with h1 h2
     rw[lookup_cons,h1]
     simp
    ·exact .inl h
   ·refine .inr ?_
    rw[lookup_cons]
    split
    ·exact⟨_,rfl⟩
    ·exact⟨c,h⟩
  ·rename_i hk
   refine dU r _ ?_
   rcases h with h | h
   ·rcases mem_cons.mp h with h | h
    ·injection h with h1 h2
     subst h2
     exact absurd rfl hk
    ·exact .inl h
   ·exact .inr h
theorem fW {env:Env}{x:Str}:∀ {names:List (Str × NameKind)},names.lookup x=some .free ->
  (names.map fun (n,k)=>if (k == NameKind.free && env.scope.kind == .function && env.kindOf n == some .cell) then (n,NameKind.cell) else (n,k)).lookup x=some .cell ∨
  (names.map fun (n,k)=>if (k == NameKind.free && env.scope.kind == .function && env.kindOf n == some .cell) then (n,NameKind.cell) else (n,k)).lookup x=some .free
 | [],h=>by simp at h
 | (n,k) :: r,h=>by
  have ih:=@fW env x r
  rw[map_cons]
  cases hx:x == n with
  | true =>
   rw[lookup_cons,hx]at h
   cases h
   simp only[]
   split
   ·left;rw[lookup_cons,hx]
   ·right;rw[lookup_cons,hx]
  | false =>
   rw[lookup_cons,hx]at h
   simp only[]
   split
   ·rw[lookup_cons,hx];exact ih h
   ·rw[lookup_cons,hx];exact ih h
theorem e7 {env:Env}{x:Str}{k:NameKind}(hk:k = .cell∨k = .free):∀ {names:List (Str × NameKind)},(∀ y ∈ names,y.2 ≠ .cell) ->
  (names.map fun (n,k)=>if (k == NameKind.free && env.scope.kind == .function && env.kindOf n == some .cell) then (n,NameKind.cell) else (n,k)).lookup x=some k->(x,NameKind.free) ∈ names
 | [],_,h=>by simp at h
 | (n,k') :: r,hc,h=>by
  have ih:=@e7 env x k hk r fun y hy=>hc y (mem_cons_of_mem _ hy)
  rw[map_cons]at h
  simp only[]at h
  cases hx:x == n with
  | true =>
   have e:x=n:=by simpa using hx
   subst e
   split at h
   ·rename_i q
    have q':k' = .free:=by
     have:=(Bool.and_eq_true _ _ ▸ q:_/\_).1
     have:=(Bool.and_eq_true _ _ ▸ this:_/\_).1
     simpa using this
    rw[q']
    exact mem_cons_self
   ·rw[lookup_cons,hx]at h
    have e2:k' = k:=Option.some.inj h
    rcases hk with z | z
    ·exact absurd (e2.trans z) (hc (x,k') mem_cons_self)
    ·rw[e2,z];exact mem_cons_self
  | false =>
   split at h
   ·rw[lookup_cons,hx]at h;exact mem_cons_of_mem _ (ih h)
   ·rw[lookup_cons,hx]at h;exact mem_cons_of_mem _ (ih h)
section
variable {prog:Program}{w:World}{A:Around}{R:Result->Shared->Prop}{s:Shared}
abbrev ki (ifs:List Expr)(env:Env):Sem Bool :=
 forIn ifs true fun c r=>if r=true then do let ok ← isTrue c env (eval c env);pure (ForInStep.yield ok) else pure (ForInStep.yield r)
theorem mF {elt tg iter:Expr}{ifs:List Expr}{scope:Scope}{pos:Pos}{it acc:Value}{env:Env}(I:Nat->Shared->Prop)
  (turn:∀ n s,I n s->wpAny (model prog w) A (pyNext it) (fun r s1=>match r with
   | none=>R (.ok .next) s1
   | some v=>wpAny (model prog w) A (letOwnedTupleGo tg it v) (fun _ s2=>wpAny (model prog w) A (assign tg env v) (fun _ s3 =>
     wpAny (model prog w) A (ki ifs env) (fun ok s4 =>
      if ok=true then wpAny (model prog w) A (eval elt env) (fun x s5 =>
       wpAny (model prog w) A (call (.builtin "list.append") [acc,x]) (fun _ s6=>∃ m,m < n/\I m s6) (fun _ _=>False) s5) (fun _ _=>False) s4
      else ∃ m,m < n/\I m s4) (fun _ _=>False) s3) (fun _ _=>False) s2) (fun _ _=>False) s1) (fun _ _=>False) s)
  (n:Nat) (h:I n s):codeAny (model prog w) A (.compLoop (.ListComp elt [⟨tg,iter,ifs,0⟩] scope pos) 0 it acc env) R s:=by
 refine codeAny_loop rfl I (fun n s hI=>?_) n h
 have no:∀ {E':Value->Shared->Prop}(e:Value)(s':Shared),False->E' e s':=fun _ _ z=>z.elim
 show wpAny _ A (Sem.onRaise (compTurn (.ListComp elt [⟨tg,iter,ifs,0⟩] scope pos) 0 it acc env) fun x=>do
  noteFrame x env
  theTreesLotGoes x) _ _ s
 refine wpAny_noted ?_
 rw[compTurn_list]
 refine wpAny_bind (wpAny_standAt (wpAny_bind (wpAny_mono (turn n s hI) (fun r s1 h1=>?_) no)))
 cases r with
 | none=>exact wpAny_pure h1
 | some v =>
  refine wpAny_bind (wpAny_mono h1 (fun _ s2 h2=>?_) no)
  refine wpAny_bind (wpAny_mono h2 (fun _ s3 h3=>?_) no)
  refine wpAny_bind (wpAny_mono h3 (fun ok s4 h4=>?_) no)
  cases ok with
  | false=>exact wpAny_pure ⟨rfl,h4⟩
  | true =>
   refine wpAny_bind (wpAny_bind (wpAny_mono h4 (fun x s5 h5=>?_) no))
   exact wpAny_bind (wpAny_mono h5 (fun _ s6 h6=>wpAny_pure (wpAny_pure ⟨rfl,h6⟩)) no)
end
noncomputable def IV (X:Cx)(ifs:List Expr)(t:TT):Prop :=
 ∀ (pins:List (Addr × Obj))(s:Shared)(σ:St)(H:Hp)(Q:Bool->Hp->Prop),Inv X pins σ H s->t σ H Q->wpAny (model X.prog X.w) X.A (ki ifs X.env) (TP X pins σ Q) X.xe s
noncomputable def l8:TT:=fun _ H Q=>Q true H
theorem ci {X:Cx}:IV X [] l8:=fun _ _ _ H _ I h=>wpAny_pure ⟨H,I,h⟩
theorem cK {X:Cx}{c:Expr}{t:TT}(h:PT X c t):IV X [c] t:=fun pins s σ H Q I hw=>by
 simp only[ki,forIn_cons,List.forIn_nil,if_true]
 exact wpAny_bind (wpAny_bind (b5 (h pins s σ H Q I hw) fun b s' hb=>wpAny_pure (wpAny_pure hb)))
structure zP (N:List Str)(sc scope:Scope)(capN:List Str)(cap:List Nat):Prop where
 kind:scope.kind = .function
 BM:∀ y ∈ scope.names,y.2 ≠ .cell
 loc:∀ y ∈ scope.names,y.2 = .local->scope.names.lookup y.1=some .local
 free:∀ y ∈ scope.names,y.2 = .free->sc.names.lookup y.1=some .cell∨sc.names.lookup y.1=some .free
 len:cap.length=capN.length
 cap:∀ p ∈ capN.zip cap,scope.names.lookup p.1=some .free/\N[p.2]? = some p.1
abbrev bY (X:Cx)(scope:Scope)(N:List Str)(C:Addr)(s:Shared)(H:Hp)(fp:List Addr):Cx :=
 { X with N:=N,s₀:=s,H₀:=H,env:=compEnvC scope (ce X.env.cells scope.names []) C X.env,outer:=X.stack,stack:=X.stack,ex:=fp,fn:=fun _=>false,pn:=[],xe:=fun _ _=>False }
noncomputable def gK (n:Nat)(cap:List Nat)(σ:St):St:=List.replicate n none ++ cap.map fun j=>(σ[j]?).join
theorem mK (n:Nat)(cap:List Nat)(σ:St):(gK n cap σ).length=n + cap.length:=by simp[gK]
section
variable {X:Cx}{pins:List (Addr × Obj)}{σ:St}{H:Hp}{s:Shared}{scope:Scope}{own capN:List Str}{cap:List Nat}{fp:List Addr}
theorem zP.Fw (B:zP X.N X.env.scope scope capN cap)(ok:X.Ok):∀ y ∈ scope.names,y.2 = .free->∃ c,X.env.cells.lookup y.1=some c:=fun y hy hf=>ok.has y.1 (B.free y hy hf)
theorem zP.cell (B:zP X.N X.env.scope scope capN cap)(ok:X.Ok){x:Str}{c:Addr}(h:(ce X.env.cells scope.names []).lookup x=some c):X.env.cells.lookup x=some c :=
 dE scope.names [] (B.Fw ok) (fun _ e=>by cases e) h
theorem zP.locs (I:Inv X pins σ H s)(B:zP X.N X.env.scope scope capN cap){h':Heap}(k:∀ x c v,X.env.cells.lookup x=some c->s.heap.IsCell c v->h'.IsCell c v)(C:Addr)(m0:Str->Option Value) :
  ∀ (i:Nat)(x:Str)(v:V),(own ++ capN)[i]? = some x->(gK own.length cap σ)[i]? = some (some v)->∃ u,RelV v u/\Look (compEnvC scope (ce X.env.cells scope.names []) C X.env) h' m0 x u:=by
 intro i x v e1 e2
 have hi:own.length <= i:=by
  by_cases q:own.length <= i
  ·exact q
  ·unfold gK at e2
   rw[getElem?_append_left (by simp;omega),List.getElem?_replicate,if_pos (by omega)]at e2
   cases e2
 have e1':capN[i - own.length]? = some x:=by
  rwa [getElem?_append_right hi]at e1
 unfold gK at e2
 rw[getElem?_append_right (by simpa using hi),length_replicate,getElem?_map]at e2
 cases ej:cap[i - own.length]? with
 | none=>rw[ej]at e2;cases e2
 | some j =>
  rw[ej]at e2
  have M4:(σ[j]?).join=some v:=Option.some.inj e2
  have e3':σ[j]? = some (some v):=by
   cases q:σ[j]? with
   | none=>rw[q]at M4;cases M4
   | some u=>rw[q]at M4;exact congrArg some M4
  have hz:(x,j) ∈ capN.zip cap:=by
   refine List.mem_iff_getElem?.mpr ⟨i - own.length,?_⟩
   rw[List.getElem?_zip_eq_some]
   exact⟨e1',ej⟩
  obtain⟨c1,c2⟩:=B.cap (x,j) hz
  have T1:(x,NameKind.free) ∈ scope.names:=PySem.mem_of_lookup c1
  have hX:=B.free _ T1 rfl
  obtain⟨m,hm,hl⟩:=I.loc
  obtain⟨u,ru,lk⟩:=hl j x v c2 e3' (hX.elim (fun z => .inr (.inl z)) fun z => .inr (.inr z))
  refine⟨u,ru, .inr ⟨fW c1,?_⟩⟩
  rcases lk with ⟨q,_⟩ | ⟨_,c,ec,ic⟩
  ·have q':X.env.scope.names.lookup x=some .local:=q
   rcases hX with z | z
   ·rw[z]at q';cases q'
   ·rw[z]at q';cases q'
  ·obtain⟨c',T2⟩:=dU (cells:=X.env.cells) (x:=x) scope.names [] (.inl T1)
   have:=B.cell I.ok T2
   rw[ec]at this
   cases this
   exact⟨c,T2,k x c _ ec ic⟩
theorem Inv.blk {h4:Heap}{tk:Nat}{m0:Str->Option Value}{C:Addr}(I:Inv X pins σ H s)(B:zP X.N X.env.scope scope capN cap)(hC:s.heap.objs.size <= C)(k:∀ b o,s.heap.get? b=some o->h4.get? b=some o)
  (hn:h4.Ns C m0) (hf:∀ b ∈ fp,eW X pins H b) (yR:∀ b ∈ fp,b < s.heap.objs.size) :
  Inv (bY X scope (own ++ capN) C s H fp) [] (gK own.length cap σ) H { s with heap:=h4,toks:=tk }:=by
 have O1:∀ b ∈ fp,b ∉ pB X.stack:=fun b hb z=>by
  obtain⟨_,f1,f2,_⟩:=hf b hb
  rcases mem_cons.mp (I.Bc b z) with e | e
  ·exact f1 e
  ·exact f2 e
 have hinv:∀ x,((relabel scope X.env).names.lookup x=some .cell∨(relabel scope X.env).names.lookup x=some .free)->(x,NameKind.free) ∈ scope.names:=fun x hx=>by
  rcases hx with q | q
  ·exact e7 (.inl rfl) B.BM q
  ·exact e7 (.inr rfl) B.BM q
 refine⟨⟨I.ok.mod,B.kind,I.ok.glob,I.ok.blt,hC,fun x y c h1 h2=>I.ok.inj x y c (B.cell I.ok h1) (B.cell I.ok h2),fun x hx=>dU scope.names [] (.inl (hinv x hx)),fun _ _ z=>absurd z Bool.false_ne_true,I.ok.hd,I.ok.frames, .inl rfl,
  fun b hb=>⟨ne_of_lt (lt_of_lt_of_le (yR b hb) hC),fun x c e=>(hf b hb).2.2.2.2.1 x c (B.cell I.ok e)⟩,I.bs,le_trans I.ok.DI I.sz,fun b o e hb=>?_,fun b hb=>O1 b hb,I.stack,I.BY⟩,
  rfl,I.bare,Un.kept k,⟨m0,hn,fun i x v e1 e2 _=>B.locs I (fun _ _ _ _ q=>q.keeps k) C m0 i x v e1 e2⟩,fun x c e=>?_,I.yE.fresh hC,fun x c e=>I.zo x c (B.cell I.ok e),fun p hp=>absurd (show p ∈ ([]:List (Addr × Obj)) from hp) (by simp),I.yE.kept k,?_⟩
 ·rcases (hf b hb).2.2.2.1 with z | z
  ·exact I.ok.CK b o e z
  ·exact absurd (lt_of_lt_of_le (lt_size e) (le_trans I.ok.DI z)) (lt_irrefl _)
 ·obtain⟨v,q⟩:=I.cell x c (B.cell I.ok e)
  exact⟨v,q.keeps k⟩
 ·show(gK own.length cap σ).length=(own ++ capN).length
  rw[mK,length_append,B.len]
theorem Inv.reset {Bu:List (Addr × Obj)}{σ':St}{H':Hp}{s':Shared}{C:Addr}(I:Inv X pins σ H s)(B:zP X.N X.env.scope scope capN cap)(hf:∀ b ∈ fp,eW X pins H b)(J:Inv (bY X scope (own ++ capN) C s H fp) Bu σ' H' s') :
  Inv (bY X scope (own ++ capN) C s H fp) Bu (gK own.length cap σ) H' s':=by
 obtain⟨m,hn,_⟩:=J.loc
 refine⟨J.ok,J.os,J.bare,J.base,⟨m,hn,fun i x v e1 e2 _=>?_⟩,J.cell,J.free,J.zo,J.pin,J.yE,?_⟩
 ·refine B.locs I (fun y c v' ec ic=>?_) C m i x v e1 e2
  obtain⟨o,ho,hd⟩:=ic
  have hx:c ∉ fp:=fun z=>(hf c z).2.2.2.2.1 y c ec rfl
  obtain⟨sl,e⟩:=J.base.any ho (I.zo y c ec) hx
  exact⟨_,e,hd⟩
 ·show(gK own.length cap σ).length=(own ++ capN).length
  rw[mK,length_append,B.len]
theorem Inv.adopt {D:Addr}{o:HO}(I:Inv X pins σ H s)(hn:H D=none)(h0:X.s₀.heap.objs.size <= D)(hL:D ≠ X.env.locals)(hc:∀ x c,X.env.cells.lookup x=some c->c ≠ D)(hp:∀ p ∈ X.pn ++ pins,p.1 ≠ D)
  (new:yU X.prog X.w (upd H D o) s.heap D o):Inv X pins σ (upd H D o) s:=by
 have ne:∀ b u,H b=some u->b ≠ D:=fun b u e=>ag e hn
 refine⟨I.ok,I.os,I.bare,⟨I.base.keep,I.base.slot,fun b ob e n hx=>?_,I.base.there,fun b xs e=>?_,fun b ob u e=>?_,fun b ps e=>?_⟩,I.loc,I.cell,?_,fun x c e=>?_,fun p CA=>?_,fun b u e=>?_,I.len⟩
 ·rw[af (ne_of_lt (lt_of_lt_of_le (lt_size e) h0))]
  exact I.base.free b ob e n hx
 ·have q:=I.base.Ba b xs e
  rw[af (ne b _ q)];exact q
 ·have q:=I.base.AK b ob u e
  rw[af (ne b _ q)];exact q
 ·obtain⟨more,q⟩:=I.base.Bb b ps e
  exact⟨more,by rw[af (ne b _ q)];exact q⟩
 ·rw[af (Ne.symm hL)];exact I.free
 ·rw[af (hc x c e)];exact I.zo x c e
 ·obtain⟨e,n,r⟩:=I.pin p CA
  exact⟨e,by rw[af (hp p CA)];exact n,r⟩
 ·by_cases hb:b=D
  ·subst hb;rw[ac]at e;cases e;exact new
  ·rw[af hb]at e
   exact(I.yE b u e).Af (fun _ _ _ q=>q) (fun c q=>by rw[af (ne c _ q)];exact q) fun c xs q=>by rw[af (ne c _ q)];exact q
end
noncomputable def dB (J:It)(g:TG)(tt:TT)(te:TE)(σ0:St)(Q:VK)(H1:Hp):Prop:=∃ W:Nat->Nat->List V->Hp->Prop,(∃ m,W 0 m [] H1)/\∀ i m acc H,W i m acc H ->
 acc.length < sizeLine/\((J.stop i H/\∀ D,H D=none->Q (.ref D) (upd H D (.lst acc)))∨(J.go i H/\∃ N:List V->Hp->Prop,(∀ zg H',N zg H'->∃ m',m' < m/\W (i + 1) m' zg H') /\
  ∀ x H',J.DK i H x H'->g x σ0 H' fun σ2 H2=>tt σ2 H2 fun b H3=>if b=true then te σ2 H3 fun y H4=>N (acc ++ [y]) H4 else N acc H3))
noncomputable def vF (wi:TI)(g:TG)(tt:TT)(te:TE)(n:Nat)(cap:List Nat):TE:=fun σ H Q=>wi σ H fun J H1=>dB J g tt te (gK n cap σ) Q H1
section
variable {X:Cx}{tg iter elt:Expr}{ifs:List Expr}{scope:Scope}{pos:Pos}{wi:TI}{g:TG}{tt:TT}{te:TE}{own capN:List Str}{cap:List Nat}
abbrev kZ (y9:List Value)(k:Nat):Obj:={ cls := .type "list",data := .seq y9.toArray k }
theorem mB {pins:List (Addr × Obj)}{s:Shared}{σ:St}{H:Hp}{Q:VK}{it:Addr}{fp:List Addr}{tn:Nat->Heap->Prop}{J:It}(B:zP X.N X.env.scope scope capN cap)(hc:X.calm=true)
  (hb:∀ (C:Addr)(s:Shared)(H:Hp)(fp:List Addr),PG (bY X scope (own ++ capN) C s H fp) tg g/\IV (bY X scope (own ++ capN) C s H fp) ifs tt/\PE (bY X scope (own ++ capN) C s H fp) elt te)
  (I:Inv X pins σ H s) (T:oC X.prog X.w X.K tg J fp it tn) (st:tn 0 s.heap) (hf:∀ b ∈ fp,eW X pins H b) {W:Nat->Nat->List V->Hp->Prop} {m0:Nat} (w0:W 0 m0 [] H)
  (turn:∀ i m acc H,W i m acc H->acc.length < sizeLine/\((J.stop i H/\∀ D,H D=none->Q (.ref D) (upd H D (.lst acc)))∨(J.go i H/\∃ N:List V->Hp->Prop,(∀ zg H',N zg H'->∃ m',m' < m/\W (i + 1) m' zg H') /\
   ∀ x H',J.DK i H x H'->g x (gK own.length cap σ) H' fun σ2 H2=>tt σ2 H2 fun b H3=>if b=true then te σ2 H3 fun y H4=>N (acc ++ [y]) H4 else N acc H3)))
  {RR:Value->Addr->Result->Shared->Prop}
  (fin:∀ (D C:Addr)(H':Hp)(s':Shared),Q (.ref D) H'->Inv X pins σ H' s'->(∃ m,s'.heap.Ns C m)->H' C=none->C ≠ X.env.locals->X.s₀.heap.objs.size <= C->(∀ x c,X.env.cells.lookup x=some c->c ≠ C)->(∀ p ∈ X.pn ++ pins,p.1 ≠ C) ->
   RR (.ref D) C (.ok .next) s') :
  wpAny (model X.prog X.w) X.A (newList []) (fun acc s3=>wpAny (model X.prog X.w) X.A (newFunctionEnv scope X.env.globals (ce X.env.cells scope.names []) [] X.env.qual none .none (some X.env)) (fun IW s4 =>
   codeAny (model X.prog X.w) X.A (.compStart (.ListComp elt [⟨tg,iter,ifs,0⟩] scope pos) 0 (.ref it) acc { IW with scope:=relabel scope X.env }) (RR acc IW.locals) s4) X.xe s3) X.xe s:=by
 refine wpAny_newObj_type (wpAny_newFunctionEnv B.BM (by intro y hy;simp at hy) (fun h1 Hn E6=>?_) B.kind)
 dsimp only at Hn E6 ⊢
 generalize Fx:s.heap.push { cls := .type "list",dict:=none,data := .seq ([]:List Value).toArray } = H2 at Hn E6 ⊢
 have hCs:H2.objs.size=s.heap.objs.size + 1:=by rw[← Fx,size_push]
 have BN:s.heap.objs.size <= H2.objs.size:=by omega
 have DT:∀ b ∈ fp,b < s.heap.objs.size:=fun b hb=>by
  obtain⟨o,e,_⟩:=T.obj 0 s.heap st b hb
  exact lt_size e
 have old:∀ b o,s.heap.get? b=some o->h1.get? b=some o:=fun b o e =>
  E6.extBut b o (ne_of_lt (lt_of_lt_of_le (lt_size e) BN)) (Heap.get?_push_of_some _ (Fx ▸ Heap.get?_push_of_some _ e))
 have M5:s.heap.objs.size ≠ H2.objs.size:=by omega
 have CS:h1.get? s.heap.objs.size=some (kZ [] 0):=E6.extBut _ _ M5 (Heap.get?_push_of_some _ (Fx ▸ Heap.get?_push_size _ rfl))
 have I4:Inv (bY X scope (own ++ capN) H2.objs.size s H fp) [] (gK own.length cap σ) H { s with heap:=h1,toks:=s.toks + ([]:List (Str × Value)).length }:=I.blk (own:=own) B BN old Hn hf DT
 have O1:∀ b ∈ fp,b ∉ pB X.stack:=fun b hb z=>by
  obtain⟨_,f1,f2,_⟩:=hf b hb
  rcases mem_cons.mp (I.Bc b z) with e | e
  ·exact f1 e
  ·exact f2 e
 have DU:∀ b ∈ pB X.stack,b < s.heap.objs.size:=fun b hb=>by
  obtain⟨_,o,ho,_⟩:=I.stack.mem hb
  exact lt_size ho
 have BO:∀ x c,X.env.cells.lookup x=some c->c < s.heap.objs.size:=fun x c e=>by
  obtain⟨v,q⟩:=I.cell x c e
  exact q.lt
 have E7:∀ (H':Hp)(h':Heap)(y9:List Value)(k:Nat),H' s.heap.objs.size=none->h'.get? s.heap.objs.size=some (kZ y9 k) ->
   ∀ p ∈ [(s.heap.objs.size,kZ y9 k)],h'.get? p.1=some p.2/\H' p.1=none/\p.1 ≠ (bY X scope (own ++ capN) H2.objs.size s H fp).env.locals/\p.1 ∉ (bY X scope (own ++ capN) H2.objs.size s H fp).fs/\∀ v,p.2.data ≠ .cell v:=fun H' h' y9 k hn he p hp=>by
  have e:p=(s.heap.objs.size,kZ y9 k):=by simpa using hp
  subst e
  exact⟨he,hn,M5,fun z=>absurd (DU _ z) (lt_irrefl _),fun v z=>by cases z⟩
 have stat:∀ (H':Hp)(y9:List Value)(k:Nat),(∀ b ∈ fp,H' b=none)->∀ b ∈ fp,eW (bY X scope (own ++ capN) H2.objs.size s H fp) [(s.heap.objs.size,kZ y9 k)] H' b:=fun H' y9 k hn b hb =>
  ⟨hn b hb,ne_of_lt (lt_of_lt_of_le (DT b hb) BN),O1 b hb, .inl hb,fun x c e=>(hf b hb).2.2.2.2.1 x c (B.cell I.ok e),fun p hp=>by
   have e:p=(s.heap.objs.size,kZ y9 k):=by simpa using hp
   subst e
   exact ne_of_gt (DT b hb)⟩
 have loop:∀ s3:Shared,s3 = { s with heap:=h1,toks:=s.toks + ([]:List (Str × Value)).length } ->
   codeAny (model X.prog X.w) X.A (.compLoop (.ListComp elt [⟨tg,iter,ifs,0⟩] scope pos) 0 (.ref it) (.ref s.heap.objs.size) (compEnvC scope (ce X.env.cells scope.names []) H2.objs.size X.env))
    (RR (.ref s.heap.objs.size) H2.objs.size) s3:=by
  rintro s3 rfl
  refine mF (fun n s'=>∃ i acc y9 k H',Inv (bY X scope (own ++ capN) H2.objs.size s H fp) [(s.heap.objs.size,kZ y9 k)] (gK own.length cap σ) H' s'/\tn i s'.heap/\(∀ b ∈ fp,H' b=none)/\Vals acc y9/\W i n acc H') ?_ m0
   ⟨0,[],[],0,H,I4.zJ (E7 _ _ _ _ (I.yE.fresh (le_refl _)) CS),T.keep 0 s.heap h1 st fun b _ o e=>old b o e,fun b hb=>(hf b hb).1, .nil,w0⟩
  rintro n s5 ⟨i,acc,y9,k,H5,I5,Hj,Mw,rv,w5⟩
  obtain⟨hsz,IX⟩:=turn i n acc H5 w5
  obtain⟨hgt,D6,hte⟩:=hb H2.objs.size s H fp
  rcases IX with ⟨stop,q⟩ | ⟨go,N,hN,step⟩
  ·refine b5 (T.done (bY X scope (own ++ capN) H2.objs.size s H fp) rfl rfl rfl hc i _ s5 _ H5 _ I5 (stat H5 y9 k Mw) Hj stop) fun r s6 y8=>?_
   obtain⟨hr,I6⟩:=y8
   subst hr
   obtain⟨hD,Ct,_⟩:=I6.pin (s.heap.objs.size,kZ y9 k) (by simp)
   have J1:Inv X pins σ H5 s6:=I.Ij (s':=s6) (ch:=fp) I6.os I6.base I6.yE I6.bare fun b hb=>by
    obtain⟨_,f1,_,f3,f4,f5⟩:=hf b hb
    exact⟨f3,f1,f4,f5⟩
   have J2:Inv X pins σ (upd H5 s.heap.objs.size (.lst acc)) s6:=J1.adopt Ct I.sz (ne_of_gt I.lt) (fun x c e=>ne_of_lt (BO x c e)) (fun p hp=>ne_of_lt (lt_size (I.pin p hp).1)) ⟨le_of_lt hsz,y9,k,rv,hD⟩
   obtain⟨mC,IY,_⟩:=I6.loc
   refine fin _ _ _ s6 (q _ Ct) J2 ⟨mC,IY⟩ (by rw[af (Ne.symm M5)];exact I6.free) (ne_of_gt (lt_of_lt_of_le I.lt BN)) (le_trans I.sz BN) (fun x c e=>ne_of_lt (lt_of_lt_of_le (BO x c e) BN)) fun p hp =>
    ne_of_lt (lt_of_lt_of_le (lt_size (I.pin p hp).1) BN)
  ·refine b5 (T.item (bY X scope (own ++ capN) H2.objs.size s H fp) rfl rfl rfl hc i _ s5 _ H5 _ I5 (stat H5 y9 k Mw) Hj go) fun r s6 y8=>?_
   obtain⟨u,hr,h6⟩:=y8
   subst hr
   refine b5 h6 fun _ s7 y8=>?_
   obtain⟨x,H7,I7,r7,y7,O2,fr7⟩:=y8
   have I7':=I7.pinned (stat H7 y9 k fr7) (T.obj _ _ O2)
   refine b5 (hgt _ s7 _ H7 x u _ I7' r7 (step x H7 y7)) fun _ s8 y8=>?_
   obtain⟨σ8,H8,I8,q8⟩:=y8
   refine b5 (D6 _ s8 σ8 H8 _ I8 q8) fun b s9 y8=>?_
   obtain⟨H9,I9,q9⟩:=y8
   have T3:∀ {H':Hp}{s':Shared}{σ':St},Inv (bY X scope (own ++ capN) H2.objs.size s H fp) (dQ fp s7.heap) σ' H' s'->tn (i + 1) s'.heap/\∀ b ∈ fp,H' b=none:=fun {H' s' σ'} K=>by
    refine⟨T.keep _ _ _ O2 fun b hb o e=>(K.pin (b,o) (dS hb e)).1,fun b hb=>?_⟩
    obtain⟨o,e,_⟩:=T.obj _ _ O2 b hb
    exact(K.pin (b,o) (dS hb e)).2.1
   cases b with
   | false =>
    rw[if_neg Bool.false_ne_true]
    obtain⟨m',hm,w9⟩:=hN acc H9 (by simpa using q9)
    have K9:Inv (bY X scope (own ++ capN) H2.objs.size s H fp) (dQ fp s7.heap) σ8 H9 s9:=I9.zJ fun p hp=>I9.pin p (mem_append_right _ (mem_append_right _ hp))
    obtain⟨t9,f9⟩:=T3 K9
    exact⟨m',hm,i + 1,acc,y9,k,H9,I.reset B hf I9.Ac,t9,f9,rv,w9⟩
   | true =>
    rw[if_pos rfl]
    have q9':te σ8 H9 fun y H4=>N (acc ++ [y]) H4:=by simpa using q9
    refine b5 (hte _ s9 σ8 H9 _ I9 q9') fun yv IZ y8=>?_
    obtain⟨y,CT,O3,r10,q10⟩:=y8
    obtain⟨hD,Ct,_⟩:=O3.pin (s.heap.objs.size,kZ y9 k) (by simp)
    have hlen:=rv.length
    refine wpAny_list_append_plain ⟨k,hD⟩ (fun h' Bq Fy=>?_) (by rw[size_toArray];omega)
    obtain⟨k',hD'⟩:=Bq
    obtain⟨m',hm,w10⟩:=hN (acc ++ [y]) CT q10
    have K10:Inv (bY X scope (own ++ capN) H2.objs.size s H fp) (dQ fp s7.heap) σ8 CT IZ:=O3.zJ fun p hp=>O3.pin p (mem_append_right _ (mem_append_right _ hp))
    have T4:Inv (bY X scope (own ++ capN) H2.objs.size s H fp) (dQ fp s7.heap) σ8 CT { IZ with heap:=h' }:=K10.turned (t':=IZ.toks) (it:=s.heap.objs.size) (fun b o hb e=>(Fy.2 b hb).trans e) Ct M5 (.inr (le_refl _))
     (fun x c e=>ne_of_lt (BO x c (B.cell I.ok e))) fun p hp=>by
      obtain⟨hb,_⟩:=jG (show p ∈ dQ fp s7.heap from hp)
      exact ne_of_lt (DT p.1 hb)
    obtain⟨t11,M6⟩:=T3 T4
    refine⟨m',hm,i + 1,acc ++ [y],y9 ++ [yv],k',CT,?_,t11,M6,rv.append (.cons r10 .nil),w10⟩
    refine I.reset B hf (T4.zJ (E7 _ _ _ _ Ct ?_))
    show h'.get? s.heap.objs.size=some { cls := .type "list",data := .seq (y9 ++ [yv]).toArray k' }
    rw[show(y9 ++ [yv]).toArray=y9.toArray.push yv by simp]
    exact hD'
 exact codeAny_compStart_list (loop _ rfl) (T.self X.A 0 _ _ _ (T.keep 0 s.heap h1 st fun b _ o e=>old b o e) (loop _ rfl))
theorem bH (B:zP X.N X.env.scope scope capN cap)(hc:X.calm=true)(hi:PI X tg iter wi)
  (hb:∀ (C:Addr)(s:Shared)(H:Hp)(fp:List Addr),PG (bY X scope (own ++ capN) C s H fp) tg g/\IV (bY X scope (own ++ capN) C s H fp) ifs tt/\PE (bY X scope (own ++ capN) C s H fp) elt te)
  (hs:autoParam (∀ x,foldedSetIterable iter X.env x=pure x) ψ):PE X (.ListComp elt [⟨tg,iter,ifs,0⟩] scope pos) (vF wi g tt te own.length cap):=by
 intro pins s σ H Q I h
 rw[eval_ListComp]
 refine wpAny_comprehension_free (use:=none) rfl hs (fq (B.Fw I.ok)) B.kind B.loc (b5 (hi pins s σ H _ I h) fun v s1 h1=>b5 h1 fun Ms s2 h2=>?_)
 obtain⟨it,fp,tn,J,H2,e,I2,T,Iy,f2,W,⟨m0,w0⟩,turn⟩:=h2
 subst e
 refine mB (own:=own) B hc hb I2 T Iy f2 w0 turn (RR:=fun acc C=>compPost (model X.prog X.w) X.A X.xe none (EP X pins σ Q) acc C) fun D C H' s' q J2 ⟨mC,IY⟩ fC n1 n2 n3 n4=>?_
 refine⟨mC,IY,fun h' E6=>⟨.ref D,H',?_,rfl,q⟩⟩
 exact J2.turned (t':=s'.toks) (it:=C) (fun b o hb e=>(E6.2 b hb).trans e) fC n1 (.inr n2) n3 n4
theorem fI {i:Nat}{x:Str}{px:Pos}{Ja:Pos}(B:zP X.N X.env.scope scope capN cap)(hc:X.calm=true)(hN:X.N.Nodup)(hx:X.N[i]? = some x)(hl:X.env.scope.names.lookup x=some .local)(hi:PI X tg iter wi)
  (hb:∀ (C:Addr)(s:Shared)(H:Hp)(fp:List Addr),PG (bY X scope (own ++ capN) C s H fp) tg g/\IV (bY X scope (own ++ capN) C s H fp) ifs tt/\PE (bY X scope (own ++ capN) C s H fp) elt te)
  (hsw:autoParam (swapsWith (.ListComp elt [⟨tg,iter,ifs,0⟩] scope pos) (some (.Name x px)) Ja.line X.env=pure true) η)
  (hs:autoParam (∀ x,foldedSetIterable iter X.env x=pure x) ψ):PS X (.Assign [.Name x px] (.ListComp elt [⟨tg,iter,ifs,0⟩] scope pos) Ja) (wu (vF wi g tt te own.length cap) (cf i)):=by
 intro pins s σ H D0 I h
 rw[exec_Assign_Name_used _ _ _ _ hsw]
 refine wpAny_bind (wpAny_standAt (wpAny_bind ?_))
 show wpAny _ X.A (do
  let _ ← comprehension (.ListComp elt [⟨tg,iter,ifs,0⟩] scope pos) scope X.env _ (newList []) false (eval iter X.env) (some (assign (.Name x px) X.env))) _ _ s
 refine wpAny_bind (wpAny_mono (wpAny_comprehension_free (use:=some (assign (.Name x px) X.env)) (Q:=fun _ s'=>SP X pins D0 .next s') rfl hs (fq (B.Fw I.ok)) B.kind B.loc
  (b5 (hi pins s σ H _ I h) fun v s1 h1=>b5 h1 fun Ms s2 h2=>?_)) (fun _ s' hq=>wpAny_pure (wpAny_pure hq)) fun _ _ e=>e)
 obtain⟨it,fp,tn,J,H2,e,I2,T,Iy,f2,W,⟨m0,w0⟩,turn⟩:=h2
 subst e
 refine mB (own:=own) (Q:=fun x H1=>cf i x σ H1 D0.nx) B hc hb I2 T Iy f2 w0 turn (RR:=fun acc C=>compPost (model X.prog X.w) X.A X.xe (some (assign (.Name x px) X.env)) (fun _ s'=>SP X pins D0 .next s') acc C) fun D C H' s' q J2 ⟨mC,IY⟩ fC n1 n2 n3 n4=>?_
 show wpAny _ X.A (assign (.Name x px) X.env (.ref D)) _ _ s'
 refine wpAny_assign_Name (jA J2 hN hx (.inl hl) (show RelV (.ref D) (.ref D) from rfl) (fun II J3 y8=>?_) (.inr hl))
 obtain⟨a,E6,ha⟩:=y8
 have hCa:C ≠ a:=by
  rcases ha with z | z
  ·rw[z];exact n1
  ·exact(n3 x a z).symm
 refine⟨mC,IY.sameBut E6 hCa,fun h' Fy=>⟨_,H',?_,q⟩⟩
 exact J3.turned (t':=II.toks) (it:=C) (fun b o hb e=>(Fy.2 b hb).trans e) fC n1 (.inr n2) n3 n4
end
mutual
inductive Den (K:Frag)(H:Hp):V->PyData->Prop
 | yK:Den K H .yK .none
 | bl (b:Bool):Den K H (.bl b) (.bool b)
 | int (i:Int):Den K H (.int i) (.int i)
 | str (x:Str):Den K H (.str x) (.str x)
 | lst {a:Addr} {xs:List V} {ds:List PyData}:y6 K H a xs->zU K H xs ds->Den K H (.ref a) (.list ds)
 | tup {a:Addr} {xs:List V} {ds:List PyData}:yD K H a xs->zU K H xs ds->Den K H (.ref a) (.tuple ds)
inductive zU (K:Frag)(H:Hp):List V->List PyData->Prop
 | nil:zU K H [] []
 | cons {x:V} {d:PyData} {xs:List V} {ds:List PyData}:Den K H x d->zU K H xs ds->zU K H (x :: xs) (d :: ds)
end
section
variable {X:Cx}{pins:List (Addr × Obj)}{σ:St}{H:Hp}{s:Shared}
mutual
theorem Inv.den (I:Inv X pins σ H s):∀ {x:V}{d:PyData}{u:Value},Den X.K H x d->RelV x u->∃ as,Reads s.heap u d as
 | _,_,_, .yK,r=>by cases r;exact⟨_, .none⟩
 | _,_,_, .bl b,r=>by cases r;exact⟨_, .bool b⟩
 | _,_,_, .int i,r=>by obtain⟨t,rfl⟩:=r;exact⟨_, .int i t⟩
 | _,_,_, .str x,r=>by obtain⟨t,rfl⟩:=r;exact⟨_, .str x t⟩
 | _,_,_, .lst hq hd,r=>by
  cases r
  obtain⟨y9,rv,⟨o,n,e,hc,_,O4⟩,_⟩:=I.list hq
  obtain⟨as,q⟩:=I.Fz hd rv
  exact⟨_, .list e hc O4 (by simpa using q)⟩
 | _,_,_, .tup hq hd,r=>by
  cases r
  obtain⟨y9,rv,⟨o,e,hc,n,O4⟩,_⟩:=I.tuple hq
  obtain⟨as,q⟩:=I.Fz hd rv
  exact⟨_, .tuple e hc O4 (by simpa using q)⟩
theorem Inv.Fz (I:Inv X pins σ H s):∀ {xs:List V}{ds:List PyData}{us:List Value},zU X.K H xs ds->Vals xs us->∃ as,ReadsAll s.heap us ds as
 | _,_,_, .nil, .nil=>⟨_, .nil⟩
 | _,_,_, .cons hd hr, .cons r rr=>by
  obtain⟨as,q⟩:=I.den hd r
  obtain⟨bs,q'⟩:=I.Fz hr rr
  exact⟨_, .cons q q'⟩
end
noncomputable def Jb (K:Frag):R2:=fun x y H Q=>∃ da db,Den K H x da/\Den K H y db/\SeqAt.shaped da=true/\SeqAt.shaped db=true/\Q (.bl (PyData.eqv da db)) H
noncomputable def Jc (K:Frag):R2:=fun x y H Q=>∃ da db,Den K H x da/\Den K H y db/\SeqAt.shaped da=true/\SeqAt.shaped db=true/\Q (.bl (!PyData.eqv da db)) H
end
section
variable {X:Cx}
theorem sj (hu:X.A.units + 64 < cLine):dW X (compareOp .Eq) (Jb X.K):=by
 intro pins s σ H x y v u Q I rx ry h
 obtain⟨da,db,h1,h2,h3,h4,q⟩:=h
 obtain⟨as,r1⟩:=I.den h1 rx
 obtain⟨bs,r2⟩:=I.den h2 ry
 exact SeqAt.compareEq_shaped r1 r2 h3 h4 hu ⟨.bl _,H,I,rfl,q⟩
theorem kT (hu:X.A.units + 64 < cLine):dW X (compareOp .NotEq) (Jc X.K):=by
 intro pins s σ H x y v u Q I rx ry h
 obtain⟨da,db,h1,h2,h3,h4,q⟩:=h
 obtain⟨as,r1⟩:=I.den h1 rx
 obtain⟨bs,r2⟩:=I.den h2 ry
 exact SeqAt.compareNe_shaped r1 r2 h3 h4 hu ⟨.bl _,H,I,rfl,q⟩
theorem jO {K:Frag}{H:Hp}:∀ ns:List Int,zU K H (ns.map V.int) (ns.map PyData.int)
 | [] => .nil
 | n :: r => .cons (.int n) (jO r)
theorem gf {K:Frag}{H:Hp}{a:Addr}{ns:List Int}(h:y6 K H a (ns.map V.int)):Den K H (.ref a) (.list (ns.map PyData.int)) := .lst h (jO ns)
noncomputable def O5 (K:Frag):R2:=fun x y H Q=>∃ (p q:Addr)(ns ms:List Int),x = .ref p/\y = .ref q/\y6 K H p (ns.map V.int)/\y6 K H q (ms.map V.int)/\Q (.bl (decide (ns=ms))) H
noncomputable def O6 (K:Frag):R2:=fun x y H Q=>∃ (p q:Addr)(ns ms:List Int),x = .ref p/\y = .ref q/\y6 K H p (ns.map V.int)/\y6 K H q (ms.map V.int)/\Q (.bl (!decide (ns=ms))) H
theorem xc (hu:X.A.units + 64 < cLine):dW X (compareOp .Eq) (O5 X.K):=by
 intro pins s σ H x y v u Q I rx ry h
 obtain⟨p,q,ns,ms,rfl,rfl,h1,h2,q⟩:=h
 refine sj hu pins s σ H _ _ v u Q I rx ry ⟨_,_,gf h1,gf h2,PySem.W.shaped_ints ns,PySem.W.shaped_ints ms,?_⟩
 simp only[PyData.eqv,PySem.W.ked_eqvAll]
 exact q
theorem xb (hu:X.A.units + 64 < cLine):dW X (compareOp .NotEq) (O6 X.K):=by
 intro pins s σ H x y v u Q I rx ry h
 obtain⟨p,q,ns,ms,rfl,rfl,h1,h2,q⟩:=h
 refine kT hu pins s σ H _ _ v u Q I rx ry ⟨_,_,gf h1,gf h2,PySem.W.shaped_ints ns,PySem.W.shaped_ints ms,?_⟩
 simp only[PyData.eqv,PySem.W.ked_eqvAll]
 exact q
noncomputable def O7 (K:Frag):List V->Hp->VK->Prop:=fun xs H Q =>
 (∃ i,xs=[.int i, .ty "int"]/\Q (.bl true) H)∨(∃ i,xs=[.int i, .ty "bool"]/\Q (.bl false) H)∨(∃ p ys,xs=[.ref p, .ty "list"]/\y6 K H p ys/\Q (.bl true) H)∨(∃ p ys,xs=[.ref p, .ty "tuple"]/\yD K H p ys/\Q (.bl true) H)
theorem mJ:cE X (.builtin "isinstance") (O7 X.K):=by
 intro pins s σ H xs us Q I r h
 rcases h with ⟨i,rfl,q⟩ | ⟨i,rfl,q⟩ | ⟨p,ys,rfl,hq,q⟩ | ⟨p,ys,rfl,hq,q⟩
 ·cases r with
  | cons r1 r2 =>
   cases r2 with
   | cons r2 r3 =>
    cases r3
    obtain⟨t,rfl⟩:=r1
    cases r2
    exact IsiPair.int_int ⟨.bl true,H,I,rfl,q⟩
 ·cases r with
  | cons r1 r2 =>
   cases r2 with
   | cons r2 r3 =>
    cases r3
    obtain⟨t,rfl⟩:=r1
    cases r2
    exact IsiPair.int_bool ⟨.bl false,H,I.tok _,rfl,q⟩
 ·cases r with
  | cons r1 r2 =>
   cases r2 with
   | cons r2 r3 =>
    cases r3
    cases r1
    cases r2
    obtain⟨y9,rv,⟨o,n,e,hc,_⟩,_⟩:=I.list hq
    exact IsiPair.list_list e hc ⟨.bl true,H,I,rfl,q⟩
 ·cases r with
  | cons r1 r2 =>
   cases r2 with
   | cons r2 r3 =>
    cases r3
    cases r1
    cases r2
    obtain⟨y9,rv,⟨o,e,hc,_⟩,_⟩:=I.tuple hq
    exact IsiPair.tuple_tuple e hc ⟨.bl true,H,I,rfl,q⟩
theorem va:M1 X "int.bit_length" (fun x xs H Q=>∃ i,x = .int i/\xs=[]/\Q (.int (Builtin.Int.intBits i:Nat)) H):=by
 intro pins s σ H x xs v us Q I rx rv h
 obtain⟨i,rfl,rfl,q⟩:=h
 obtain⟨t,rfl⟩:=rx
 cases rv
 exact call_int_bit_length ⟨.int _,H,I.tok _,⟨_,rfl⟩,q⟩
theorem Inv.same {pins:List (Addr × Obj)}{σ:St}{H:Hp}{s s':Shared}(I:Inv X pins σ H s)(k:∀ b o,s.heap.get? b=some o->s'.heap.get? b=some o)(g:s'.gens=s.gens)(ho:s'.os=s.os):Inv X pins σ H s':=by
 obtain⟨hh,gg,dd,tt,oo⟩:=s'
 simp only at k g ho
 subst g
 subst ho
 have J:Inv X pins σ H { s with heap:=hh,toks:=tt }:=I.kept k
 exact⟨J.ok,J.os,J.bare,J.base,J.loc,J.cell,J.free,J.zo,J.pin,J.yE,J.len⟩
theorem jr (hc:X.calm=true):cE X (.builtin "all") (fun xs H Q=>∃ (p:Addr)(bs:List Bool),xs=[.ref p]/\y6 X.K H p (bs.map V.bl)/\Q (.bl (bs.all id)) H):=by
 intro pins s σ H xs us Q I r h
 obtain⟨p,bs,rfl,hq,q⟩:=h
 obtain⟨u,rfl,rx⟩:=j8 r
 cases rx
 obtain⟨y9,rv,pl,hz⟩:=I.list hq
 have hlen:=rv.length
 rw[length_map]at hlen
 have yR:p < s.heap.objs.size:=by obtain⟨o,n,e,_⟩:=pl;exact lt_size e
 have T5:∀ (i:Nat)(v:Value),y9.toArray[i]? = some v->v=Value.bool (bs.getD i false):=fun i v hv=>by
  have DL:y9[i]? = some v:=by simpa using hv
  have hi:i < bs.length:=by rw[hlen];exact(gQ0 DL)
  obtain⟨u,hu,ru⟩:=rv.get (i:=i) (x := .bl bs[i]) (by simp[hi])
  rw[DL]at hu
  cases hu
  rw[getD_eq_getElem?_getD,getElem?_eq_getElem hi]
  exact ru
 have hh1:X.A.in1.handled=none:=I.ok.hd hc
 refine call_all_walkS (wpAny_pyIter_list pl.isList ⟨s.heap.objs.size,[s.heap.objs.size,p],[s.heap.objs.size],fun a b=>b=a,y9.toArray.size,fun i v=>y9.toArray[i]? = some v,_,fun i=>bs.getD i false,rfl,
  (Walks.list hh1 _ p (ne_of_lt yR) y9.toArray).toS,⟨⟨_,Heap.get?_push_size _ rfl,rfl,rfl⟩,pl.isList.push _⟩,fun i v s1 Q1 E1 hv hq1=>?_,fun s' hm=>?_⟩)
 ·rw[T5 i v hv]
  exact wpAny_truthy_bool hq1
 ·have I1:Inv X pins σ H { s with heap:=s.heap.push { cls := .type "list_iterator",data := .fields #[.ref p, .int 0 0] } }:=I.kept (t':=s.toks) fun b o e=>Heap.get?_push_of_some _ e
  refine⟨.bl _,H,I.same (fun b o e=>hm.heap b o (fun hb=>?_) (Heap.get?_push_of_some _ e)) hm.gens hm.os,rfl,?_⟩
  ·have An:b=s.heap.objs.size:=by simpa using hb
   exact absurd (lt_size e) (by rw[An];exact lt_irrefl _)
  ·have e:((List.range y9.toArray.size).all fun i=>bs.getD i false)=bs.all id:=by
    rw[size_toArray,← hlen]
    clear T5 hlen hq rv q
    have:(List.range bs.length).map (fun i=>bs.getD i false)=bs:=by
     apply List.ext_getElem
     ·simp
     ·intro i h1 h2
      simp[h2]
    conv=>rhs;rw[← this]
    rw[all_map]
    rfl
   rw[e]
   exact q
end
section
variable {M:Model}{A:Around}{E:Value->Shared->Prop}{s:Shared}
end
section
variable {X:Cx}{pins:List (Addr × Obj)}{σ:St}{H:Hp}{s:Shared}
end
section
variable {prog:Program}{w:World}{A:Around}{E:Value->Shared->Prop}{s:Shared}{K:Frag}{x C:Addr}{ox:Obj}{name:Str}{v:Value}
open PySem.W in
open PySem.W in
end
end L2
namespace PySem
section
variable {prog:Program}{w:World}{A:Around}{E:Value->Shared->Prop}{h:Heap}{g:Array GenState}{d:Drawn}{t:Nat}{os:OsState}
variable {nm q:Str}{C N:Addr}{bs bm bmB:List Value}{O8:Bool}{sn:List Str}{sub:List Value}{ab:Bool}{col:Option Bool}{dd:Option Addr}{k0 k1 k2 k3 k5:Option Value}{B newId O9:String}
end
section
variable {M:Model}{A:Around}{E:Value->Shared->Prop}{env:Env}
variable {nm q:Str}{C N:Addr}{bs bm:List Value}{O8:Bool}{sn:List Str}{sub:List Value}{ab:Bool}{col:Option Bool}{dd:Option Addr}{k0 k1 k2 k3 k5:Option Value}{newId:String}
end
end PySem
namespace L2
open PySem PySem.Spec PyProof.Rows
section
variable {X:Cx}{C f:Addr}{x:Str}{p pos apos:Pos}{e:Expr}{es:List Expr}{t:TA}
end
section
variable {prog:Program}{w:World}{A:Around}{E:Value->Shared->Prop}{s:Shared}{K:Frag}{x C:Addr}{ox:Obj}{od:Option Obj}{name:Str}{v:Value}
open PySem.W in
open PySem.W in
end
section
variable {X:Cx}{pins:List (Addr × Obj)}{σ:St}{H:Hp}{s:Shared}{ea:Addr}{oe:Obj}
end
section
variable {X:Cx}{o e value:Expr}{f:Str}{pos pos':Pos}{ta tv:TE}
end
section
variable {P:Program}{w:World}{K:Frag}{mg:Str->Option Value}{base:Heap}
end
section
variable {X:Cx}{k:Nat}{f C:Addr}{fd:FuncData}{ps:List Str}{sp:Sp}{zH:List V}{ds:List Value}{x m:Str}{p pos apos:Pos}{e o:Expr}{es:List Expr}{ta:TE}{t:TA}
end
section
variable {X:Cx}{e:Expr}{t:St->Hp->VK->XK->Prop}{pos Bw:Pos}{n:Str}{i:Nat}
end
section
variable {M:Model}{A:Around}{E:Value->Shared->Prop}{s:Shared}
end
end L2
namespace PySem
open Sem (wp)
open AutoSeq1 (wpAny_loadPart')
theorem dL (l:Addr)(items:Array Value)(n:Nat)(OA:Option Addr)(sl:Array (Option Value)) :
  Meets (Builtin.«enumerate.__new__» ⟨[.type "enumerate", .ref l],[]⟩) (fun _ R s=>s.heap.get? l=some { cls := .type "tuple",dict:=OA,data := .seq items n,slots:=sl } /\
   R (.ok (.ret (.ref (s.heap.push { cls := .type "tuple_iterator",data := .fields #[.ref l, .int 0 0] }).objs.size)))
    { s with heap:=(s.heap.push { cls := .type "tuple_iterator",data := .fields #[.ref l, .int 0 0] }).push { cls := .type "enumerate",data := .fields #[.none, .bool false, .ref s.heap.objs.size,rawInt 0, .none, .none] } }) :=
 .of_wp fun prog w A R s h=>by
  obtain⟨hp,g,d,tk,os⟩:=s;obtain⟨hl,h⟩:=h
  have hsub:=sub_enumerate
  have hL:Heap.IsTuple (Shared.heap ⟨hp,g,d,tk,os⟩) l items:=⟨_,hl,rfl,n,rfl⟩
  wp_walk using wpAny_loadPart' hl
  refine wpAny_stack_any fun st=>wpAny_pure ?_
  split
  ·rename_i c _ _ _ _ _
   cases (c == Value.type "enumerate")
   ·wp_walk using wpAny_loadPart' hl,wpAny_pyIter_tuple hL
    exact⟨_,rfl,h⟩
   ·wp_walk using wpAny_loadPart' hl,wpAny_pyIter_tuple hL
    exact⟨_,rfl,h⟩
  ·wp_walk using wpAny_loadPart' hl,wpAny_pyIter_tuple hL
   exact⟨_,rfl,h⟩
section
variable {prog:Program}{w:World}{A:Around}{E:Value->Shared->Prop}{s:Shared}
theorem dM {l:Addr}{items:Array Value}{Q:Value->Shared->Prop}(hL:s.heap.IsTuple l items)
  (h:∀ h',IsEnum h' (s.heap.objs.size + 1) s.heap.objs.size 0 .none->h'.IsTupleIter s.heap.objs.size l 0->h'.objs.size=s.heap.objs.size + 2 ->
   (∀ b o,s.heap.get? b=some o->h'.get? b=some o)->Q (.ref (s.heap.objs.size + 1)) { s with heap:=h' }) :
  wpAny (model prog w) A (call (.type "enumerate") [.ref l]) Q E s:=by
 obtain⟨⟨c,OA,dt,sl⟩,hl,hc,n,hd⟩:=hL
 replace hc:c = .type "tuple":=hc
 replace hd:dt = .seq items n:=hd
 subst hc hd
 refine callType_new F.called_enumerate (by decide) (F.typeCall_enumerate_1 _) (F.newCall_enumerate_1 _) (fun obj=>F.args_object_init_2 obj _) F.entry_enumerate_new
  (dL l items n OA sl) ⟨hl,?_⟩
 have hz:(s.heap.push { cls := .type "tuple_iterator",data := .fields #[.ref l, .int 0 0] }).objs.size=s.heap.objs.size + 1:=size_push ..
 show _/\_
 rw[hz]
 have he:IsEnum ((s.heap.push { cls := .type "tuple_iterator",data := .fields #[.ref l, .int 0 0] }).push
   { cls := .type "enumerate",data := .fields #[.none, .bool false, .ref s.heap.objs.size,rawInt 0, .none, .none] }) (s.heap.objs.size + 1) s.heap.objs.size 0 .none:=by
  have:=Heap.get?_push_size (s.heap.push { cls := .type "tuple_iterator",data := .fields #[.ref l, .int 0 0] })
   (o:={ cls := .type "enumerate",data := .fields #[.none, .bool false, .ref s.heap.objs.size,rawInt 0, .none, .none] }) rfl
  rw[hz]at this;exact this
 refine⟨⟨_,he,rfl⟩,h _ he ⟨_,Heap.get?_push_of_some _ (Heap.get?_push_size _ rfl),rfl,rfl⟩ (by rw[size_push,hz]) fun b o x=>Heap.get?_push_of_some _ (Heap.get?_push_of_some _ x)⟩
theorem eV {it l:Addr}{i:Nat} {items} {x:Value} {Q:Value->Shared->Prop} (hit:s.heap.IsTupleIter it l i)
  (hl:s.heap.IsTuple l items) (hx:items[i]? = some x)
  (hQ:∀ h',h'.IsTupleIter it l (i + 1)->Heap.SameBut it s.heap h'->Q x { s with heap:=h' }) :
  wpAny (model prog w) A (Builtin.SmallTypes.nextOf (.ref it)) Q E s:=by
 obtain⟨o,ho,hc,hd⟩:=id hit
 obtain⟨ol,M7,_,nl,CU⟩:=hl
 unfold Builtin.SmallTypes.nextOf
 refine wpAny_bind (wpAny_callSpecial?_slot (name:=Str.ofString "__next__") hit.typeIs F.slot_tuple_iterator_next
  (wpAny_call_entry F.slot_tuple_iterator_next hit.typeIs F.entry_tuple_iterator_next ?_ (F.args_tuple_iterator_next_1 _)))
 show wpAny _ _ (field (.ref it) 0 >>= _) _ _ s
 refine wpAny_bind (wpAny_field ho hd (x := .ref l) rfl ?_)
 show wpAny _ _ (if (Value.ref l == Value.none)=true then _ else _) _ _ s
 rw[if_neg (show ¬ ((Value.ref l == Value.none)=true) from Bool.false_ne_true)]
 show wpAny _ _ (field (.ref it) 1 >>= _) _ _ s
 refine wpAny_bind (wpAny_field ho hd (x := .int i 0) rfl ?_)
 show wpAny _ _ (seqItems? (.ref l) >>= _) _ _ s
 refine wpAny_bind (wpAny_seqItems M7 CU ?_)
 simp only[toNat_natCast,hx]
 refine wpAny_bind (wpAny_setField ho hd (by simp) (wpAny_pure ⟨x,rfl,wpAny_pure (hQ _ ?_ (Heap.SameBut.update ..))⟩))
 exact⟨_,Heap.get?_update_self _ ho (Obj.isFreed_of_fields (Obj.data_mapFields hd _)),(Obj.cls_mapFields ..).trans hc,by
  rw[Obj.data_mapFields hd];simp[rawInt]⟩
theorem fB {it l:Addr}{i:Nat} {items} {Q:Value->Shared->Prop} (hh:A.handled=none)
  (hit:s.heap.IsTupleIter it l i) (hl:s.heap.IsTuple l items) (hx:items[i]? = none)
  (hE:∀ h' e,Heap.ExtBut it s.heap h'->(∃ o,h'.get? e=some o/\o.cls = .type "StopIteration")->E (.ref e) { s with heap:=h' }) :
  wpAny (model prog w) A (Builtin.SmallTypes.nextOf (.ref it)) Q E s:=by
 obtain⟨o,ho,hc,hd⟩:=id hit
 obtain⟨ol,M7,_,nl,CU⟩:=hl
 unfold Builtin.SmallTypes.nextOf
 refine wpAny_bind (wpAny_callSpecial?_slot (name:=Str.ofString "__next__") hit.typeIs F.slot_tuple_iterator_next
  (wpAny_call_entry F.slot_tuple_iterator_next hit.typeIs F.entry_tuple_iterator_next ?_ (F.args_tuple_iterator_next_1 _)))
 show wpAny _ _ (field (.ref it) 0 >>= _) _ _ s
 refine wpAny_bind (wpAny_field ho hd (x := .ref l) rfl ?_)
 show wpAny _ _ (if (Value.ref l == Value.none)=true then _ else _) _ _ s
 rw[if_neg (show ¬ ((Value.ref l == Value.none)=true) from Bool.false_ne_true)]
 show wpAny _ _ (field (.ref it) 1 >>= _) _ _ s
 refine wpAny_bind (wpAny_field ho hd (x := .int i 0) rfl ?_)
 show wpAny _ _ (seqItems? (.ref l) >>= _) _ _ s
 refine wpAny_bind (wpAny_seqItems M7 CU ?_)
 simp only[toNat_natCast,hx]
 refine wpAny_bind (wpAny_rule (wpAny_bind (wpAny_setField ho hd (by simp) ?_)))
 show wpAny _ _ (newExc (.type "StopIteration") [] >>= _) _ _ _
 refine wpAny_bind ?_
 simp only[newExc,newTuple]
 refine wpAny_bind (wpAny_newObj_type ?_ (by size_fits))
 refine wpAny_bind (m:=firstArgMember _ _) (wpAny_of_eq (a:=Value.none) (by first | rfl | (simp only[firstArgMember];rfl)) ?_)
 refine wpAny_newObj_type ?_ (by size_fits)
 simp only[raiseNew]
 refine wpAny_bind (wpAny_handled ?_)
 first | rw[show A.in1.handled=none from hh] | rw[hh]
 refine wpAny_bind (wpAny_pure (wpAny_throw ?_))
 exact hE _ _ (((Heap.SameBut.update ..).extBut.push _).push _) ⟨_,Heap.get?_push_size _ rfl,rfl⟩
end
theorem eX {prog:Program}{w:World}{A:Around}(hh:A.handled=none)(it l:Addr)(BE:l ≠ it)(items:Array Value) :
  Draws prog w A it [it,l] items.size (fun i v=>items[i]? = some v) (fun i h=>h.IsTupleIter it l i/\h.IsTuple l items) where
 live:=fun _ _ st=>let ⟨o,ho,_⟩:=st.1; ⟨o,ho⟩
 frame:=fun _ _ _ st hk=>⟨st.1.at fun o e=>hk it (by simp) o e,let ⟨o,ho,r⟩:=st.2; ⟨o,hk l (by simp) o ho,r⟩⟩
 item:=fun i s Q E hi st hQ=>by
  refine eV st.1 st.2 (x:=items[i]) (by simp[hi]) fun h' OB M8=>?_
  exact hQ _ h' s.toks (by simp[hi]) ⟨OB,let ⟨o,ho,r⟩:=st.2; ⟨o,M8.extBut l o BE ho,r⟩⟩ M8
 done:=fun s Q E st hE=>fB hh st.1 st.2 (by simp) hE
end PySem
namespace L2
open PySem PySem.Spec PyProof.Rows
section
variable {X:Cx}{pins:List (Addr × Obj)}{σ:St}{H:Hp}{s:Shared}
theorem Inv.F0 {h':Heap}{t':Nat}{a b p:Addr}{xs:List V}{us:List Value}(I:Inv X pins σ H s)(fa:eW X pins H a)(fb:eW X pins H b)(hp:s.heap.objs.size <= p)
  (k:∀ c o,c ≠ a->c ≠ b->s.heap.get? c=some o->h'.get? c=some o) (ka:∃ o,h'.get? a=some o) (kb:∃ o,h'.get? b=some o) (hl:xs.length <= sizeLine) (r:Vals xs us) (ht:zF h' p us.toArray) :
  Inv X pins σ (upd H p (.tup xs)) { s with heap:=h',toks:=t' }:=by
 have hf:H p=none:=I.yE.fresh hp
 have nt:∀ c u,H c=some u->c ≠ p:=fun c u q z=>by rw[z,hf]at q;cases q
 have lt:∀ c o,s.heap.get? c=some o->c ≠ p:=fun c o q=>ne_of_lt (lt_of_lt_of_le (lt_size q) hp)
 have ne:∀ c,c ∉ [a,b]->c ≠ a/\c ≠ b:=fun c hc=>by simpa using hc
 refine I.call (g':=s.gens) (d':=s.drawn) (ch:=[a,b]) ⟨fun c o e n h1 h2=>k c o (ne c h2).1 (ne c h2).2 e,fun c o e n h1 h2=>⟨o.slots,k c o (ne c h2).1 (ne c h2).2 e⟩,fun c o e n h2=>by rw[af (lt c o e)];exact n,
  fun c o e h2=>⟨o,k c o (ne c h2).1 (ne c h2).2 e⟩,fun c ys q=>by rw[af (nt c _ q)];exact q,fun c o u q=>by rw[af (nt c _ q)];exact q,fun c ps q=>⟨#[],by rw[af (nt c _ q),q];simp⟩⟩ (fun c u q=>?_) I.bare fun c hc=>?_
 ·by_cases hc:c=p
  ·subst hc
   rw[ac]at q
   cases q
   exact⟨hl,us,r,ht⟩
  ·rw[af hc]at q
   refine(I.yE c u q).Af (fun d v hd z=>?_) (fun d z=>by rw[af (nt d _ z)];exact z) fun d ys z=>by rw[af (nt d _ z)];exact z
   have nd:∀ e,H e=none->d ≠ e:=fun e he w=>by
    rcases hd with rfl | hd
    ·rw[w,he]at q;cases q
    ·rw[w,he]at hd;cases hd
   exact k d v (nd a fa.1) (nd b fb.1) z
 ·have CL:c=a∨c=b:=by simpa using hc
  rcases CL with rfl | rfl
  ·obtain⟨_,f1,_,f3,f4,f5⟩:=fa;exact⟨f3,f1,f4,f5⟩
  ·obtain⟨_,f1,_,f3,f4,f5⟩:=fb;exact⟨f3,f1,f4,f5⟩
theorem Inv.Cd {h':Heap}{t':Nat}{a b:Addr}(I:Inv X pins σ H s)(fa:eW X pins H a)(fb:eW X pins H b)
  (k:∀ c o,c ≠ a->c ≠ b->s.heap.get? c=some o->h'.get? c=some o):Inv X pins σ H { s with heap:=h',toks:=t' }:=by
 have ne:∀ c,c ∉ [a,b]->c ≠ a/\c ≠ b:=fun c hc=>by simpa using hc
 refine I.call (g':=s.gens) (d':=s.drawn) (ch:=[a,b]) ⟨fun c o e n h1 h2=>k c o (ne c h2).1 (ne c h2).2 e,fun c o e n h1 h2=>⟨o.slots,k c o (ne c h2).1 (ne c h2).2 e⟩,fun c o e n h2=>n,
  fun c o e h2=>⟨o,k c o (ne c h2).1 (ne c h2).2 e⟩,fun c ys q=>q,fun c o u q=>q,fun c ps q=>⟨#[],by rw[q];simp⟩⟩ (fun c u q=>?_) I.bare fun c hc=>?_
 ·refine(I.yE c u q).Af (fun d v hd z=>?_) (fun d z=>z) fun d ys z=>z
  have nd:∀ e,H e=none->d ≠ e:=fun e he w=>by
   rcases hd with rfl | hd
   ·rw[w,he]at q;cases q
   ·rw[w,he]at hd;cases hd
  exact k d v (nd a fa.1) (nd b fb.1) z
 ·have CL:c=a∨c=b:=by simpa using hc
  rcases CL with rfl | rfl
  ·obtain⟨_,f1,_,f3,f4,f5⟩:=fa;exact⟨f3,f1,f4,f5⟩
  ·obtain⟨_,f1,_,f3,f4,f5⟩:=fb;exact⟨f3,f1,f4,f5⟩
theorem jM {e it:Addr}{fp:List Addr}{n i:Nat}{P:Nat->Value->Prop}{Sx:Nat->Heap->Prop}{old:Value}{xs:List V}{E:Value->Shared->Prop}{elts:List Expr}{kk:Nat}{pos:Pos}
  (D:Draws X.prog X.w X.A.in1 it fp n P Sx) (I:Inv X pins σ H s) (he:IsEnum s.heap e it i old) (Bp:Sx i s.heap) (yR:i < n) (BE:e ≠ it) (T6:e ∉ fp) (fe:eW X pins H e) (fi:eW X pins H it)
  (hP:∀ v,P i v->∃ x,xs[i]? = some x/\RelV x v) :
  wpAny (model X.prog X.w) X.A (pyNext (.ref e)) (fun r s1=>∃ u,r=some u/\wpAny (model X.prog X.w) X.A (letOwnedTupleGo (.Tuple elts kk pos) (.ref e) u) (fun _ s2=>∃ p x,xs[i]? = some x/\H p=none/\u = .ref p /\
   Inv X pins σ (upd H p (.tup [.int i,x])) s2/\(∃ old,IsEnum s2.heap e it ((i + 1:Nat):Int) old)/\Sx (i + 1) s2.heap/\p ≠ e/\p ≠ it) E s1) E s:=by
 refine wpAny_pyNext_enum_itemD D he Bp yR BE T6 fun x h' tk hx ho M8 hT hsz hk=>⟨_,rfl,?_⟩
 refine wpAny_letOwnedTupleGo_enum ho fun h2 DV Cp=>?_
 obtain⟨y,hy,ry⟩:=hP x hx
 have T7:e < s.heap.objs.size:=lt_size he
 have hie:it < s.heap.objs.size:=by obtain⟨_,z⟩:=D.live _ _ Bp;exact lt_size z
 have Jd:Sx (i + 1) h2:=D.frame _ _ _ M8 fun b hb o z=>(Cp.2 b fun q=>T6 (q ▸ hb)).trans z
 refine⟨s.heap.objs.size,y,hy,I.yE.fresh (le_refl _),rfl,?_,⟨x,by simpa using DV⟩,Jd,ne_of_gt T7,ne_of_gt hie⟩
 refine Inv.F0 (s:=s) (h':=h2) (t':=tk + 1) I fe fi (le_refl _) (fun c o h1 M9 z=>(Cp.2 c h1).trans (hk c o h1 M9 z)) ⟨_,DV⟩ (let ⟨o,z⟩:=D.live _ _ Jd; ⟨o,z⟩) (by show 2 <= sizeLine;decide) (us:=[.int i tk,x]) (.cons ⟨tk,rfl⟩ (.cons ry .nil)) ?_
 exact⟨_,(Cp.2 _ (ne_of_gt T7)).trans hT,⟨rfl,_,rfl⟩,rfl⟩
end
noncomputable def yy (sq:Hp->List V->Prop):It :=
 ⟨fun i H=>∃ xs x,sq H xs/\xs[i]? = some x,fun i H v H'=>∃ p,H p=none/\v = .ref p/\∀ xs,sq H xs->∃ x,xs[i]? = some x/\H' = upd H p (.tup [.int i,x]),fun i H=>∃ xs,sq H xs/\xs.length=i⟩
theorem mX {P:Program}{w:World}{K:Frag}{elts:List Expr}{kk:Nat}{pos:Pos}(a e it:Addr)(BE:e ≠ it):oC P w K (.Tuple elts kk pos) (yy fun H=>y6 K H a) [e,it] e (fun i h=>(∃ old,IsEnum h e it (i:Int) old)/\h.IsListIter it a i) where
 mem:=by simp
 obj:=fun i h st b hb=>by
  obtain⟨⟨old,he⟩,o,ho,c,d⟩:=st
  have An:b=e∨b=it:=by simpa using hb
  rcases An with rfl | rfl
  ·exact⟨_,he,fun v z=>by have z':Data.fields _=Data.cell v:=z;cases z'⟩
  ·exact⟨o,ho,fun v z=>by rw[d]at z;cases z⟩
 keep:=fun i h h' st k=>by
  obtain⟨⟨old,he⟩,hi⟩:=st
  exact⟨⟨old,k e (by simp) _ he⟩,hi.at fun o z=>k it (by simp) o z⟩
 item:=by
  intro X hP hw hK hc i pins s σ H E I hf st hg
  subst hP hw hK
  obtain⟨xs,x,hq,hx⟩:=hg
  obtain⟨y9,rv,p,hz⟩:=I.list hq
  obtain⟨⟨old,he⟩,hi⟩:=st
  have hl:i < y9.toArray.size:=by
   have:=(gQ0 hx)
   have l2:=rv.length
   simp;omega
  have OC:e ≠ a:=by
   rintro rfl
   obtain⟨o,ho,CV,_⟩:=p.isList
   rw[he]at ho;cases ho
   injection CV with z;exact absurd z (by decide)
  have F1:a ≠ it:=by
   rintro rfl
   obtain⟨o,ho,CV,_⟩:=p.isList
   obtain⟨o2,zO,AV,_⟩:=hi
   rw[ho]at zO;cases zO;rw[CV]at AV
   injection AV with z;exact absurd z (by decide)
  refine b5 (jM (xs:=xs) (Draws.list (A:=X.A.in1) (I.ok.hd hc) it a F1 y9.toArray) I he ⟨hi,p.isList⟩ hl BE (by simp only[mem_cons,not_mem_nil,or_false,not_or];exact⟨BE,OC⟩) (hf e (by simp)) (hf it (by simp)) fun v hv=>?_) fun r s1 ⟨u,hr,h1⟩=>⟨u,hr,b5 h1 fun _ s2 ⟨q,y,hy,OD,hu,I2,DV,Cp,n1,n2⟩=>?_⟩
  ·obtain⟨u,hu,ru⟩:=rv.get hx
   have e1:y9[i]? = some v:=by simpa using hv
   rw[hu]at e1;cases e1
   exact⟨x,hx,ru⟩
  ·refine⟨.ref q,_,I2,hu,⟨q,OD,rfl,fun zs BF=>⟨y,by rw[I.Bv BF hq];exact hy,rfl⟩⟩,⟨DV,Cp.1⟩,fun b hb=>?_⟩
   have An:b=e∨b=it:=by simpa using hb
   rcases An with rfl | rfl
   ·rw[af (Ne.symm n1)];exact(hf b (by simp)).1
   ·rw[af (Ne.symm n2)];exact(hf b (by simp)).1
 done:=by
  intro X hP hw hK hc i pins s σ H E I hf st hg
  subst hP hw hK
  obtain⟨xs,hq,hx⟩:=hg
  obtain⟨y9,rv,p,hz⟩:=I.list hq
  obtain⟨⟨old,he⟩,hi⟩:=st
  have hl:i=y9.toArray.size:=by have l2:=rv.length;simp;omega
  have F1:a ≠ it:=by
   rintro rfl
   obtain⟨o,ho,CV,_⟩:=p.isList
   obtain⟨o2,zO,AV,_⟩:=hi
   rw[ho]at zO;cases zO;rw[CV]at AV
   injection AV with z;exact absurd z (by decide)
  refine wpAny_pyNext_enum_endD (Draws.list (A:=X.A.in1) (I.ok.hd hc) it a F1 y9.toArray) he (by rw[← hl];exact⟨hi,p.isList⟩) fun h' Bz=>⟨rfl,?_⟩
  exact I.Cd (t':=s.toks) (hf e (by simp)) (hf it (by simp)) fun c o h1 h2 z=>Bz c o h2 z
 self:=fun _ _ _ _ _ st h=>by
  obtain⟨⟨old,he⟩,_⟩:=st
  exact wpAny_pyIter_enum he h
theorem mW {P:Program}{w:World}{K:Frag}{elts:List Expr}{kk:Nat}{pos:Pos}(a e it:Addr)(BE:e ≠ it):oC P w K (.Tuple elts kk pos) (yy fun H=>yD K H a) [e,it] e (fun i h=>(∃ old,IsEnum h e it (i:Int) old)/\h.IsTupleIter it a i) where
 mem:=by simp
 obj:=fun i h st b hb=>by
  obtain⟨⟨old,he⟩,o,ho,c,d⟩:=st
  have An:b=e∨b=it:=by simpa using hb
  rcases An with rfl | rfl
  ·exact⟨_,he,fun v z=>by have z':Data.fields _=Data.cell v:=z;cases z'⟩
  ·exact⟨o,ho,fun v z=>by rw[d]at z;cases z⟩
 keep:=fun i h h' st k=>by
  obtain⟨⟨old,he⟩,hi⟩:=st
  exact⟨⟨old,k e (by simp) _ he⟩,hi.at fun o z=>k it (by simp) o z⟩
 item:=by
  intro X hP hw hK hc i pins s σ H E I hf st hg
  subst hP hw hK
  obtain⟨xs,x,hq,hx⟩:=hg
  obtain⟨y9,rv,p,hz⟩:=I.tuple hq
  have pt:s.heap.IsTuple a y9.toArray:=p
  obtain⟨⟨old,he⟩,hi⟩:=st
  have hl:i < y9.toArray.size:=by
   have:=(gQ0 hx)
   have l2:=rv.length
   simp;omega
  have OC:e ≠ a:=by
   rintro rfl
   obtain⟨o,ho,CV,_⟩:=pt
   rw[he]at ho;cases ho
   injection CV with z;exact absurd z (by decide)
  have F1:a ≠ it:=by
   rintro rfl
   obtain⟨o,ho,CV,_⟩:=pt
   obtain⟨o2,zO,AV,_⟩:=hi
   rw[ho]at zO;cases zO;rw[CV]at AV
   injection AV with z;exact absurd z (by decide)
  refine b5 (jM (xs:=xs) (eX (A:=X.A.in1) (I.ok.hd hc) it a F1 y9.toArray) I he ⟨hi,pt⟩ hl BE (by simp only[mem_cons,not_mem_nil,or_false,not_or];exact⟨BE,OC⟩) (hf e (by simp)) (hf it (by simp)) fun v hv=>?_) fun r s1 ⟨u,hr,h1⟩=>⟨u,hr,b5 h1 fun _ s2 ⟨q,y,hy,OD,hu,I2,DV,Cp,n1,n2⟩=>?_⟩
  ·obtain⟨u,hu,ru⟩:=rv.get hx
   have e1:y9[i]? = some v:=by simpa using hv
   rw[hu]at e1;cases e1
   exact⟨x,hx,ru⟩
  ·refine⟨.ref q,_,I2,hu,⟨q,OD,rfl,fun zs BF=>⟨y,by rw[I.AU BF hq];exact hy,rfl⟩⟩,⟨DV,Cp.1⟩,fun b hb=>?_⟩
   have An:b=e∨b=it:=by simpa using hb
   rcases An with rfl | rfl
   ·rw[af (Ne.symm n1)];exact(hf b (by simp)).1
   ·rw[af (Ne.symm n2)];exact(hf b (by simp)).1
 done:=by
  intro X hP hw hK hc i pins s σ H E I hf st hg
  subst hP hw hK
  obtain⟨xs,hq,hx⟩:=hg
  obtain⟨y9,rv,p,hz⟩:=I.tuple hq
  have pt:s.heap.IsTuple a y9.toArray:=p
  obtain⟨⟨old,he⟩,hi⟩:=st
  have hl:i=y9.toArray.size:=by have l2:=rv.length;simp;omega
  have F1:a ≠ it:=by
   rintro rfl
   obtain⟨o,ho,CV,_⟩:=pt
   obtain⟨o2,zO,AV,_⟩:=hi
   rw[ho]at zO;cases zO;rw[CV]at AV
   injection AV with z;exact absurd z (by decide)
  refine wpAny_pyNext_enum_endD (eX (A:=X.A.in1) (I.ok.hd hc) it a F1 y9.toArray) he (by rw[← hl];exact⟨hi,pt⟩) fun h' Bz=>⟨rfl,?_⟩
  exact I.Cd (t':=s.toks) (hf e (by simp)) (hf it (by simp)) fun c o h1 h2 z=>Bz c o h2 z
 self:=fun _ _ _ _ _ st h=>by
  obtain⟨⟨old,he⟩,_⟩:=st
  exact wpAny_pyIter_enum he h
section
variable {X:Cx}{elts:List Expr}{kk:Nat}{Bw p pos:Pos}{a:Expr}{ta:TE}
noncomputable def OE (K:Frag)(t:TA):TI:=fun σ H R=>t σ H fun vs H1=>∃ a,vs=[.ref a]/\(∃ xs,y6 K H1 a xs)/\R (yy fun H=>y6 K H a) H1
noncomputable def OF (K:Frag)(t:TA):TI:=fun σ H R=>t σ H fun vs H1=>∃ a,vs=[.ref a]/\(∃ xs,yD K H1 a xs)/\R (yy fun H=>yD K H a) H1
theorem lL {t:TA}(hg:Gl X "enumerate")(hm:X.mg "enumerate" = none)(ha:PA X [a] t)(hs:autoParam (starEach [a] X.env=[(false,eval a X.env)]) η):PI X (.Tuple elts kk Bw) (.Call (.Name "enumerate" p) [a] [] pos) (OE X.K t):=by
 intro pins s σ H R I h
 refine Call_ (eC I hg hm boot_enumerate (PyProof.Rows.callWith_type1 (b5 (ha pos pins s σ H _ I h) fun us s1 y8=>?_) hs rfl))
 obtain⟨vs,H1,I1,r1,q1⟩:=y8
 obtain⟨l,e,⟨xs,hq⟩,q⟩:=q1
 subst e
 cases r1 with
 | cons r rr =>
  cases rr
  cases r
  obtain⟨y9,rv,pp,hz⟩:=I1.list hq
  refine call_enumerate_list pp.isList fun h' he hit hsz hk=>?_
  have I2:Inv X pins σ H1 { s1 with heap:=h' }:=I1.kept (t':=s1.toks) hk
  refine wpAny_pyIter_enum (s:={ s1 with heap:=h' }) he ?_
  refine⟨_,_,_,_,H1,rfl,I2,mX l _ s1.heap.objs.size (Nat.succ_ne_self _),⟨⟨_,he⟩,hit⟩,fun b hb=>?_,q⟩
  have An:b=s1.heap.objs.size + 1∨b=s1.heap.objs.size:=by simpa using hb
  have hle:s1.heap.objs.size <= b:=by
   rcases An with e | e
   ·rw[e];exact le_succ _
   ·rw[e];exact le_refl _
  exact I1.CM hle (I1.yE.fresh hle)
theorem lK {t:TA}(hg:Gl X "enumerate")(hm:X.mg "enumerate" = none)(ha:PA X [a] t)(hs:autoParam (starEach [a] X.env=[(false,eval a X.env)]) η):PI X (.Tuple elts kk Bw) (.Call (.Name "enumerate" p) [a] [] pos) (OF X.K t):=by
 intro pins s σ H R I h
 refine Call_ (eC I hg hm boot_enumerate (PyProof.Rows.callWith_type1 (b5 (ha pos pins s σ H _ I h) fun us s1 y8=>?_) hs rfl))
 obtain⟨vs,H1,I1,r1,q1⟩:=y8
 obtain⟨l,e,⟨xs,hq⟩,q⟩:=q1
 subst e
 cases r1 with
 | cons r rr =>
  cases rr
  cases r
  obtain⟨y9,rv,pp,hz⟩:=I1.tuple hq
  refine dM (show s1.heap.IsTuple l y9.toArray from pp) fun h' he hit hsz hk=>?_
  have I2:Inv X pins σ H1 { s1 with heap:=h' }:=I1.kept (t':=s1.toks) hk
  refine wpAny_pyIter_enum (s:={ s1 with heap:=h' }) he ?_
  refine⟨_,_,_,_,H1,rfl,I2,mW l _ s1.heap.objs.size (Nat.succ_ne_self _),⟨⟨_,he⟩,hit⟩,fun b hb=>?_,q⟩
  have An:b=s1.heap.objs.size + 1∨b=s1.heap.objs.size:=by simpa using hb
  have hle:s1.heap.objs.size <= b:=by
   rcases An with e | e
   ·rw[e];exact le_succ _
   ·rw[e];exact le_refl _
  exact I1.CM hle (I1.yE.fresh hle)
end
theorem mq {sq:Hp->List V->Prop}{xs:List V}{g:TG}{tb:TS}{D:mR}{σ:St}{H:Hp}(Pv:Nat->St->Hp->Prop)(h0:Pv 0 σ H)(hl:∀ i σ H,i <= xs.length->Pv i σ H->sq H xs)
  (hs:∀ i x p σ H,xs[i]? = some x->Pv i σ H->H p=none->g (.ref p) σ (upd H p (.tup [.int i,x])) fun σ2 H2=>tb { D with nx:=Pv (i + 1),ct:=Pv (i + 1),bk:=D.nx } σ2 H2) (hd:∀ σ H,Pv xs.length σ H->D.nx σ H) :
  ∃ W:Nat->Nat->St->Hp->Prop,(∃ m,W 0 m σ H)/\∀ i m σ H,W i m σ H ->
   ((yy sq).stop i H/\D.nx σ H)∨((yy sq).go i H/\∃ N:St->Hp->Prop,(∀ σ' H',N σ' H'->∃ m',m' < m/\W (i + 1) m' σ' H')/\∀ x H',(yy sq).DK i H x H'->g x σ H' fun σ2 H2=>tb { D with nx:=N,ct:=N,bk:=D.nx } σ2 H2):=by
 refine⟨fun i m σ H=>m=xs.length - i/\i <= xs.length/\Pv i σ H,⟨xs.length,by simp,zero_le _,h0⟩,?_⟩
 rintro i m σ H ⟨rfl,hi,p⟩
 have q:=hl i σ H hi p
 by_cases yR:i < xs.length
 ·refine .inr ⟨⟨xs,xs[i],q,by simp[yR]⟩,Pv (i + 1),fun σ' H' p'=>⟨xs.length - (i + 1),by omega,rfl,yR,p'⟩,fun x H' y=>?_⟩
  obtain⟨pp,hn,rfl,hx⟩:=y
  obtain⟨x',Bz,e⟩:=hx xs q
  subst e
  exact hs i x' pp σ H Bz p hn
 ·have e:i=xs.length:=by omega
  subst e
  exact .inl ⟨⟨xs,q,rfl⟩,hd σ H p⟩
noncomputable def AW (d:PyData)(m:Nat):Prop:=d.canLay0=true/\d.depth <= m
theorem AW.shaped {d:PyData}{m:Nat}(h:AW d m)(hm:m <= 64):SeqAt.shaped d=true:=by
 unfold SeqAt.shaped
 rw[h.1,decide_eq_true (le_trans h.2 hm)];rfl
theorem eK (i:Int):AW (.int i) 0:=⟨by simp[PyData.canLay0],by simp[PyData.depth]⟩
theorem kC {m:Nat}:∀ {ds:List PyData},(∀ d ∈ ds,AW d m)->PyData.canLayAll0 ds=true/\PyData.depthAll ds <= m
 | [],_=>⟨by simp[PyData.canLayAll0],by simp[PyData.depthAll]⟩
 | d :: r,h=>by
  obtain⟨a,b⟩:=kC (ds:=r) fun z hz=>h z (mem_cons_of_mem _ hz)
  obtain⟨c,e⟩:=h d mem_cons_self
  exact⟨by simp[PyData.canLayAll0,c,a],by simp only[PyData.depthAll];omega⟩
theorem iJ {m:Nat}{ds:List PyData}(h:∀ d ∈ ds,AW d m):AW (.list ds) (m + 1):=by
 obtain⟨a,b⟩:=kC h
 exact⟨by simp[PyData.canLay0,a],by simp only[PyData.depth];omega⟩
theorem eJ {m:Nat}{ds:List PyData}(h:∀ d ∈ ds,AW d m):AW (.tuple ds) (m + 1):=by
 obtain⟨a,b⟩:=kC h
 exact⟨by simp[PyData.canLay0,a],by simp only[PyData.depth];omega⟩
theorem AW.le {d:PyData}{m n:Nat}(h:AW d m)(l:m <= n):AW d n:=⟨h.1,le_trans h.2 l⟩
end L2
namespace L2
open PySem
theorem mD {n:Nat}{lo:Int}{g:TG}{tt:TT}{te:TE}{σ0:St}{H:Hp}{Q:VK}(p:Nat->Bool)(f:Nat->V)(hn:n < sizeLine)
  (hs:∀ (i:Nat)(acc:List V)(N:List V->Hp->Prop),i < n->N (if p i then acc ++ [f i] else acc) H->g (.int (lo + i)) σ0 H fun σ2 H2=>tt σ2 H2 fun b H3=>if b=true then te σ2 H3 fun y H4=>N (acc ++ [y]) H4 else N acc H3)
  (hq:∀ D,H D=none->Q (.ref D) (upd H D (.lst (((List.range n).filter p).map f)))) :
  dB (vB lo n) g tt te σ0 Q H:=by
 refine⟨fun i m acc H'=>m=n - i/\i <= n/\H' = H/\acc=((List.range i).filter p).map f,⟨n,by simp,zero_le _,rfl,rfl⟩,?_⟩
 rintro i m acc H' ⟨rfl,hi,rfl,rfl⟩
 have hl:(((List.range i).filter p).map f).length < sizeLine:=by
  rw[length_map]
  have:=length_filter_le p (List.range i)
  rw[length_range]at this
  omega
 refine⟨hl,?_⟩
 by_cases yR:i < n
 ·refine .inr ⟨yR,fun zg H2=>H2=H'/\zg = ((List.range (i + 1)).filter p).map f,fun zg H2 y8=>by obtain⟨h1,h2⟩:=y8;exact⟨n - (i + 1),by omega,rfl,yR,h1,h2⟩,fun x H2 y=>?_⟩
  obtain⟨e,y⟩:=y
  subst e y
  refine hs i _ (fun zg H3=>H3=H2/\zg = ((List.range (i + 1)).filter p).map f) yR ⟨rfl,?_⟩
  rw[range_succ,filter_append]
  cases hp:p i with
  | true=>simp[hp]
  | false=>simp[hp]
 ·have e:i=n:=by omega
  subst e
  exact .inl ⟨le_refl _,hq⟩
theorem gj {K:Frag}{a:Addr}{xs:List V}{g:TG}{tt:TT}{te:TE}{σ0:St}{H:Hp}{Q:VK}(p:V->Bool)(f:V->V)(hn:xs.length < sizeLine)(ha:y6 K H a xs)
  (hs:∀ (x:V)(acc:List V)(N:List V->Hp->Prop),x ∈ xs->N (if p x then acc ++ [f x] else acc) H->g x σ0 H fun σ2 H2=>tt σ2 H2 fun b H3=>if b=true then te σ2 H3 fun y H4=>N (acc ++ [y]) H4 else N acc H3)
  (hq:∀ D,H D=none->Q (.ref D) (upd H D (.lst ((xs.filter p).map f)))) :
  dB (tY K a) g tt te σ0 Q H:=by
 refine⟨fun i m acc H'=>m=xs.length - i/\i <= xs.length/\H' = H/\acc=((xs.take i).filter p).map f,⟨xs.length,by simp,zero_le _,rfl,rfl⟩,?_⟩
 rintro i m acc H' ⟨rfl,hi,rfl,rfl⟩
 have hl:(((xs.take i).filter p).map f).length < sizeLine:=by
  rw[length_map]
  have h1:=length_filter_le p (xs.take i)
  have h2:=length_take_le i xs
  omega
 refine⟨hl,?_⟩
 by_cases yR:i < xs.length
 ·refine .inr ⟨⟨xs,xs[i],ha,by simp[yR]⟩,fun zg H2=>H2=H'/\zg = ((xs.take (i + 1)).filter p).map f,fun zg H2 y8=>by obtain⟨h1,h2⟩:=y8;exact⟨xs.length - (i + 1),by omega,rfl,yR,h1,h2⟩,fun x H2 y=>?_⟩
  obtain⟨e,y⟩:=y
  subst e
  have hx:=y xs ha
  refine hs x _ (fun zg H3=>H3=H2/\zg = ((xs.take (i + 1)).filter p).map f) (mem_of_getElem? hx) ⟨rfl,?_⟩
  rw[take_succ,hx,filter_append]
  cases hp:p x with
  | true=>simp[hp]
  | false=>simp[hp]
 ·have e:i=xs.length:=by omega
  subst e
  rw[take_length]
  exact .inl ⟨⟨xs,ha,le_refl _⟩,hq⟩
theorem lh (k:Int):∀ ns:List Int,Hm (.int k) (ns.map V.int)=decide (k ∈ ns)
 | []=>by simp[Hm]
 | n :: r=>by
  have ih:=lh k r
  unfold Hm at ih ⊢
  rw[map_cons,any_cons,ih]
  show((n == k) || decide (k ∈ r))=decide (k ∈ n :: r)
  by_cases h:k=n
  ·subst h;simp
  ·have h':¬ n=k:=fun z=>h z.symm
   simp[h,h']
theorem gJ:∀ ns:List Int,(ns.map V.int).all ge=true
 | []=>rfl
 | n :: r=>by rw[map_cons,all_cons,gJ r];rfl
open PySem.Spec PyProof.Rows
section
open PySem.W
variable {prog:Program}{w:World}{A:Around}{E:Value->Shared->Prop}{s:Shared}{K:Frag}{x C:Addr}{name:Str}{v:Value}
end
section
variable {X:Cx}{o e value:Expr}{f:Str}{pos pos':Pos}{ta tv:TE}
end
end L2
namespace L2
open PySem
noncomputable def p6:Option Int->Value->Bool
 | none,v=>v == .none
 | some k,v=>Value.isInt k v
noncomputable def uy:Option Int->Int
 | none=>4238894112
 | some k=>hashInt k
theorem bQ {k:Option Int}{v:Value}(h:p6 k v=true):(k=none/\v = .none)∨∃ i t,k=some i/\v = .int i t:=by
 cases k with
 | none=>exact .inl ⟨rfl,eq_of_beq h⟩
 | some i=>obtain⟨t,e⟩:=Value.isInt_shape h;exact .inr ⟨i,t,rfl,e⟩
section
variable {prog:Program}{w:World}{A:Around}{E:Value->Shared->Prop}{s:Shared}
theorem qy {Q:Int->Shared->Prop}(h:Q 4238894112 { s with toks:=s.toks + 1 }):wpAny (model prog w) A (pyHash .none) Q E s:=by
 have hT:s.TypeIs .none "NoneType":=rfl
 unfold pyHash
 have hv:[Value.none].any Value.onHeap=false:=rfl
 refine wpAny_bind ?_
 rw[cRoomFor,if_neg (by rw[hv];exact Bool.false_ne_true)];refine wpAny_pure ?_
 refine wpAny_bind (wpAny_specialOf hT F.slot_NoneType_hash.lookup ?_)
 show wpAny _ _ (if (some (Value.builtin "NoneType.__hash__") == some Value.none)=true then _ else _) Q E s
 rw[if_neg (by rw[beq_builtin_none];exact Bool.false_ne_true)]
 refine wpAny_bind (wpAny_specialOf hT F.slot_NoneType_hash.lookup ?_)
 show wpAny _ _ (callSpecialIfBoundUnlessNone? .none "__hash__" _ >>= _) Q E s
 refine wpAny_bind (wpAny_callSpecialIfBoundUnlessNone?_slot hT F.slot_NoneType_hash (wpAny_call_entry F.slot_NoneType_hash hT F.entry_NoneType_hash
  (show wpAny _ _ (do ret (← mkInt 4238894112)) _ _ s from wpAny_ret_mkInt ?_) (F.args_NoneType_hash_1 _)))
 exact wpAny_pure h
theorem yg {a b:Option Int}{u v:Value}{Q:Bool->Shared->Prop}(hu:p6 a u=true)(hv:p6 b v=true)(h:Q (decide (a=b)) s):wpAny (model prog w) A (PySem.eqBool u v) Q E s:=by
 rcases bQ hu with ⟨rfl,rfl⟩ | ⟨i,t,rfl,rfl⟩<;>rcases bQ hv with ⟨rfl,rfl⟩ | ⟨j,t',rfl,rfl⟩
 ·unfold eqBool
  refine wpAny_holding ?_
  refine wpAny_ite_split (fun _=>wpAny_bind (wpAny_rule (wpAny_pure (by simpa using h)))) (fun n=>absurd rfl n)
 ·exact PySem.SeqAt.EqAt.none_int j t' prog w E Q (by simpa using h)
 ·exact PySem.SeqAt.EqAt.int_none i t prog w E Q (by simpa using h)
 ·refine wpAny_eqBool_int ?_
  have e:(i == j)=decide (some i=some j):=by
   by_cases q:i=j
   ·simp[q]
   ·simp[q]
  rw[e];exact h
end
noncomputable def bT (prog:Program)(w:World):KeyKind prog w (Option Int) where
 is:=p6
 hash:=uy
 inj:=fun v a b ha hb=>by
  rcases bQ ha with ⟨rfl,rfl⟩ | ⟨i,t,rfl,rfl⟩<;>rcases bQ hb with ⟨rfl,e⟩ | ⟨j,t',rfl,e⟩
  ·rfl
  ·cases e
  ·cases e
  ·cases e;rfl
 byValue:=fun k v h=>by
  rcases bQ h with ⟨_,rfl⟩ | ⟨i,t,_,rfl⟩<;>rfl
 pyHash:=fun {A E s k v Q} hv h=>by
  rcases bQ hv with ⟨rfl,rfl⟩ | ⟨i,t,rfl,rfl⟩
  ·exact qy h
  ·exact wpAny_pyHash_int h
 eqBool:=fun hu hv h=>yg hu hv h
 «strs»:=fun k x t v h=>by
  rcases bQ h with ⟨_,e⟩ | ⟨i,t,_,e⟩<;>cases e
open PySem.Spec PyProof.Rows
abbrev fN:=List (Option Int)
noncomputable def nP:Option Int->V
 | none => .yK
 | some i => .int i
abbrev cC:=fN × Addr × V
abbrev jv (p:cC)(q:fN × Addr × Value):Prop:=p.1=q.1/\p.2.1=q.2.1/\RelV p.2.2 q.2.2
noncomputable def yz (P:Program)(w:World)(a:Addr)(kvs:List cC):Heap->Prop:=fun h=>kvs.length <= sizeLine/\(a == sysModules)=false/\∃ xs,Paired jv kvs xs /\
 ∃ o es ep,h.get? a=some o/\o.ExactDict/\o.data = .dict es ep/\es.toList=xs.map (entryOfKey (tupleKind (bT P w)))/\(xs.map (·.1)).Nodup
noncomputable def mS (P:Program)(w:World)(a:Addr)(kvs:List cC):HO := .ext (yz P w a kvs)
noncomputable def zp (P:Program)(w:World)(H:Hp)(a:Addr)(kvs:List cC):Prop:=H a=some (mS P w a kvs)/\∀ x ∈ kvs,H x.2.1=some (.tup (x.1.map nP))
theorem zp.same {P:Program}{w:World}{H H':Hp}{a:Addr}{kvs:List cC}(h:zp P w H a kvs)(s:y1 H H'):zp P w H' a kvs:=⟨s _ _ h.1,fun x hx=>s _ _ (h.2 x hx)⟩
noncomputable def cP (kvs:List cC)(k:fN):Option V:=(kvs.find? fun x=>decide (x.1=k)).map (·.2.2)
noncomputable def pV (k:fN)(v:V)(x:cC):cC:=if x.1=k then (x.1,x.2.1,v) else x
noncomputable def gB (kvs:List cC)(k:fN)(b:Addr)(v:V):List cC:=if (cP kvs k).isSome then kvs.map (pV k v) else kvs ++ [(k,b,v)]
theorem i4 {k:fN}:cP [] k=none:=rfl
theorem cn {x:cC}{kvs:List cC}{k:fN}:cP (x :: kvs) k=if x.1=k then some x.2.2 else cP kvs k:=by
 unfold cP
 rw[find?_cons]
 by_cases h:x.1=k
 ·rw[decide_eq_true h,if_pos h];rfl
 ·rw[decide_eq_false h,if_neg h]
theorem qP {kvs:List cC}{k k':fN}{v:V}:cP (kvs.map (pV k v)) k' = if k' = k then (cP kvs k).map (fun _=>v) else cP kvs k':=by
 induction kvs with
 | nil=>rw[map_nil,i4,i4];split<;>rfl
 | cons x kvs ih =>
  rw[map_cons,cn,ih,cn,cn]
  unfold pV
  by_cases h:x.1=k<;>by_cases h':k' = k
  ·have:x.1=k':=h.trans h'.symm
   simp[h,h']
  ·have:¬ x.1=k':=fun z=>h' (z.symm.trans h)
   rw[if_pos h,if_neg h',if_neg this,if_neg this,if_neg h']
  ·subst h'
   simp[h]
  ·simp[h,h']
theorem lz {kvs:List cC}{k k':fN}{b:Addr}{v:V}(h:cP kvs k=none):cP (kvs ++ [(k,b,v)]) k' = if k' = k then some v else cP kvs k':=by
 induction kvs with
 | nil =>
  rw[nil_append,cn,i4]
  by_cases e:k' = k
  ·rw[if_pos e,if_pos e.symm]
  ·rw[if_neg e,if_neg (Ne.symm e)]
 | cons x kvs ih =>
  rw[cn]at h
  by_cases hx:x.1=k
  ·rw[if_pos hx]at h;cases h
  ·rw[if_neg hx]at h
   rw[List.cons_append,cn,ih h,cn]
   by_cases e:k' = k
   ·subst e;rw[if_neg hx,if_pos rfl,if_pos rfl]
   ·rw[if_neg e,if_neg e]
theorem qO {kvs:List cC}{k k':fN}{b:Addr}{v:V}:cP (gB kvs k b v) k' = if k' = k then some v else cP kvs k':=by
 unfold gB
 cases h:cP kvs k with
 | none=>rw[if_neg (by simp)];exact lz h
 | some u =>
  rw[if_pos (by simp),qP,h];rfl
theorem gP {kvs:List cC}{k:fN}{b:Addr}{v:V}:(gB kvs k b v).length <= kvs.length + 1:=by
 unfold gB
 split
 ·rw[length_map];omega
 ·rw[length_append];exact le_refl _
theorem pU {kvs:List cC}{k:fN}{b:Addr}{v:V}{F:fN->Addr->Prop}(h:∀ x ∈ kvs,F x.1 x.2.1)(hk:F k b):∀ x ∈ gB kvs k b v,F x.1 x.2.1:=by
 intro x hx
 unfold gB at hx
 split at hx
 ·obtain⟨y,hy,rfl⟩:=mem_map.mp hx
  unfold pV
  split
  ·exact h y hy
  ·exact h y hy
 ·rcases mem_append.mp hx with q | q
  ·exact h x q
  ·rw[mem_singleton.mp q];exact hk
theorem lp {kvs:List cC}{xs:List (fN × Addr × Value)}(r:Paired jv kvs xs)(k:fN):Aa (cP kvs k) ((atKey xs k).map (·.2)):=by
 induction r with
 | nil=>exact True.intro
 | @cons p q _ _ h1 _ ih =>
  rw[cn]
  unfold atKey at ih ⊢
  rw[find?_cons]
  by_cases e:p.1=k
  ·rw[if_pos e,decide_eq_true (h1.1.symm.trans e)];exact h1.2.2
  ·rw[if_neg e,decide_eq_false (fun z=>e (h1.1.trans z))];exact ih
theorem dq {o:Option V}{u:Option Value}(r:Aa o u):o.isSome=u.isSome:=by
 cases o<;>cases u<;>first | rfl | exact r.elim
theorem pT {o:Option V}{u:Option Value}{d:V}{r:Value}(h:Aa o u)(hd:RelV d r):RelV (o.getD d) (u.getD r):=by
 cases o<;>cases u<;>first | exact hd | exact h | exact h.elim
theorem vo {kvs:List cC}{xs:List (fN × Addr × Value)}{k:fN}{v:V}{u:Value}(r:Paired jv kvs xs)(hv:RelV v u):Paired jv (kvs.map (pV k v)) (xs.map (putAt k u)):=by
 induction r with
 | nil=>exact .nil
 | @cons p q _ _ h1 _ ih =>
  refine .cons ?_ ih
  unfold pV putAt
  by_cases e:p.1=k
  ·rw[if_pos e,if_pos (h1.1.symm.trans e)];exact⟨h1.1,h1.2.1,hv⟩
  ·rw[if_neg e,if_neg (fun z=>e (h1.1.trans z))];exact h1
theorem tG {kvs:List cC}{xs:List (fN × Addr × Value)}{p:cC}{q:fN × Addr × Value}(r:Paired jv kvs xs)(h:jv p q):Paired jv (kvs ++ [p]) (xs ++ [q]):=by
 induction r with
 | nil=>exact .cons h .nil
 | cons h1 _ ih=>exact .cons h1 ih
theorem vn {kvs:List cC}{xs:List (fN × Addr × Value)}{k:fN}{b:Addr}{v:V}{u:Value}(r:Paired jv kvs xs)(hv:RelV v u):Paired jv (gB kvs k b v) (storedH xs k b u):=by
 have h:=dq (lp r k)
 rw[Option.isSome_map]at h
 unfold gB storedH
 rw[h]
 split
 ·exact vo r hv
 ·exact tG r ⟨rfl,rfl,hv⟩
section
variable {P:Program}{w:World}{H:Hp}{h:Heap}{a b:Addr}{kvs:List cC}{k:fN}
theorem gF:∀ {k:fN}{us:List Value},Vals (k.map nP) us->ItemsAre (bT P w) k us
 | [],_, .nil => .nil
 | none :: _,_, .cons r t => .cons (by have e:_=Value.none:=r;subst e;rfl) (gF t)
 | some i :: _,_, .cons r t => .cons (by obtain⟨tk,e⟩:=(show ∃ t,_=Value.int i t from r);subst e;exact beq_self_eq_true i) (gF t)
theorem iq (ok:Ab P w H h)(e:H b=some (.tup (k.map nP))):(tupleKind (bT P w)).is h k b:=by
 obtain⟨_,y9,r,o,ho,⟨hc,n,hd⟩,_⟩:=ok _ _ e
 exact⟨o,y9.toArray,n,ho,hc,hd,gF r⟩
theorem i0 (ok:Ab P w H h)(e:zp P w H a kvs):kvs.length <= sizeLine/\(a == sysModules)=false/\∃ xs,Paired jv kvs xs/\h.DictOfH (tupleKind (bT P w)) a xs:=by
 obtain⟨e,ek⟩:=e
 obtain⟨⟨z,hs,xs,r,o,es,ep,h1,h2,h3,h4,h5⟩,_⟩:=ok _ _ e
 refine⟨z,hs,xs,r,o,es,ep,h1,h2,h3,h4,?_,h5⟩
 have all:∀ {kvs:List cC}{xs:List (fN × Addr × Value)},Paired jv kvs xs->(∀ x ∈ kvs,H x.2.1=some (.tup (x.1.map nP)))->∀ x ∈ xs,(tupleKind (bT P w)).is h x.1 x.2.1:=by
  intro kvs xs r
  induction r with
  | nil=>intro _ x hx;cases hx
  | @cons p q _ _ h1 _ ih =>
   intro hk x hx
   rcases mem_cons.mp hx with rfl | hx
   ·have:=hk p mem_cons_self
    rw[h1.1,h1.2.1]at this
    exact iq ok this
   ·exact ih (fun y hy=>hk y (mem_cons_of_mem _ hy)) x hx
 exact all r ek
theorem jN (h1 h2:Heap)(p:yz P w a kvs h1)(st:∀ o,h1.get? a=some o->h2.get? a=some o):yz P w a kvs h2:=by
 obtain⟨z,hs,xs,r,o,es,ep,q,c⟩:=p
 exact⟨z,hs,xs,r,o,es,ep,st _ q,c⟩
theorem tK (hb:sysModules < h.objs.size):yU P w H (h.push { cls := .type "dict",data := .dict #[] }) h.objs.size (mS P w h.objs.size []) :=
 ⟨⟨zero_le _,beq_eq_false_iff_ne.mpr (Ne.symm (ne_of_lt hb)),[], .nil,_,#[],0,Heap.get?_push_size _ rfl,⟨rfl,rfl,rfl⟩,rfl,rfl,nodup_nil⟩,⟨_,Heap.get?_push_size _ rfl⟩,fun _ _=>jN _ _⟩
end
noncomputable def v8 (P:Program)(w:World)(H:Hp)(a:Addr)(y:V)(r:Option V):Prop:=∃ kvs k b,zp P w H a kvs/\y = .ref b/\H b=some (.tup (k.map nP))/\r=cP kvs k
section
variable {X:Cx}{pins:List (Addr × Obj)}{σ:St}{H:Hp}{s:Shared}{a b:Addr}{y v d:V}{u r:Value}{o:Option V}{A:Around}{E:Value->Shared->Prop}
theorem tT (I:Inv X pins σ H s):sysModules < s.heap.objs.size :=
 Nat.lt_trans (by decide) (show mainGlobals < s.heap.objs.size from (I.mod.glob.keeps I.bk).lt)
theorem OG {Q:Value->Shared->Prop}(hu:A.units + 1 < cLine)(I:Inv X pins σ H s)(g:v8 X.prog X.w H a y o)(ry:RelV y u)(h:∀ s',Inv X pins σ H s'->Q (.bool o.isSome) s') :
  wpAny (model X.prog X.w) A (compareOp .In u (.ref a)) Q E s:=by
 obtain⟨kvs,k,b,e,rfl,eb,rfl⟩:=g
 cases (show u=Value.ref b from ry)
 obtain⟨_,hd,xs,rel,dd⟩:=i0 I.yE e
 refine wpAny_in_heap (tupleKind_room_in1 hu) (iq I.yE eb) hd dd ?_
 have q:=dq (lp rel k)
 rw[Option.isSome_map]at q
 rw[← q]
 exact h _ (I.tok _)
theorem xE {Q:Value->Shared->Prop}(hu:A.units + 1 < cLine)(I:Inv X pins σ H s)(g:v8 X.prog X.w H a y o)(ry:RelV y u)(rd:RelV d r)(h:∀ w' s',Inv X pins σ H s'->RelV (o.getD d) w'->Q w' s') :
  wpAny (model X.prog X.w) A (call (.builtin "dict.get") [.ref a,u,r]) Q E s:=by
 obtain⟨kvs,k,b,e,rfl,eb,rfl⟩:=g
 cases (show u=Value.ref b from ry)
 obtain⟨_,hd,xs,rel,dd⟩:=i0 I.yE e
 exact call_meetsIn PySem.F.slot_dict_get dd.typeIs PySem.F.entry_dict_get (PySem.F.args_dict_get_3 _ _ _) (meetsH_dict_get_default (tupleKind (bT X.prog X.w)) a b hd r)
  ⟨tupleKind_room_in1 hu,k,xs,iq I.yE eb,dd,h _ _ (I.tok _) (pT (lp rel k) rd)⟩
theorem Je {kvs:List cC}{k:fN}{Q:Unit->Shared->Prop}(hu:A.units + 1 < cLine)(I:Inv X pins σ H s)(e:zp X.prog X.w H a kvs)(eb:H b=some (.tup (k.map nP)))(hl:kvs.length < sizeLine)(rv:RelV v r)
  (h:∀ s',Inv X pins σ (upd H a (mS X.prog X.w a (gB kvs k b v))) s'->Q () s'):wpAny (model X.prog X.w) A (setItem (.ref a) (.ref b) r) Q E s:=by
 obtain⟨z,hd,xs,rel,dd⟩:=i0 I.yE e
 have hz:xs.length <= sizeLine:=by rw[← Paired.length rel];exact z
 have Ag:(gB kvs k b v).length <= sizeLine:=le_trans gP hl
 refine wpAny_setItem_heap (hsz:=hz) (tupleKind_room_in1 hu) (iq I.yE eb) dd fun h' Jf hs=>h _ ?_
 obtain⟨q,es,ep,hq,h2,h3,h4,_,h5⟩:=Jf
 exact I.write (x:=a) (e:=a) (by rw[e.1];exact True.intro) (.inl rfl) (fun c q hc z=>(hs.2 c hc).trans z) ⟨q,hq⟩
  ⟨⟨Ag,hd,_,vn rel rv,q,es,ep,hq,h2,h3,h4,h5⟩,⟨q,hq⟩,fun _ _=>jN _ _⟩
theorem qB {kvs:List cC}(I:Inv X pins σ H s)(e:zp X.prog X.w H a kvs):s.TypeIs (.ref a) "dict"/\∀ b,Value.ref a = .ref b->∃ ob,s.heap.get? b=some ob/\ob.dict=none:=by
 obtain⟨_,_,xs,_,dd⟩:=i0 I.yE e
 refine⟨dd.typeIs,fun b q=>?_⟩
 cases q
 obtain⟨ob,_,_,h1,h2,_⟩:=dd
 exact⟨ob,h1,h2.2.1⟩
end
noncomputable def vD (P:Program)(w:World):TE:=fun _ H Q=>∀ p,H p=none->Q (.ref p) (upd H p (mS P w p []))
noncomputable def OH (P:Program)(w:World)(ty td:TE):TE:=fun σ H Q=>ty σ H fun y H1=>td σ H1 fun x H2=>∃ a o,x = .ref a/\v8 P w H2 a y o/\Q (.bl o.isSome) H2
noncomputable def Jg (P:Program)(w:World)(td ty tv:TE):TS:=fun D σ H=>tv σ H fun v H1=>td σ H1 fun x H2=>ty σ H2 fun y H3=>∃ a kvs k b,x = .ref a/\zp P w H3 a kvs/\y = .ref b/\H3 b=some (.tup (k.map nP))/\kvs.length < sizeLine/\D.nx σ (upd H3 a (mS P w a (gB kvs k b v)))
noncomputable def wn (P:Program)(w:World)(td:TE)(t:TA):TE:=fun σ H Q=>td σ H fun x H1=>∃ a kvs,x = .ref a/\zp P w H1 a kvs/\t σ H1 fun xs H2=>∃ y z o,xs=[y,z]/\v8 P w H2 a y o/\Q (o.getD z) H2
section
variable {X:Cx}{o i e f value:Expr}{pos pos' apos zr:Pos}{td ty tv tx:TE}
theorem uw:PE X (.Dict [] [] pos) (vD X.prog X.w):=fun pins s σ H Q I h =>
 wpAny_Dict_empty ⟨.ref s.heap.objs.size,_,I.laid (a:=s.heap.objs.size) (o:=mS X.prog X.w s.heap.objs.size []) (t':=s.toks) (fun _ _ q=>Heap.get?_push_of_some _ q) (le_refl _) (tK (tT I)),rfl,h _ (I.yE.fresh (le_refl _))⟩
theorem wY (hu:X.A.units + 1 < cLine)(hi:PE X i ty)(ho:PE X o td):PC X .In i o (OH X.prog X.w ty td):=by
 intro pins s σ H Q I h
 refine b5 (hi pins s σ H _ I h) fun iv s1 ⟨y,H1,I1,ry,q1⟩=>b5 (ho pins s1 σ H1 _ I1 q1) fun u s2 y8=>?_
 obtain⟨x,H2,I2,rx,a,ov,ex,g,q2⟩:=y8
 subst ex
 obtain rfl:u=Value.ref a:=rx
 exact OG hu I2 g ry fun s3 I3=>⟨.bl ov.isSome,H2,I3,rfl,q2⟩
theorem uu (hu:X.A.units + 1 < cLine)(ho:PE X o td)(hi:PE X i ty)(hv:PE X value tv)(hs:swapsWith value (some (.Subscript o i pos')) pos.line X.env=pure false) :
  PS X (.Assign [.Subscript o i pos'] value pos) (Jg X.prog X.w td ty tv):=by
 intro pins s σ H D I h
 refine wpAny_Assign_Subscript (b5 (hv pins s σ H _ I h) fun r s1 ⟨v,H1,I1,rv,q1⟩=>b5 (ho pins s1 σ H1 _ I1 q1) fun u s2 ⟨x,H2,I2,rx,q2⟩=>b5 (hi pins s2 σ H2 _ I2 q2) fun iv s3 y8=>?_) hs
 obtain⟨y,H3,I3,ry,a,kvs,k,b,ex,e,ey,eb,hl,q3⟩:=y8
 subst ex ey
 obtain rfl:u=Value.ref a:=rx
 obtain rfl:iv=Value.ref b:=ry
 exact Je hu I3 e eb hl rv fun s4 I4=>⟨σ,_,I4,q3⟩
theorem sf {es:List Expr}{t:TA}(hu:X.A.units + 1 < cLine)(ho:PE X o td)(ha:PA X (e :: es) t)
  (h1:autoParam (attributeBase o "get" X.env (eval o X.env)=eval o X.env) η)
  (h2:autoParam (((backTo zr (starEach (e :: es) X.env)).all (fun x=>!x.1) && (backToKw zr (keywordEach [] X.env)).all (fun x=>x.1.isSome) && decide ((e :: es).length + ([]:List Keyword).length + (if ([]:List Keyword).isEmpty then 0 else 1) < 30))=true) η)
  (h3:autoParam ((apos.endLine == zr.line)=true) η) (h4:autoParam (starEach (e :: es) X.env=(false,eval e X.env) :: starEach es X.env) η) (h5:autoParam ((backTo zr (starEach es X.env)).any (·.1)=false) η) :
  PE X (.Call (.Attribute o "get" apos) (e :: es) [] zr) (wn X.prog X.w td t):=by
 intro pins s σ H Q I h
 refine wpAny_Call_method_late h1 h2 h3 rfl (b5 (ho pins s σ H _ I h) fun v s1 y8=>?_)
 obtain⟨x,H1,I1,r1,a,kvs,ex,e1,q1⟩:=y8
 subst ex
 obtain rfl:v=Value.ref a:=r1
 obtain⟨t1,t2⟩:=qB I1 e1
 refine⟨"dict", "dict.get",PySem.F.plainAttrs_dict,PySem.F.slot_dict_get,PySem.F.type_dict_get,t1,t2,?_⟩
 have hA:=ha zr pins s1 σ H1 _ I1 q1
 rw[h4]at hA ⊢
 refine Calls.callWith_builtin (by show(false || (backTo zr (starEach es X.env)).any (·.1))=false;rw[h5]<;>rfl) (Calls.evalArgs_plain ?_)
 refine b5 hA fun us s2 y8=>?_
 obtain⟨vs,H2,I2,r2,y,z,ov,evs,g,q2⟩:=y8
 subst evs
 cases r2 with
 | cons ry r2=>cases r2 with
  | cons rz r2=>cases r2 with
   | nil=>exact xE hu I2 g ry rz fun w' s4 I4 DP=>⟨_,H2,I4,DP,q2⟩
end
structure wk (K:Frag)(C:Addr)(m:Str)(f:Addr):Prop where
 reads:PySem.W.readsIn K C (.type "type")=true
 found:PySem.W.findCls K (.ref C) (.type "type") m=some (.val (.ref f))
 spec:PySem.W.specialIn K (.ref C) "__getattribute__" = some (some (.builtin "type.__getattribute__"))
 kp:keepIn K (.ref f)=true
noncomputable def wt (C:Addr)(sp:Sp)(zH:List V)(E:XK)(ta:TE)(t:TA):TE:=fun σ H Q=>ta σ H fun x H1=>x = .ref C/\t σ H1 fun vs H2=>sp (vs ++ zH) H2 Q E
section
variable {X:Cx}{CX:pJ}{k:Nat}{f C:Addr}{fd:FuncData}{ps:List Str}{sp:Sp}{zH:List V}{ds:List Value}{E:XK}{x m:Str}{p pos apos:Pos}{e o:Expr}{es:List Expr}{ta:TE}{t:TA}
theorem sg {pl:Sem Bool}(he:PE X o ta)(hm:wk X.K C m f)(F:y2 X.prog X.w X.K X.mg X.base CX k f fd ps sp)(hr:yC k X.A)(hb:Binds X.K fd ps ds)(hd:Vals zH ds)(hx:eE CX X E)(ha:PA X (e :: es) t)
  (h1:autoParam (starEach (e :: es) X.env=(false,eval e X.env) :: starEach es X.env) η) (h2:autoParam ((backTo pos (starEach es X.env)).any (·.1)=false) η)
  (ht:eval (.Call (.Attribute o m apos) (e :: es) [] pos) X.env=(do
   let ov ← eval o X.env
   standAt apos.atName
   let (f,first) ← holding [ov] (getMethod ov m pl)
   callWith pos f first (backTo pos (starEach (e :: es) X.env)) (backToKw pos (keywordEach [] X.env))):=by rfl) :
  PE X (.Call (.Attribute o m apos) (e :: es) [] pos) (wt C sp zH E ta t):=by
 intro pins s σ H Q I h
 refine PySem.W.methodCall_KW (pl:=pl) (b5 (he pins s σ H _ I h) fun u s1 y8=>?_) ht
 obtain⟨x,H1,I1,rx,ex,q⟩:=y8
 subst ex
 obtain rfl:u=Value.ref C:=rx
 refine PySem.W.method_cls I1.Ae hm.spec (PySem.W.cls_value I1.Ae hm.reads hm.found rfl ?_)
 refine PySem.W.callWith_K (first:=[]) (h₀:=X.base) I.ok.mod.Dx hm.kp (b5 (ha pos pins _ σ H1 _ (I1.tok _) q) fun us s2 ⟨vs,H2,I2,r,q2⟩=>⟨I2.Ae,?_⟩) h1 h2
 exact kJ F hr hb hd hx I2 r q2
end
section
variable {X:Cx}
end
section
variable {X:Cx}{tg:Expr}
noncomputable def OI:V->List V->Hp->VK->Prop:=fun x vs H Q=>∃ (l:Addr)(ns:List Int)(k:Int),x = .ref l/\vs=[.int k]/\H l=some (.lst (ns.map V.int))/\k ∈ ns/\ns.length <= 100000/\Q (.int (ns.idxOf k:Nat)) H
theorem qk:M1 X "list.index" OI:=by
 intro pins s σ H x vs v us Q I rx rv h
 obtain⟨l,ns,k,rfl,rfl,hH,hk,hlen,q⟩:=h
 cases rx
 obtain⟨u,rfl,ru⟩:=rv.one
 obtain⟨t,rfl⟩:=ru
 obtain⟨z,y9,n,r,hl,e⟩:=I.BL hH
 have hi:IntsAre y9.toArray.toList ns:=oi r
 have B0:y9.length=ns.length:=by rw[← r.length,length_map]
 have hj:ns.idxOf k < ns.length:=List.idxOf_lt_length_of_mem hk
 have at_:∀ m (hm:m < y9.toArray.size),∃ t,y9.toArray[m]=Value.int (ns[m]'(by simpa [B0] using hm)) t:=fun m hm=>by
  have CW:m < y9.length:=by simpa using hm
  have hv:(ns.map V.int)[m]? = some (V.int (ns[m]'(by omega))):=by simp[show m < ns.length by omega]
  obtain⟨w',hw,DP⟩:=r.get hv
  obtain⟨t',rfl⟩:=DP
  refine⟨t',?_⟩
  have:y9[m]? = some y9[m]:=getElem?_eq_getElem CW
  rw[this]at hw
  simpa using Option.some.inj hw
 let e':Value->Bool:=fun y=>Value.isInt k y
 refine call_meets PySem.F.slot_list_index ⟨_,e,rfl⟩ PySem.F.entry_list_index (PySem.F.args_list_index_2 _ _)
  (SeqAt.list_indexAt l y9.toArray n none #[] (.int k t) e' (ns.idxOf k) (by simpa [B0] using hj) (by omega) ?_ ?_) ⟨e,fun y hy=>?_,?_⟩
 ·obtain⟨t',et⟩:=at_ (ns.idxOf k) (by simpa [B0] using hj)
  show Value.isInt k (y9.toArray[ns.idxOf k]'(by simpa [B0] using hj))=true
  rw[et,List.getElem_idxOf]
  simp[Value.isInt]
 ·intro m hm DW
  obtain⟨t',et⟩:=at_ m hm
  show Value.isInt k y9.toArray[m]=false
  rw[et]
  have BE:ns[m]'(by simpa [B0] using hm) ≠ k:=fun z=>by
   have:=List.not_of_lt_findIdx (p:=fun x=>x == k) (xs:=ns) (i:=m) DW
   rw[z]at this
   simp at this
  simp only[Value.isInt,beq_eq_false_iff_ne,ne_eq]
  first | exact BE | exact fun z=>BE z.symm
 ·have hm:y ∈ y9:=by simpa using hy
  obtain⟨m,CW,em⟩:=List.getElem_of_mem hm
  obtain⟨t',et⟩:=at_ m (by simpa using CW)
  have ey:y=Value.int (ns[m]'(by omega)) t':=by rw[← em];simpa using et
  subst ey
  intro prog w E Q' hQ'
  refine wpAny_eqBool_int ?_
  have:(ns[m]'(by omega) == k)=Value.isInt k (Value.int (ns[m]'(by omega)) t'):=by simp[Value.isInt,Bool.beq_comm]
  rw[this]
  exact hQ'
 ·exact⟨.int (ns.idxOf k:Nat),H,I.tok _,⟨_,rfl⟩,q⟩
noncomputable def Jh (K:Frag):List V->Hp->VK->Prop:=fun xs H Q=>∃ (v:V)(t:Value)(c:String)(b:Bool),xs=[v, .ty c]/\gN K H v t/\kitOne K t (.type c)=some b/\Q (.bl b) H
theorem gk:cE X (.builtin "isinstance") (Jh X.K):=by
 intro pins s σ H xs us Q I r h
 obtain⟨v,t,c,b,rfl,ty,hk,q⟩:=h
 cases r with
 | cons r1 r2=>cases r2 with
  | cons r2 r3 =>
   cases r3
   cases r2
   exact qu I r1 ty hk fun tk=>⟨.bl b,H,I.tok _,rfl,q⟩
end
section
variable {κ:Type} [DecidableEq κ]
end
section
variable {P:Program}{w:World}{H:Hp}{h:Heap}{a:Addr}
end
section
variable {X:Cx}{pins:List (Addr × Obj)}{σ:St}{H:Hp}{s:Shared}{a:Addr}{y v:V}{u r:Value}{o:Option V}{A:Around}{E:Value->Shared->Prop}
end
section
variable {X:Cx}{pins:List (Addr × Obj)}{σ:St}{H:Hp}{s:Shared}{a:Addr}{kvs:List (j6 × V)}{k:j6}{u:Value}{A:Around}{E:Value->Shared->Prop}
end
section
variable {X:Cx}{o i e value:Expr}{pos pos' Bw:Pos}{td ty tv:TE}
end
section
variable {X:Cx}{pos:Pos}
end
noncomputable def qU:List (TE × TE)->St->Hp->(List (V × V)->Hp->Prop)->Prop
 | [],_,H,Q=>Q [] H
 | (tk,tv) :: r,σ,H,Q=>tk σ H fun x H1=>tv σ H1 fun y H2=>qU r σ H2 fun ps H3=>Q ((x,y) :: ps) H3
abbrev VV:List (V × V)->List (Value × Value)->Prop:=Paired fun p q=>RelV p.1 q.1/\RelV p.2 q.2
noncomputable def OJ (X:Cx)(pos:Pos)(keys:List (Option Expr))(values:List Expr)(MA:List (TE × TE)):Prop :=
 ∀ (pins:List (Addr × Obj))(s:Shared)(σ:St)(H:Hp)(Q:List (V × V)->Hp->Prop),Inv X pins σ H s->qU MA σ H Q ->
  wpAny (model X.prog X.w) X.A (evalPairs (pairTrees keys values X.env pos)) (fun vs s'=>∃ ps H',Inv X pins σ H' s'/\VV ps vs/\Q ps H') X.xe s
theorem uv {X:Cx}{pos:Pos}:OJ X pos [] [] []:=fun pins s σ H Q I h=>pairTrees_nil_walk ⟨[],H,I, .nil,h⟩
theorem se {X:Cx}{pos:Pos}{k v:Expr}{ks:List (Option Expr)}{vs:List Expr}{tk tv:TE}{MA:List (TE × TE)}(hk:PE X k tk)(hv:PE X v tv)(hr:OJ X pos ks vs MA) :
  OJ X pos (some k :: ks) (v :: vs) ((tk,tv) :: MA):=fun pins s σ H Q I h =>
 pairTrees_cons_walk (b5 (hk pins s σ H _ I h) fun u s1 ⟨x,H1,I1,rx,q1⟩=>b5 (hv pins s1 σ H1 _ I1 q1) fun w2 s2 ⟨y,H2,I2,ry,q2⟩ =>
  b5 (hr pins s2 σ H2 _ I2 q2) fun ws s3 y8=>by obtain⟨ps,H3,I3,rel,q3⟩:=y8;exact⟨(x,y) :: ps,H3,I3, .cons ⟨rx,ry⟩ rel,q3⟩)
section
variable {X:Cx}{pins:List (Addr × Obj)}{σ:St}{H:Hp}{s:Shared}{a:Addr}{y d:V}{u r:Value}{o:Option V}{A:Around}{E:Value->Shared->Prop}
end
section
variable {X:Cx}{o e f:Expr}{apos zr:Pos}{td ty tx:TE}
end
section
variable {X:Cx}{pins:List (Addr × Obj)}{σ:St}{H:Hp}{s:Shared}{a:Addr}{kvs:List (j6 × V)}{A:Around}{E:Value->Shared->Prop}
end
section
variable {X:Cx}{pins:List (Addr × Obj)}{σ:St}{H:Hp}{s:Shared}{a:Addr}{y:V}{u:Value}{A:Around}{E:Value->Shared->Prop}
end
section
variable {X:Cx}
end
section
variable {κ:Type} [DecidableEq κ]
end
theorem oF:∀ {xs:List V}{us:List Value},xs.length=us.length->(∀ (i:Nat)(x:V)(u:Value),xs[i]? = some x->us[i]? = some u->RelV x u)->Vals xs us:=by
 intro xs;induction xs with
 | nil=>intro us hl h;cases us with|nil=>exact .nil|cons=>cases hl
 | cons x xs ih=>intro us hl h;cases us with|nil=>cases hl|cons u us=>exact .cons (h 0 x u rfl rfl) (ih (by simpa using hl) fun i x u hx hu=>h (i + 1) x u hx hu)
section
variable {X:Cx}{tg:Expr}
end
noncomputable def ie (p:Addr)(j:Int):HO := .ext fun h=>∃ t u v,IsRange h p 0 j 1 t u v
section
variable {X:Cx}
theorem mI:cE X (.type "range") (fun xs H Q=>∃ j:Int,xs=[.int j]/\∀ p,H p=none->Q (.ref p) (upd H p (ie p j))):=by
 intro pins s σ H xs us Q I r h
 obtain⟨j,rfl,q⟩:=h
 obtain⟨u,rfl,ru⟩:=r.one
 obtain⟨t,rfl⟩:=ru
 refine call_range_1 ⟨.ref s.heap.objs.size,_,I.laid (a:=s.heap.objs.size) (o:=ie s.heap.objs.size j) (t':=s.toks + 1 + 1) (fun _ _ q=>Heap.get?_push_of_some _ q) (le_refl _) ?_,rfl,q _ (I.yE.fresh (le_refl _))⟩
 exact⟨⟨_,_,_,IsRange.new ..⟩,⟨_,Heap.get?_push_size _ rfl⟩,fun h1 h2 ⟨t,u,v,e⟩ st=>⟨t,u,v,st _ e⟩⟩
theorem fz (hc:X.calm=true):cE X (.type "list") (fun xs H Q=>∃ (p:Addr)(n:Nat),xs=[.ref p]/\H p=some (ie p (n:Int))/\n <= 10000/\∀ l,H l=none->Q (.ref l) (upd H l (.lst ((List.range n).map fun k:Nat=>V.int (k:Int))))):=by
 intro pins s σ H xs us Q I r h
 obtain⟨p,n,rfl,hp,hn,q⟩:=h
 obtain⟨u,rfl,ru⟩:=r.one
 cases ru
 obtain⟨⟨t,u,v,hr⟩,_⟩:=I.yE _ _ hp
 refine call_list_range (n:=n) (I.ok.hd hc) hr (small_one (by omega) (by omega) (by omega) (by omega)) (by rw[rangeSize_one];split<;>omega) (by omega) fun h' tk acc c keep hl it=>?_
 have hv:Vals ((List.range n).map fun k:Nat=>V.int (k:Int)) acc.toList:=by
  refine oF (by rw[length_map,length_range];exact it.1.symm) fun i x u hx hu=>?_
  obtain⟨tk,rfl⟩:=it.2 i u (by simpa using hu)
  have hi:i < n:=by
   have:=(gQ0 hx)
   simpa using this
  rw[getElem?_map,List.getElem?_range hi]at hx
  have hx:V.int (i:Int)=x:=Option.some.inj hx
  subst hx
  exact⟨tk,by rw[Int.mul_one,zero_add]⟩
 refine⟨.ref _,_,I.laid (a:=s.heap.objs.size) (o := .lst ((List.range n).map fun k:Nat=>V.int (k:Int))) (t':=tk) (fun b q hq=>keep b q hq) (le_refl _) ⟨by rw[length_map,length_range,sizeLine_eq];omega,acc.toList,c,hv,by simpa using hl⟩,rfl,q _ (I.yE.fresh (le_refl _))⟩
end
end L2
namespace L2
open PySem
section
variable {X:Cx}
noncomputable def Ji (t:TS):TS:=fun D σ H=>∃ AA:St->Hp->Prop,t { D with nx:=AA } σ H/\∀ σ' H',AA σ' H'->D.nx σ' H'
theorem ip {st:Stmt}{t:TS}(h:PS X st t):PS X st (Ji t):=fun pins s σ H D I ⟨AA,q,k⟩ =>
 b5 (h pins s σ H _ I q) fun f s1 z=>by
  cases f with
  | next=>obtain⟨σ1,H1,I1,p⟩:=z;exact⟨σ1,H1,I1,k _ _ p⟩
  | brk=>exact z
  | cont=>exact z
  | ret u=>exact z
noncomputable def wm (t:TE):TE:=fun σ H Q=>∃ AA:V->Hp->Prop,t σ H AA/\∀ v H',AA v H'->Q v H'
theorem kO {e:Expr}{t:TE}(h:PE X e t):PE X e (wm t):=fun pins s σ H Q I ⟨AA,q,k⟩ =>
 b5 (h pins s σ H _ I q) fun u s1 y8=>by obtain⟨v,H1,I1,r,p⟩:=y8;exact⟨v,H1,I1,r,k v H1 p⟩
noncomputable def wl (t:TT):TT:=fun σ H Q=>∃ AA:Bool->Hp->Prop,t σ H AA/\∀ b H',AA b H'->Q b H'
theorem ga {e:Expr}{t:TT}(h:PT X e t):PT X e (wl t):=fun pins s σ H Q I ⟨AA,q,k⟩ =>
 b5 (h pins s σ H _ I q) fun b s1 y8=>by obtain⟨H1,I1,p⟩:=y8;exact⟨H1,I1,k b H1 p⟩
end
open PySem.Spec PyProof.Rows
theorem mj:∀ {ns:List Int}{us:List Value},Vals (ns.map V.int) us->IntsAre us ns
 | [],_, .nil => .nil
 | n :: ns,_, .cons r t=>by
  obtain⟨tk,e⟩:=(show ∃ t,_=Value.int n t from r)
  subst e
  exact .cons n tk (mj t)
theorem mH {X:Cx}(hc:X.calm=true):cE X (.builtin "sum") (fun xs H Q=>∃ (p:Addr)(ns:List Int),xs=[.ref p]/\y6 X.K H p (ns.map V.int)/\Q (.int ns.sum) H):=by
 intro pins s σ H xs us Q I r h
 obtain⟨p,ns,rfl,hq,q⟩:=h
 obtain⟨u,rfl,rx⟩:=j8 r
 cases rx
 obtain⟨y9,rv,pl,hz⟩:=I.list hq
 have hi:=mj rv
 obtain⟨xs,hx⟩:=hi.allInts.items
 have Ag:s.heap.IsList p (intItems xs):=hx ▸ pl.isList
 refine sum_intListG (I.ok.hd hc) Ag fun h' tk t' hk=>?_
 have e1:ns=xs.toList.map (·.1):=by
  rw[← nums_intItems,← hx]
  exact(show numsOf y9.toArray.toList=ns from hi.numsOf).symm
 have e2:preSum (numAt xs) xs.size=ns.sum:=by
  rw[preSum_eq,List.take_of_length_le (by simp),e1]
 rw[e2]
 exact⟨.int ns.sum,H,I.kept hk,⟨_,rfl⟩,q⟩
structure Cu (K:Frag)(x qual:Str)(st:Stmt)(f:Addr)(fd:FuncData):Prop where
 ex:∃ (oc:Value)(od:Option Addr)(dV kV doc pm:Value)(an:Option Addr)(cdv ct:Value)(Cb:Array (Option Value)),
  fd=fnOf x qual (bU st) (aM st) (aj st) dV kV doc pm an cdv ct/\K.lookup f=some ⟨oc,od, .func fd,Cb⟩/\codeIn K cdv qual=true
 kp:keepIn K (.ref f)=true
section
variable {P:Program}{w:World}{K:Frag}{mg:Str->Option Value}{base:Heap}
theorem Cu.ok {x qual:Str}{st:Stmt}{f:Addr}{fd:FuncData}{N ps:List Str}{k:Nat}{sp:Sp}(F:Cu K x qual st f fd)(S:ap N ps (aj st))(len:∀ vs H Q E,sp vs H Q E->vs.length=ps.length)
  (Bx:∀ (cdv:Value)(A:Around)(outer:List Env)(s:Shared)(H:Hp)(vs:List V)(Q:VK)(E:XK),yC k (A.deeper (envOfC qual (aj st) s.heap.objs.size f cdv))->sp vs H Q E ->
   ∃ t,BZ (oy az P w K mg base N qual (aj st) f cdv A outer s H E).Hi (aM st) t/\t { nx:=fun _ H'=>Q .yK H',rt:=Q } (start N vs) H):y2 P w K mg base az (k + 1) f fd ps sp:=by
 obtain⟨oc,od,dV,kV,doc,pm,an,cdv,ct,Cb,rfl,lk,BD⟩:=F.ex
 refine wf lk BD S len fun A outer s H vs Q E hr D4=>?_
 obtain⟨t,h,q⟩:=Bx cdv A outer s H vs Q E hr D4
 exact⟨t,h.Hi,q⟩
end
noncomputable def uo (K:Frag):R2:=fun x y H Q=>∃ (p:Addr)(vs:List V)(d:PyData)(ds:List PyData),y = .ref p/\Den K H x d/\y6 K H p vs/\zU K H vs ds/\AW d 8/\(∀ z ∈ ds,AW z 8)/\Q (.bl (!(ds.any fun y=>PyData.eqv y d))) H
theorem qb {X:Cx}(hu:X.A.units + 64 < cLine):dW X (compareOp .NotIn) (uo X.K):=by
 intro pins s σ H x y v u Q I rx ry h
 obtain⟨p,vs,d,ds,rfl,h1,h2,h3,s1,s2,q⟩:=h
 obtain⟨as,r1⟩:=I.den (.lst h2 h3) ry
 obtain⟨bs,r2⟩:=I.den h1 rx
 refine SeqAt.notIn_list_reads r1 r2 (kC s2).1 s1.1 ?_ ⟨.bl _,H,I,rfl,q⟩
 have:=s1.2
 have:=Nat.min_le_right (PyData.depthAll ds) d.depth
 omega
noncomputable def Jj (K:Frag):R2:=fun x y H Q=>∃ a b xs ys,x = .ref a/\y = .ref b/\yD K H a xs/\yD K H b ys/\ys ≠ []/\xs.length + ys.length <= sizeLine /\
 (xs=[]->Q (.ref b) H)/\(xs ≠ []->∀ p,H p=none->Q (.ref p) (upd H p (.tup (xs ++ ys))))
theorem u0 {X:Cx}:dW X (binaryOp .Add) (Jj X.K):=by
 intro pins s σ H x y v u Q I rx ry h
 obtain⟨a,b,xs,ys,rfl,rfl,ha,hb,hy,hz,q1,q2⟩:=h
 by_cases hx:xs=[]
 ·cases rx
  cases ry
  obtain⟨y9,r1,p1,_⟩:=I.tuple ha
  obtain⟨AM,r2,p2,_⟩:=I.tuple hb
  have e1:y9=[]:=r1.Ax.mpr hx
  obtain⟨⟨cls,dd,data,sl⟩,ho,hc,n,hd⟩:=id p1
  obtain⟨⟨Oi,Mz,data2,M0⟩,zO,AV,n2,hd2⟩:=id p2
  simp only at hc hd AV hd2
  subst hc hd AV hd2
  exact concat_meets ⟨_,ho,rfl⟩ ⟨_,zO,rfl⟩ noFill_tuple_add seq_tuple_add slot_tuple_add entry_tuple_add (args_tuple_add_2 _ _)
   (tuple_addW0 a b y9.toArray AM.toArray n n2 dd Mz sl M0 (by simp[e1])) ⟨ho,zO,⟨.ref b,H,I,rfl,q1 hx⟩⟩
 ·exact uz pins s σ H _ _ v u Q I rx ry ⟨a,b,xs,ys,rfl,rfl,ha,hb,hx,hz,fun z=>absurd z hy,fun _=>q2 hx⟩
end L2
namespace L2
open PySem
section
variable {X:Cx}
end
open PySem.Spec PyProof.Rows
section
variable {prog:Program}{w:World}{A:Around}{E:Value->Shared->Prop}{s:Shared}
end
section
variable {X:Cx}{pins:List (Addr × Obj)}{σ:St}{H:Hp}{s:Shared}{a:Addr}{o:Obj}{u:HO}
end
section
variable {X:Cx}
end
section
variable {X:Cx}{elts:List Expr}{kk:Nat}{Bw:Pos}
end
section
variable {prog:Program}{w:World}{A:Around}{E:Value->Shared->Prop}{s:Shared}
end
section
variable {X:Cx}{tg:Expr}
end
theorem vc:typeLookup (.type "list_reverseiterator") "__len__" = pure none:=by rw[typeLookup_type,builtinLookup_eq_fast];kernel_rfl
theorem sY:typeLookup (.type "list_reverseiterator") "__length_hint__" = pure (some (.builtin "list_reverseiterator.__length_hint__")):=by rw[typeLookup_type,builtinLookup_eq_fast];kernel_rfl
section
variable {prog:Program}{w:World}{A:Around}{E:Value->Shared->Prop}{s:Shared}{I:Addr}{fp wr:List Addr}{G:Array GenState->Array GenState->Prop}{n:Nat}{P:Nat->Value->Prop}{St:Nat->Shared->Prop}
end
theorem ly:∀ {xs:List V}{us:List Value},xs.length=us.length->(∀ (i:Nat)(x:V)(u:Value),xs[i]? = some x->us[i]? = some u->RelV x u)->Vals xs us
 | [],[],_,_ => .nil
 | x :: xs,u :: us,hl,h => .cons (h 0 x u rfl rfl) (ly (by simpa using hl) fun i x u hx hu=>h (i + 1) x u hx hu)
section
variable {X:Cx}
end
section
variable {X:Cx}{o e f:Expr}{apos zr:Pos}{td ty tx:TE}
end
section
variable {X:Cx}{pins:List (Addr × Obj)}{σ:St}{H:Hp}{s:Shared}
end
section
variable {X:Cx}{elts:List Expr}{kk:Nat}{Bw p pos:Pos}{e1 e2:Expr}
end
section
variable {X:Cx}
end
section
variable {prog:Program}{w:World}{A:Around}{E:Value->Shared->Prop}{s:Shared}{I:Addr}{fp wr:List Addr}{G:Array GenState->Array GenState->Prop}{n:Nat}{P:Nat->Value->Prop}{St:Nat->Shared->Prop}
theorem ou {R:Result->Shared->Prop}(W:WalksS prog w A.in1 I fp wr G n P St)(ty:∀ i s,St i s->s.TypeIs (.ref I) "list_reverseiterator")(S:Addr)(res:Value)(c₀:Nat)(st:St 0 s)(nf:S ∉ fp)(Jk:I ∈ fp)
  (hS:s.heap.get? S=some { cls := .type "list",data := .seq #[] c₀ })
  (k:∀ s' acc c,PySem.Moved (S :: wr) G s s'->s'.heap.get? S=some { cls := .type "list",dict:=none,data := .seq acc c,slots:=#[] }->ItemsOf P acc n->R (.ok (.ret res)) s') (zl:n <= sizeLine) :
  wpAny (model prog w) A.in1 (Builtin.List.listExtendWith (.ref S) (.ref I) res)
   (fun fin s'=>match fin with | .done f=>R (.ok f) s' | .again c'=>c'.quiet=true/\codeAny (model prog w) A c' R s') (fun e s'=>R (.error e) s') s:=by
 have nI:S ≠ I:=fun z=>nf (z ▸ Jk)
 have no:Builtin.List.listSameRef (.ref S) (.ref I)=false:=by simp[Builtin.List.listSameRef,nI]
 unfold Builtin.List.listExtendWith
 refine wpAny_bind (wpAny_typeOf (ty 0 _ st) ?_)
 rw[if_neg (by simp[no])]
 refine wpAny_bind (W.self 0 _ _ _ st (wpAny_bind (wpAny_holding ?_)))
 unfold Builtin.List.listLengthHint
 refine wpAny_bind (wpAny_specialOf (ty 0 _ st) vc ?_)
 show wpAny _ A.in1 (specialOf (Value.ref I) (Str.ofString "__length_hint__") >>= _) _ _ _
 refine wpAny_bind (wpAny_specialOf (ty 0 _ st) sY ?_)
 generalize OK:("list_reverseiterator.__length_hint__":String)=T8
 (fail_if_success (clear OK T8))
 wp_delta
 rw[show splitId T8=some ("list_reverseiterator", "__length_hint__") from by subst OK;decide +kernel]
 subst OK
 refine wpAny_bind (wpAny_isInstance (b:=true) (ty 0 _ st) (by rw[isSubtype_type];kernel_rfl) (wpAny_pure ?_))
 rw[if_neg (by decide)]
 exact wpAny_pure ⟨plainId_quiet F.plain_extend_loop _,codeAny_extend_loopS W zl _ nf _ n 0 _ _ _ rfl (zero_le _) st hS (ItemsOf.nil P) fun s' zg c' m' g' it'=>k s' zg c' m' g' it'⟩
theorem tq {R:Result->Shared->Prop}(W:WalksS prog w A.in1 I fp wr G n P St)(ty:∀ i s,St i s->s.TypeIs (.ref I) "list_reverseiterator")(S:Addr)(st:St 0 s)(nf:S ∉ fp)(Jk:I ∈ fp)
  (hS:s.heap.get? S=some { cls := .type "list",data := .seq #[] })
  (k:∀ s' acc c,PySem.Moved (S :: wr) G s s'->s'.heap.get? S=some { cls := .type "list",dict:=none,data := .seq acc c,slots:=#[] }->ItemsOf P acc n->R (.ok (.ret .none)) s') (zl:n <= sizeLine) :
  wpAny (model prog w) A.in1 (Builtin.«list.__init__» ⟨[.ref S, .ref I],[]⟩)
   (fun fin s'=>match fin with | .done f=>R (.ok f) s' | .again c'=>c'.quiet=true/\codeAny (model prog w) A c' R s') (fun e s'=>R (.error e) s') s:=by
 show wpAny _ A.in1 (Builtin.List.listItems (.ref S) >>= fun old=>Builtin.List.listUpdate (.ref S) (fun _=>#[]) >>= fun _=>letGo old.toList.reverse >>= fun _=>Builtin.List.listExtendWith (.ref S) (.ref I) .none) _ _ s
 refine wpAny_bind ?_
 unfold Builtin.List.listItems
 refine wpAny_bind (wpAny_seqItems hS rfl (wpAny_pure ?_))
 refine wpAny_bind (wpAny_updateSeq hS rfl ?_)
 have g2:=Heap.get?_update_self (Obj.mapSeq (fun _=>(#[]:Array Value))) hS rfl
 have sh:∀ b o,b ≠ S->s.heap.get? b=some o->(s.heap.update S (Obj.mapSeq (fun _=>(#[]:Array Value)))).get? b=some o:=fun b o hb e=>(Heap.get?_update_other _ _ (Ne.symm hb)).trans e
 refine wpAny_bind (wpAny_letGo ?_)
 refine ou W ty S .none _ (W.frame 0 s _ s.toks st (le_refl _) fun b hb o e=>sh b o (fun h=>nf (h ▸ hb)) e) nf Jk g2 (fun s' zg c' hm Cv CS=>?_) zl
 exact k s' zg c' (PySem.Moved.trans W.gtrans ((PySem.Moved.refl W.grefl).then_heap (le_refl _) fun b o hb e=>sh b o (fun h=>hb (h ▸ mem_cons_self)) e) hm) Cv CS
theorem j5 {Q:Value->Shared->Prop}(W:WalksS prog w A.in1.in1 I fp wr G n P St)(ty:∀ i s,St i s->s.TypeIs (.ref I) "list_reverseiterator")(st:St 0 s)(below:∀ b ∈ fp,b < s.heap.objs.size)(Jk:I ∈ fp)
  (k:∀ s' acc c,PySem.Moved (s.heap.objs.size :: wr) G { s with heap:=s.heap.push { cls := .type "list",data := .seq #[] } } s' ->
   s'.heap.get? s.heap.objs.size=some { cls := .type "list",dict:=none,data := .seq acc c,slots:=#[] }->ItemsOf P acc n->Q (.ref s.heap.objs.size) s') (zl:n <= sizeLine) :
  wpAny (model prog w) A (call (.type "list") [.ref I]) Q E s:=by
 have nf:s.heap.objs.size ∉ fp:=fun z=>lt_irrefl _ (below _ z)
 refine callType_codes (Q₁:=fun obj s₁=>obj = .ref s.heap.objs.size/\s₁ = { s with heap:=s.heap.push { cls := .type "list",data := .seq #[] } }) F.called_list (F.typeCall_list_1 _) F.entry_list_init (code_list_new _ ⟨rfl,rfl⟩) fun obj s₁ h₁=>?_
 obtain⟨rfl,rfl⟩:=h₁
 have hS:(s.heap.push { cls := .type "list",data := .seq #[] }).get? s.heap.objs.size=some { cls := .type "list",data := .seq #[] }:=Heap.get?_push_size _ rfl
 exact⟨⟨_,hS,rfl⟩,F.args_list_init_2 _ _,tq W ty _ (W.frame 0 s _ s.toks st (le_refl _) fun b _ o e=>Heap.get?_push_of_some _ e) nf Jk hS (fun s' zg c' hm Cv CS=>⟨rfl,k s' zg c' hm Cv CS⟩) zl⟩
end
section
variable {X:Cx}
noncomputable def uc (K:Frag)(ta:TA):TE:=fun σ H Q=>ta σ H fun vs H1=>∃ l xs,vs=[.ref l]/\y6 K H1 l xs/\∀ t,H1 t=none->Q (.ref t) (upd H1 t (.lst xs.reverse))
theorem pY {a:Expr}{ta:TA}{p1 p2 OL DX:Pos}(hc:X.calm=true)(g1:Gl X "list")(m1:X.mg "list" = none)(g2:Gl X "reversed")(m2:X.mg "reversed" = none)(ha:PA X [a] ta)(hs:autoParam (starEach [a] X.env=[(false,eval a X.env)]) η)
  (Cp:autoParam (starEach [.Call (.Name "reversed" p2) [a] [] DX] X.env=[(false,eval (.Call (.Name "reversed" p2) [a] [] DX) X.env)]) η):PE X (.Call (.Name "list" p1) [.Call (.Name "reversed" p2) [a] [] DX] [] OL) (uc X.K ta):=by
 intro pins s σ H Q I h
 refine Call_ (eC I g1 m1 PySem.Pv.boot_list (PyProof.Rows.callWith_type1 ?_ Cp rfl))
 rw[Cp]
 refine Calls.spliced_cons ?_
 refine Call_ (eC I g2 m2 (show bootBuiltins "reversed" = some (.type "reversed") by decide +kernel) (PyProof.Rows.callWith_type1 (b5 (ha DX pins s σ H _ I h) fun us s1 y8=>?_) hs rfl))
 obtain⟨vs,H1,I1,r1,q1⟩:=y8
 obtain⟨l,xs,e,hq,q⟩:=q1
 subst e
 obtain⟨u,rfl,ru⟩:=r1.one
 cases ru
 obtain⟨y9,rv,pl,hz⟩:=I1.list hq
 have hl:y9.toArray.size=xs.length:=by rw[size_toArray];exact rv.length.symm
 refine call_reversed_list pl.isList (Calls.spliced_nil ?_)
 have yR:l < s1.heap.objs.size:=by obtain⟨o,ho,_⟩:=pl.isList;exact lt_size ho
 have BE:l ≠ s1.heap.objs.size:=ne_of_lt yR
 have W:=(Walks.listRev (prog:=X.prog) (w:=X.w) (A:=X.A.in1.in1) (I1.ok.hd hc) s1.heap.objs.size l BE y9.toArray).toS
 have hp:(s1.heap.push (revObj l ((y9.toArray.size:Int) - 1))).objs.size=s1.heap.objs.size + 1:=size_push ..
 refine j5 (s:={ s1 with heap:=s1.heap.push (revObj l ((y9.toArray.size:Int) - 1)) }) W (fun i s z=>z.2.1.typeIs) ⟨zero_le _,⟨_,Heap.get?_push_size _ rfl,rfl,by simp[revObj]⟩,pl.isList.at fun o e=>Heap.get?_push_of_some _ e⟩ (fun b hb=>?_) (by simp) (fun s' acc c mv Cv it=>?_) (by rw[hl];exact hz)
 ·have An:b=s1.heap.objs.size∨b=l:=by simpa using hb
  show b < (s1.heap.push _).objs.size
  rw[hp]
  rcases An with rfl | rfl
  ·exact lt_succ_self _
  ·exact lt_succ_of_lt yR
 ·obtain⟨h',g',d',tk',Oh⟩:=s'
  have e1:g' = s1.gens:=mv.gens
  have e2:d' = s1.drawn:=mv.drawn
  have e3:Oh = s1.os:=mv.os
  subst e1 e2 e3
  have keep:∀ b o,s1.heap.get? b=some o->h'.get? b=some o:=fun b o e=>by
   have hb:=lt_size e
   refine mv.heap b o ?_ (Heap.get?_push_of_some _ (Heap.get?_push_of_some _ e))
   show ¬ b ∈ (s1.heap.push _).objs.size :: [s1.heap.objs.size]
   rw[hp]
   simp only[mem_cons,not_mem_nil,or_false,not_or]
   exact⟨ne_of_lt (lt_succ_of_lt hb),ne_of_lt hb⟩
  have hv:Vals xs.reverse acc.toList:=by
   refine ly (by rw[length_reverse,← hl];exact it.1.symm) fun i x u hx hu=>?_
   have hi:i < xs.length:=by have:=(gQ0 hx);rw[length_reverse]at this;exact this
   have MB:=it.2 i u (by simpa using hu)
   rw[hl]at MB
   rw[List.getElem?_reverse hi]at hx
   have hu2:y9[xs.length - 1 - i]? = some u:=by simpa using MB
   obtain⟨u2,e2,r2⟩:=rv.get hx
   rw[hu2]at e2
   cases e2
   exact r2
  have hsz:s1.heap.objs.size <= (s1.heap.push (revObj l ((y9.toArray.size:Int) - 1))).objs.size:=by rw[hp];exact le_succ _
  exact⟨.ref _,_,I1.laid (a:=(s1.heap.push (revObj l ((y9.toArray.size:Int) - 1))).objs.size) (o := .lst xs.reverse) (t':=tk') (h':=h') keep hsz ⟨by rw[length_reverse];exact hz,acc.toList,c,hv,by simpa using Cv⟩,rfl,q _ (I1.yE.fresh hsz)⟩
end
end L2
namespace L2
open PySem PySem.Spec PyProof.Rows PySem.SeqAt
section
variable {prog:Program}{w:World}{K L:Type} [DecidableEq K] [DecidableEq L] (knd:KeyKind prog w K) (hk:HeapKind prog w L)
inductive B1 (h:Heap):List (K ⊕ L)->List Value->Prop
 | nil:B1 h [] []
 | cl {k:K} {v:Value} {ks:List (K ⊕ L)} {vs:List Value}:knd.is k v=true->B1 h ks vs->B1 h (.inl k :: ks) (v :: vs)
 | cr {l:L} {a:Addr} {ks:List (K ⊕ L)} {vs:List Value}:hk.is h l a->B1 h ks vs->B1 h (.inr l :: ks) (.ref a :: vs)
noncomputable def yV (h:Heap)(ks:List (K ⊕ L))(a:Addr):Prop:=∃ o items n,h.get? a=some o/\o.cls = .type "tuple"/\o.data = .seq items n/\B1 knd hk h ks items.toList
noncomputable def ju (d:Nat):Prop:=∀ {A:Around}{E:Value->Shared->Prop}{s:Shared}{k:L}{a:Addr}{Q:Bool->Shared->Prop}(n:Nat),d <= n->hk.is s.heap k a->Q true s->wpAny (model prog w) A (eqIsQuiet n (.ref a)) Q E s
noncomputable def Jl:Prop:=∀ {A:Around}{s:Shared}{k:K}{v:Value}{l:L}{a:Addr},A.units < cLine->knd.is k v=true->hk.is s.heap l a->EqAt A s v (.ref a) false/\EqAt A s (.ref a) v false
variable {knd hk}
theorem B1.inj {h:Heap}{x y:List (K ⊕ L)}{vs:List Value}(hx:B1 knd hk h x vs)(hy:B1 knd hk h y vs):x=y:=by
 induction hx generalizing y with
 | nil=>cases hy;rfl
 | cl h1 _ ih =>
  cases hy with
  | cl h2 t2=>rw[knd.inj _ _ _ h1 h2,ih t2]
  | cr h2 t2=>have:=knd.byValue _ _ h1;simp[carriedByValue]at this
 | cr h1 _ ih =>
  cases hy with
  | cl h2 t2=>have:=knd.byValue _ _ h2;simp[carriedByValue]at this
  | cr h2 t2=>rw[hk.inj h1 h2,ih t2]
theorem B1.keeps {h h':Heap}{x:List (K ⊕ L)}{vs:List Value}{d:Addr}{o:Obj} {es ep} (hx:B1 knd hk h x vs) (ho:h.get? d=some o) (hd:o.data = .dict es ep) (hs:Heap.SameBut d h h'):B1 knd hk h' x vs:=by
 induction hx with
 | nil=>exact .nil
 | cl h1 _ ih=>exact .cl h1 ih
 | cr h1 _ ih=>exact .cr (hk.keeps h1 ho hd hs) ih
theorem yV.typeIs {s:Shared}{ks:List (K ⊕ L)}{a:Addr}(x:yV knd hk s.heap ks a):s.TypeIs (.ref a) "tuple":=let ⟨o,_,_,ho,hc,_⟩:=x; ⟨o,ho,hc⟩
theorem yV.inj {h:Heap}{a:Addr}{x y:List (K ⊕ L)}(hx:yV knd hk h x a)(hy:yV knd hk h y a):x=y:=by
 obtain⟨o,items,n,ho,_,hd,hi⟩:=hx
 obtain⟨o',OM,n',BC,_,Dy,T9⟩:=hy
 obtain rfl:o=o':=Option.some.inj (ho.symm.trans BC)
 rw[hd]at Dy
 injection Dy with h1 _
 subst h1
 exact hi.inj T9
theorem yV.keeps {h h':Heap}{ks:List (K ⊕ L)}{a d:Addr}{o:Obj} {es ep} (x:yV knd hk h ks a) (ho:h.get? d=some o) (hd:o.data = .dict es ep) (hs:Heap.SameBut d h h'):yV knd hk h' ks a:=by
 obtain⟨o',items,n,BC,hc,Dy,hi⟩:=x
 have BE:a ≠ d:=by
  rintro rfl
  obtain rfl:o' = o:=Option.some.inj (BC.symm.trans ho)
  rw[hd]at Dy;exact nomatch Dy
 exact⟨o',items,n,(hs.2 a BE).trans BC,hc,Dy,hi.keeps ho hd hs⟩
noncomputable def eY (knd:KeyKind prog w K)(hk:HeapKind prog w L):K ⊕ L->Int
 | .inl k=>knd.hash k
 | .inr l=>hk.hash l
noncomputable def iQ (hk:HeapKind prog w L):K ⊕ L->Nat
 | .inl _=>1
 | .inr l=>hk.draws l
noncomputable def i8 (knd:KeyKind prog w K)(hk:HeapKind prog w L)(ks:List (K ⊕ L)):Int:=reduceHash (Builtin.Tuple.tupleHashOf (ks.map (eY knd hk)))
variable {A:Around}{E:Value->Shared->Prop}{s:Shared}
theorem qx {ks:List (K ⊕ L)}{a:Addr}{Q:Int->Shared->Prop}(hu:A.units < cLine)(hr:hk.room A.in1)(hx:yV knd hk s.heap ks a)(h:Q (i8 knd hk ks) { s with toks:=s.toks + ((ks.map (iQ hk)).sum + 1) }) :
  wpAny (model prog w) A (pyHash (.ref a)) Q E s:=by
 have hT:=hx.typeIs
 obtain⟨o,items,n,ho,_,hd,hi⟩:=hx
 unfold pyHash
 first | unfold pyHashByItsType | skip
 first | refine wpAny_bind (wpAny_cRoomFor_or (.inr hu) ?_) | skip
 refine wpAny_bind (wpAny_specialOf hT F.slot_tuple_hash.lookup ?_)
 show wpAny _ _ (if (some (Value.builtin "tuple.__hash__") == some Value.none)=true then _ else _) Q E s
 rw[if_neg (by rw[beq_builtin_none];exact Bool.false_ne_true)]
 refine wpAny_bind (wpAny_specialOf hT F.slot_tuple_hash.lookup ?_)
 show wpAny _ _ (callSpecialIfBoundUnlessNone? (.ref a) "__hash__" _ >>= _) Q E s
 refine wpAny_bind (wpAny_callSpecialIfBoundUnlessNone?_slot hT F.slot_tuple_hash (wpAny_call_entry F.slot_tuple_hash hT F.entry_tuple_hash ?_ (F.args_tuple_hash_1 _)))
 show wpAny _ _ (Builtin.Tuple.tupleItemsOf (.ref a) >>= _) _ _ s
 refine wpAny_bind (wpAny_tupleItemsOf ho hd ?_)
 refine wpAny_bind ?_
 rw[← Array.forIn_toList]
 refine wpAny_forIn_list _
  (fun rest (b:Array Int) s'=>∃ done left,ks=done ++ left/\B1 knd hk s.heap left rest/\b.toList=done.map (eY knd hk)/\s' = { s with toks:=s.toks + (done.map (iQ hk)).sum })
  _ ?_ ?_ _ _ ⟨[],ks,rfl,hi,rfl,rfl⟩
 ·rintro x rest b s' ⟨done,left,rfl,hl,hb,rfl⟩
  cases hl with
  | @cl k _ Jm _ h1 Ag =>
   refine wpAny_bind (knd.pyHash h1 ?_)
   first
    | exact wpAny_pure ⟨done ++ [.inl k],Jm,by simp,Ag,by simp[hb,eY],by simp[iQ,add_assoc]⟩
    | exact wpAny_bind (wpAny_pure (wpAny_pure ⟨done ++ [.inl k],Jm,by simp,Ag,by simp[hb,eY],by simp[iQ,add_assoc]⟩))
  | @cr k _ Jm _ h1 Ag =>
   refine wpAny_bind (hk.pyHash hr h1 ?_)
   first
    | exact wpAny_pure ⟨done ++ [.inr k],Jm,by simp,Ag,by simp[hb,eY],by simp[iQ,add_assoc]⟩
    | exact wpAny_bind (wpAny_pure (wpAny_pure ⟨done ++ [.inr k],Jm,by simp,Ag,by simp[hb,eY],by simp[iQ,add_assoc]⟩))
 ·rintro b s' ⟨done,left,rfl,hl,hb,rfl⟩
  cases hl
  rw[append_nil]at h
  show wpAny _ _ (retInt (Builtin.Tuple.tupleHashOf b.toList)) _ _ _
  rw[hb]
  refine wpAny_ret_mkInt ?_
  show wpAny _ _ (if (decide (-(2:Int) ^ 63 <= Builtin.Tuple.tupleHashOf (done.map (eY knd hk))) && decide (Builtin.Tuple.tupleHashOf (done.map (eY knd hk)) < 2 ^ 63))=true then _ else _) Q E _
  unfold i8 reduceHash at h
  by_cases hr:(decide (-(2:Int) ^ 63 <= Builtin.Tuple.tupleHashOf (done.map (eY knd hk))) && decide (Builtin.Tuple.tupleHashOf (done.map (eY knd hk)) < 2 ^ 63))=true
  ·rw[if_pos hr]
   rw[if_pos hr]at h
   exact wpAny_pure (by simpa [add_assoc] using h)
  ·rw[if_neg hr]
   rw[if_neg hr]at h
   exact wpAny_bind (wpAny_rule (wpAny_pure (by simpa [add_assoc] using h)))
theorem vm {x y:List (K ⊕ L)}{a b:Addr}{P:Fin->Shared->Prop}(mx:Jl knd hk)(hu:A.units < cLine)(hr:hk.room A)(hx:yV knd hk s.heap x a)(hy:yV knd hk s.heap y b)(h:P (.done (.ret (.bool (decide (x=y))))) s) :
  wpAny (model prog w) A (Builtin.«tuple.__eq__» ⟨[.ref a, .ref b],[]⟩) P E s:=by
 have hTb:=hy.typeIs
 obtain⟨oa,xs,na,hoa,_,hda,hia⟩:=hx
 obtain⟨ob,ys,nb,hob,_,DN,hib⟩:=hy
 show wpAny _ _ (isInstance (.ref b) (.type "tuple") >>= _) _ _ s
 refine wpAny_bind (wpAny_isInstance hTb isSubtype_tuple_tuple ?_)
 simp only[Bool.not_true,Bool.false_eq_true,if_false]
 refine wpAny_bind (wpAny_tupleItemsOf hoa hda ?_)
 refine wpAny_bind (wpAny_tupleItemsOf hob DN ?_)
 refine wpAny_bind ?_
 refine wpAny_forIn_list _
  (fun rest r s'=>r.1=none/\s' = s/\∃ x' y' Jn Jo,rest=List.zip Jn Jo/\B1 knd hk s.heap x' Jn/\B1 knd hk s.heap y' Jo/\decide (x' = y')=decide (x=y)/\(Jn.length == Jo.length)=(xs.size == ys.size))
  _ ?_ ?_ _ _ ⟨rfl,rfl,x,y,xs.toList,ys.toList,rfl,hia,hib,rfl,by simp⟩
 ·rintro⟨u,v⟩ rest r s' ⟨D7,rfl,x',y',Jn,Jo,hz,Bz,Ho,B3,hlen⟩
  cases Bz with
  | nil=>simp at hz
  | @cl k1 u' Jp F2 h1 F3 =>
   cases Ho with
   | nil=>simp at hz
   | @cr k2 v' F4 CY h2 CZ =>
    simp only[zip_cons_cons,List.cons.injEq,Prod.mk.injEq]at hz
    obtain⟨⟨rfl,rfl⟩,rfl⟩:=hz
    refine wpAny_bind ((mx hu h1 h2).1 _ _ _ _ ?_)
    simp only[Bool.not_false,if_true]
    have hf:decide (x=y)=false:=by rw[← B3];simp
    rw[hf]at h
    exact wpAny_bind (wpAny_pure (wpAny_pure (wpAny_pure h)))
   | @cl k2 v' F4 CY h2 CZ =>
    simp only[zip_cons_cons,List.cons.injEq,Prod.mk.injEq]at hz
    obtain⟨⟨rfl,rfl⟩,rfl⟩:=hz
    refine wpAny_bind (knd.eqBool (a:=k1) (b:=k2) h1 h2 ?_)
    by_cases zL:k1=k2
    ·subst zL
     rw[decide_eq_true rfl]
     simp only[Bool.not_true,Bool.false_eq_true,if_false]
     refine wpAny_pure ⟨rfl,rfl,Jp,F4,F2,CY,rfl,F3,CZ,?_,by simpa using hlen⟩
     rw[← B3]
     by_cases F5:Jp = F4
     ·simp[F5]
     ·simp[F5]
    ·rw[decide_eq_false zL]
     simp only[Bool.not_false,if_true]
     have hf:decide (x=y)=false:=by rw[← B3];simp[zL]
     rw[hf]at h
     exact wpAny_bind (wpAny_pure (wpAny_pure (wpAny_pure h)))
  | @cr k1 u' Jp F2 h1 F3 =>
   cases Ho with
   | nil=>simp at hz
   | @cl k2 v' F4 CY h2 CZ =>
    simp only[zip_cons_cons,List.cons.injEq,Prod.mk.injEq]at hz
    obtain⟨⟨rfl,rfl⟩,rfl⟩:=hz
    refine wpAny_bind ((mx hu h2 h1).2 _ _ _ _ ?_)
    simp only[Bool.not_false,if_true]
    have hf:decide (x=y)=false:=by rw[← B3];simp
    rw[hf]at h
    exact wpAny_bind (wpAny_pure (wpAny_pure (wpAny_pure h)))
   | @cr k2 v' F4 CY h2 CZ =>
    simp only[zip_cons_cons,List.cons.injEq,Prod.mk.injEq]at hz
    obtain⟨⟨rfl,rfl⟩,rfl⟩:=hz
    refine wpAny_bind (hk.eqBool (x:=k1) (y:=k2) hr h1 h2 ?_)
    by_cases zL:k1=k2
    ·subst zL
     rw[decide_eq_true rfl]
     simp only[Bool.not_true,Bool.false_eq_true,if_false]
     refine wpAny_pure ⟨rfl,rfl,Jp,F4,F2,CY,rfl,F3,CZ,?_,by simpa using hlen⟩
     rw[← B3]
     by_cases F5:Jp = F4
     ·simp[F5]
     ·simp[F5]
    ·rw[decide_eq_false zL]
     simp only[Bool.not_false,if_true]
     have hf:decide (x=y)=false:=by rw[← B3];simp[zL]
     rw[hf]at h
     exact wpAny_bind (wpAny_pure (wpAny_pure (wpAny_pure h)))
 ·rintro⟨r1,r2⟩ s' ⟨D7,rfl,x',y',Jn,Jo,hz,Bz,Ho,B3,hlen⟩
  simp only at D7
  subst D7
  refine wpAny_pure ?_
  have ON:(xs.size == ys.size)=decide (x=y):=by
   rw[← B3,← hlen]
   cases Bz with
   | nil =>
    cases Ho with
    | nil=>simp
    | cl _ _=>simp
    | cr _ _=>simp
   | cl _ _ =>
    cases Ho with
    | nil=>simp
    | cl _ _=>simp at hz
    | cr _ _=>simp at hz
   | cr _ _ =>
    cases Ho with
    | nil=>simp
    | cl _ _=>simp at hz
    | cr _ _=>simp at hz
  show P (.done (.ret (.bool (xs.size == ys.size)))) s'
  rw[ON];exact h
theorem mz {x y:List (K ⊕ L)}{a b:Addr}{Q:Bool->Shared->Prop}(mx:Jl knd hk)(hu:A.units + 1 < cLine)(hr:hk.room A.in1)(hx:yV knd hk s.heap x a)(hy:yV knd hk s.heap y b)(h:Q (decide (x=y)) s) :
  wpAny (model prog w) A (eqBool (.ref a) (.ref b)) Q E s:=by
 unfold eqBool
 try with_reducible refine wpAny_holding ?_
 show wpAny _ _ (if (Value.ref a == Value.ref b)=true then _ else _) Q E s
 by_cases Dc:(Value.ref a == Value.ref b)=true
 ·rw[if_pos Dc]
  have e:a=b:=by have:=eq_of_beq Dc;injection this
  subst e
  obtain rfl:=hx.inj hy
  exact wpAny_bind (wpAny_rule (wpAny_pure (by simpa using h)))
 ·rw[if_neg Dc]
  exact wpAny_bind (wpAny_richCompare_same_room (op := .Eq) hx.typeIs hy.typeIs F.slot_tuple_eq
   (wpAny_call_entry F.slot_tuple_eq hx.typeIs F.entry_tuple_eq (vm mx hu hr hx hy ⟨_,rfl,(fun e=>nomatch e),wpAny_truthy_bool h⟩) (F.args_tuple_eq_2 _ _)) (by omega))
theorem cQ {d:Nat}(hq:ju hk d):∀ {A:Around}{E:Value->Shared->Prop}{s:Shared}{ks:List (K ⊕ L)}{a:Addr}{Q:Bool->Shared->Prop}(n:Nat),d + 1 <= n->yV knd hk s.heap ks a->Q true s->wpAny (model prog w) A (eqIsQuiet n (.ref a)) Q E s:=by
 intro A E s ks a Q n hn hx h
 obtain⟨m,rfl⟩:∃ m,n=m + 1:=⟨n - 1,by omega⟩
 have hT:=hx.typeIs
 obtain⟨o,items,n',ho,_,hd,hi⟩:=hx
 unfold eqIsQuiet
 refine wpAny_bind (wpAny_specialOf hT F.slot_tuple_eq.lookup ?_)
 show wpAny _ _ (isInstance (.ref a) (.type "tuple") >>= _) _ _ s
 refine wpAny_bind (wpAny_isInstance hT isSubtype_tuple_tuple ?_)
 simp only[Bool.not_true,Bool.false_eq_true,if_false]
 refine wpAny_bind (wpAny_seqItems ho hd ?_)
 refine wpAny_bind ?_
 show wpAny _ _ (forIn items _ _) _ _ s
 rw[← Array.forIn_toList]
 refine wpAny_forIn_list _ (fun rest r s'=>r.1=none/\s' = s/\∃ left,B1 knd hk s.heap left rest) _ ?_ ?_ _ _ ⟨rfl,rfl,ks,hi⟩
 ·rintro v rest r s' ⟨hr,rfl,left,hl⟩
  cases hl with
  | cl h1 Ag =>
   rw[eqIsQuiet_byValue _ (knd.byValue _ _ h1)]
   refine wpAny_bind (wpAny_pure ?_)
   simp only[Bool.not_true,Bool.false_eq_true,if_false]
   exact wpAny_pure ⟨rfl,rfl,_,Ag⟩
  | cr h1 Ag =>
   refine wpAny_bind (hq m (by omega) h1 ?_)
   simp only[Bool.not_true,Bool.false_eq_true,if_false]
   exact wpAny_pure ⟨rfl,rfl,_,Ag⟩
 ·rintro⟨r1,r2⟩ s' ⟨hr,rfl,_⟩
  simp only at hr
  subst hr
  exact wpAny_pure h
end
noncomputable def i7 {prog:Program}{w:World}{K L:Type} [DecidableEq K] [DecidableEq L] (knd:KeyKind prog w K) (hk:HeapKind prog w L) (mx:Jl knd hk) {d:Nat} (hq:ju hk d) (hd:d <= 7):HeapKind prog w (List (K ⊕ L)) where
 is:=yV knd hk
 hash:=i8 knd hk
 draws:=fun ks=>(ks.map (iQ hk)).sum + 1
 room:=fun A=>A.units + 1 < cLine/\hk.room A.in1
 inj:=fun hx hy=>hx.inj hy
 keeps:=fun x ho hd hs=>x.keeps ho hd hs
 pyHash:=fun hu hx h=>qx (by have:=hu.1;omega) hu.2 hx h
 eqBool:=fun hu hx hy h=>mz mx hu.1 hu.2 hx hy h
 quiet:=fun hx h=>cQ hq 8 (by omega) hx h
section
variable {prog:Program}{w:World}
theorem kX {L:Type} [DecidableEq L] {hk:HeapKind prog w L} (ht:∀ {h:Heap}{l:L}{a:Addr},hk.is h l a->∃ items,h.IsTuple a items):Jl (bT prog w) hk:=by
 intro A s k v l a hu h1 h2
 obtain⟨items,hi⟩:=ht h2
 rcases bQ h1 with ⟨_,rfl⟩ | ⟨i,t,_,rfl⟩
 ·exact⟨EqAt.none_tuple hi hu,EqAt.tuple_none hi hu⟩
 ·exact⟨EqAt.int_tuple i t hi hu,EqAt.tuple_int i t hi hu⟩
theorem jY {K L:Type} [DecidableEq K] [DecidableEq L] {knd:KeyKind prog w K} {hk:HeapKind prog w L} {h:Heap} {ks:List (K ⊕ L)} {a:Addr} (x:yV knd hk h ks a):∃ items,h.IsTuple a items:=by
 obtain⟨o,items,n,ho,hc,hd,_⟩:=x
 exact⟨items,o,ho,hc,n,hd⟩
noncomputable def kU (prog:Program)(w:World):HeapKind prog w Empty where
 is:=fun _ k _=>k.elim
 hash:=fun k=>k.elim
 draws:=fun k=>k.elim
 room:=fun _=>True
 inj:=fun {_ _ x _} _ _=>x.elim
 keeps:=fun {_ _ k _ _ _ _ _} _ _ _ _=>k.elim
 pyHash:=fun {_ _ _ k _ _} _ _ _=>k.elim
 eqBool:=fun {_ _ _ x _ _ _ _} _ _ _ _=>x.elim
 quiet:=fun {_ _ _ k _ _} _ _=>k.elim
theorem lS:ju (kU prog w) 0:=fun {_ _ _ k _ _} _ _ _ _=>k.elim
theorem xF:Jl (bT prog w) (kU prog w):=fun {_ _ _ _ l _} _ _ _=>l.elim
noncomputable def Lv:Nat->Type
 | 0=>Empty
 | n + 1=>List (Option Int ⊕ Lv n)
instance Jq:(n:Nat)->DecidableEq (Lv n)
 | 0=>inferInstanceAs (DecidableEq Empty)
 | n + 1=>have:=Jq n;inferInstanceAs (DecidableEq (List (Option Int ⊕ Lv n)))
abbrev TB (prog:Program)(w:World):HeapKind prog w (Lv 1):=i7 (bT prog w) (kU prog w) xF (d:=0) lS (by decide)
theorem TF:ju (TB prog w) 1:=fun n hn hx h=>cQ (d:=0) lS n hn hx h
abbrev TH (prog:Program)(w:World):HeapKind prog w (Lv 2):=i7 (bT prog w) (TB prog w) (kX fun x=>jY x) (d:=1) TF (by decide)
theorem TK:ju (TH prog w) 2:=fun n hn hx h=>cQ (d:=1) TF n hn hx h
abbrev TL (prog:Program)(w:World):HeapKind prog w (Lv 3):=i7 (bT prog w) (TH prog w) (kX fun x=>jY x) (d:=2) TK (by decide)
theorem TM:ju (TL prog w) 3:=fun n hn hx h=>cQ (d:=2) TK n hn hx h
abbrev TN (prog:Program)(w:World):HeapKind prog w (Lv 4):=i7 (bT prog w) (TL prog w) (kX fun x=>jY x) (d:=3) TM (by decide)
theorem kq4:ju (TN prog w) 4:=fun n hn hx h=>cQ (d:=3) TM n hn hx h
abbrev Hq (prog:Program)(w:World):HeapKind prog w (Lv 5):=i7 (bT prog w) (TN prog w) (kX fun x=>jY x) (d:=4) kq4 (by decide)
end
open PySem.Spec PyProof.Rows
noncomputable def yL:(n:Nat)->Hp->Lv n->Addr->Prop
 | 0,_,_,_=>False
 | n + 1,H,ks,b=>∃ vs,H b=some (.tup vs)/\Paired (fun v (e:Option Int ⊕ Lv n)=>match e with | .inl o=>v=nP o | .inr l=>∃ c,v = .ref c/\yL n H l c) vs ks
theorem yL.same {H H':Hp}(s:y1 H H'):∀ {n:Nat}{k:Lv n}{b:Addr},yL n H k b->yL n H' k b
 | 0,_,_,h=>h.elim
 | n + 1,_,_,⟨vs,e,p⟩=>⟨vs,s _ _ e,Paired.mono (fun v x h=>by
  cases x with
  | inl o=>exact h
  | inr l=>obtain⟨c,e,h⟩:=h;exact⟨c,e,yL.same s h⟩) p⟩
theorem xW {P:Program}{w:World}{n:Nat}{hk:HeapKind P w (Lv n)}{H:Hp}{h:Heap}(lo:∀ {l:Lv n} {c:Addr},yL n H l c->hk.is h l c){vs:List V}{ks:List (Option Int ⊕ Lv n)}{us:List Value}(p:Paired (fun v (e:Option Int ⊕ Lv n)=>match e with | .inl o=>v=nP o | .inr l=>∃ c,v = .ref c/\yL n H l c) vs ks)(r:Vals vs us):B1 (bT P w) hk h ks us:=by
 induction p generalizing us with
 | nil=>cases r;exact .nil
 | @cons v e vs ks h1 _ ih =>
  cases r with
  | cons r1 r2 =>
   cases e with
   | inl o =>
    refine .cl ?_ (ih r2)
    cases (show v=nP o from h1)
    cases o with
    | none=>have e:_=Value.none:=r1;subst e;rfl
    | some i=>obtain⟨tk,e⟩:=(show ∃ t,_=Value.int i t from r1);subst e;exact beq_self_eq_true i
   | inr l =>
    obtain⟨c,rfl,hc⟩:=h1
    obtain rfl:_=Value.ref c:=r1
    exact .cr (lo hc) (ih r2)
theorem i6 {P:Program}{w:World}{n:Nat}{hk:HeapKind P w (Lv n)}{H:Hp}{h:Heap}(ok:Ab P w H h)(lo:∀ {l:Lv n} {c:Addr},yL n H l c->hk.is h l c){k:Lv (n + 1)}{b:Addr}(e:yL (n + 1) H k b):yV (bT P w) hk h k b:=by
 obtain⟨vs,e,p⟩:=e
 obtain⟨_,y9,r,o,ho,⟨hc,m,hd⟩,_⟩:=ok _ _ e
 exact⟨o,y9.toArray,m,ho,hc,hd,xW lo p r⟩
theorem vf {P:Program}{w:World}{H:Hp}{h:Heap}(ok:Ab P w H h){k:Lv 5}{b:Addr}(e:yL 5 H k b):(Hq P w).is h k b :=
 i6 ok (fun q=>i6 ok (fun q=>i6 ok (fun q=>i6 ok (fun q=>i6 (n:=0) (hk:=kU P w) ok (fun {l _} _=>Empty.elim l) q) q) q) q) e
theorem vU {P:Program}{w:World}{A:Around}(hu:A.units + 8 < cLine):(Hq P w).room A.in1:=by
 have e:∀ B:Around,B.in1.units=B.units + 1:=fun _=>rfl
 refine⟨?_,?_,?_,?_,?_,True.intro⟩<;>simp only[e]<;>omega
abbrev c6:=Lv 5 × Addr × V
abbrev eG (p:c6)(q:Lv 5 × Addr × Value):Prop:=p.1=q.1/\p.2.1=q.2.1/\RelV p.2.2 q.2.2
noncomputable def fA (P:Program)(w:World)(a:Addr)(kvs:List c6):Heap->Prop:=fun h=>kvs.length <= sizeLine/\(a == sysModules)=false/\∃ xs,Paired eG kvs xs /\
 ∃ o es ep,h.get? a=some o/\o.ExactDict/\o.data = .dict es ep/\es.toList=xs.map (entryOfKey (Hq P w))/\(xs.map (·.1)).Nodup
noncomputable def aZ (P:Program)(w:World)(a:Addr)(kvs:List c6):HO := .ext (fA P w a kvs)
noncomputable def zd (P:Program)(w:World)(H:Hp)(a:Addr)(kvs:List c6):Prop:=H a=some (aZ P w a kvs)/\∀ x ∈ kvs,yL 5 H x.1 x.2.1
theorem zd.same {P:Program}{w:World}{H H':Hp}{a:Addr}{kvs:List c6}(h:zd P w H a kvs)(s:y1 H H'):zd P w H' a kvs:=⟨s _ _ h.1,fun x hx=>(h.2 x hx).same s⟩
noncomputable def cu (kvs:List c6)(k:Lv 5):Option V:=(kvs.find? fun x=>decide (x.1=k)).map (·.2.2)
noncomputable def jB (k:Lv 5)(v:V)(x:c6):c6:=if x.1=k then (x.1,x.2.1,v) else x
noncomputable def bI (kvs:List c6)(k:Lv 5)(b:Addr)(v:V):List c6:=if (cu kvs k).isSome then kvs.map (jB k v) else kvs ++ [(k,b,v)]
theorem gp {k:Lv 5}:cu [] k=none:=rfl
theorem bR {x:c6}{kvs:List c6}{k:Lv 5}:cu (x :: kvs) k=if x.1=k then some x.2.2 else cu kvs k:=by
 unfold cu
 rw[find?_cons]
 by_cases h:x.1=k
 ·rw[decide_eq_true h,if_pos h];rfl
 ·rw[decide_eq_false h,if_neg h]
theorem pO {kvs:List c6}{k k':Lv 5}{v:V}:cu (kvs.map (jB k v)) k' = if k' = k then (cu kvs k).map (fun _=>v) else cu kvs k':=by
 induction kvs with
 | nil=>rw[map_nil,gp,gp];split<;>rfl
 | cons x kvs ih =>
  rw[map_cons,bR,ih,bR,bR]
  unfold jB
  by_cases h:x.1=k<;>by_cases h':k' = k
  ·have:x.1=k':=h.trans h'.symm
   simp[h,h']
  ·have:¬ x.1=k':=fun z=>h' (z.symm.trans h)
   rw[if_pos h,if_neg h',if_neg this,if_neg this,if_neg h']
  ·subst h'
   simp[h]
  ·simp[h,h']
theorem jX {kvs:List c6}{k k':Lv 5}{b:Addr}{v:V}(h:cu kvs k=none):cu (kvs ++ [(k,b,v)]) k' = if k' = k then some v else cu kvs k':=by
 induction kvs with
 | nil =>
  rw[nil_append,bR,gp]
  by_cases e:k' = k
  ·rw[if_pos e,if_pos e.symm]
  ·rw[if_neg e,if_neg (Ne.symm e)]
 | cons x kvs ih =>
  rw[bR]at h
  by_cases hx:x.1=k
  ·rw[if_pos hx]at h;cases h
  ·rw[if_neg hx]at h
   rw[List.cons_append,bR,ih h,bR]
   by_cases e:k' = k
   ·subst e;rw[if_neg hx,if_pos rfl,if_pos rfl]
   ·rw[if_neg e,if_neg e]
theorem pK {kvs:List c6}{k k':Lv 5}{b:Addr}{v:V}:cu (bI kvs k b v) k' = if k' = k then some v else cu kvs k':=by
 unfold bI
 cases h:cu kvs k with
 | none=>rw[if_neg (by simp)];exact jX h
 | some u =>
  rw[if_pos (by simp),pO,h];rfl
theorem fZ {kvs:List c6}{k:Lv 5}{b:Addr}{v:V}:(bI kvs k b v).length <= kvs.length + 1:=by
 unfold bI
 split
 ·rw[length_map];omega
 ·rw[length_append];exact le_refl _
theorem iU {kvs:List c6}{k:Lv 5}{b:Addr}{v:V}{F:Lv 5->Addr->Prop}(h:∀ x ∈ kvs,F x.1 x.2.1)(hk:F k b):∀ x ∈ bI kvs k b v,F x.1 x.2.1:=by
 intro x hx
 unfold bI at hx
 split at hx
 ·obtain⟨y,hy,rfl⟩:=mem_map.mp hx
  unfold jB
  split
  ·exact h y hy
  ·exact h y hy
 ·rcases mem_append.mp hx with q | q
  ·exact h x q
  ·rw[mem_singleton.mp q];exact hk
theorem m5 {kvs:List c6}{xs:List (Lv 5 × Addr × Value)}(r:Paired eG kvs xs)(k:Lv 5):Aa (cu kvs k) ((atKey xs k).map (·.2)):=by
 induction r with
 | nil=>exact True.intro
 | @cons p q _ _ h1 _ ih =>
  rw[bR]
  unfold atKey at ih ⊢
  rw[find?_cons]
  by_cases e:p.1=k
  ·rw[if_pos e,decide_eq_true (h1.1.symm.trans e)];exact h1.2.2
  ·rw[if_neg e,decide_eq_false (fun z=>e (h1.1.trans z))];exact ih
theorem tH {kvs:List c6}{xs:List (Lv 5 × Addr × Value)}{k:Lv 5}{v:V}{u:Value}(r:Paired eG kvs xs)(hv:RelV v u):Paired eG (kvs.map (jB k v)) (xs.map (putAt k u)):=by
 induction r with
 | nil=>exact .nil
 | @cons p q _ _ h1 _ ih =>
  refine .cons ?_ ih
  unfold jB putAt
  by_cases e:p.1=k
  ·rw[if_pos e,if_pos (h1.1.symm.trans e)];exact⟨h1.1,h1.2.1,hv⟩
  ·rw[if_neg e,if_neg (fun z=>e (h1.1.trans z))];exact h1
theorem q5 {kvs:List c6}{xs:List (Lv 5 × Addr × Value)}{p:c6}{q:Lv 5 × Addr × Value}(r:Paired eG kvs xs)(h:eG p q):Paired eG (kvs ++ [p]) (xs ++ [q]):=by
 induction r with
 | nil=>exact .cons h .nil
 | cons h1 _ ih=>exact .cons h1 ih
theorem m6 {kvs:List c6}{xs:List (Lv 5 × Addr × Value)}{k:Lv 5}{b:Addr}{v:V}{u:Value}(r:Paired eG kvs xs)(hv:RelV v u):Paired eG (bI kvs k b v) (storedH xs k b u):=by
 have h:=dq (m5 r k)
 rw[Option.isSome_map]at h
 unfold bI storedH
 rw[h]
 split
 ·exact tH r hv
 ·exact q5 r ⟨rfl,rfl,hv⟩
section
variable {P:Program}{w:World}{H:Hp}{h:Heap}{a b:Addr}{kvs:List c6}{k:Lv 5}
theorem jq (ok:Ab P w H h)(e:zd P w H a kvs):kvs.length <= sizeLine/\(a == sysModules)=false/\∃ xs,Paired eG kvs xs/\h.DictOfH (Hq P w) a xs:=by
 obtain⟨e,ek⟩:=e
 obtain⟨⟨z,hs,xs,r,o,es,ep,h1,h2,h3,h4,h5⟩,_⟩:=ok _ _ e
 refine⟨z,hs,xs,r,o,es,ep,h1,h2,h3,h4,?_,h5⟩
 have all:∀ {kvs:List c6}{xs:List (Lv 5 × Addr × Value)},Paired eG kvs xs->(∀ x ∈ kvs,yL 5 H x.1 x.2.1)->∀ x ∈ xs,(Hq P w).is h x.1 x.2.1:=by
  intro kvs xs r
  induction r with
  | nil=>intro _ x hx;cases hx
  | @cons p q _ _ h1 _ ih =>
   intro hk x hx
   rcases mem_cons.mp hx with rfl | hx
   ·have:=hk p mem_cons_self
    rw[h1.1,h1.2.1]at this
    exact vf ok this
   ·exact ih (fun y hy=>hk y (mem_cons_of_mem _ hy)) x hx
 exact all r ek
theorem fM (h1 h2:Heap)(p:fA P w a kvs h1)(st:∀ o,h1.get? a=some o->h2.get? a=some o):fA P w a kvs h2:=by
 obtain⟨z,hs,xs,r,o,es,ep,q,c⟩:=p
 exact⟨z,hs,xs,r,o,es,ep,st _ q,c⟩
theorem qC (hb:sysModules < h.objs.size):yU P w H (h.push { cls := .type "dict",data := .dict #[] }) h.objs.size (aZ P w h.objs.size []) :=
 ⟨⟨zero_le _,beq_eq_false_iff_ne.mpr (Ne.symm (ne_of_lt hb)),[], .nil,_,#[],0,Heap.get?_push_size _ rfl,⟨rfl,rfl,rfl⟩,rfl,rfl,nodup_nil⟩,⟨_,Heap.get?_push_size _ rfl⟩,fun _ _=>fM _ _⟩
end
noncomputable def wj (P:Program)(w:World)(H:Hp)(a:Addr)(y:V)(r:Option V):Prop:=∃ kvs k b,zd P w H a kvs/\y = .ref b/\yL 5 H k b/\r=cu kvs k
section
variable {X:Cx}{pins:List (Addr × Obj)}{σ:St}{H:Hp}{s:Shared}{a b:Addr}{y v d:V}{u r:Value}{o:Option V}{A:Around}{E:Value->Shared->Prop}
theorem sM {Q:Value->Shared->Prop}(hu:A.units + 8 < cLine)(I:Inv X pins σ H s)(g:wj X.prog X.w H a y o)(ry:RelV y u)(h:∀ s',Inv X pins σ H s'->Q (.bool (!o.isSome)) s') :
  wpAny (model X.prog X.w) A (compareOp .NotIn u (.ref a)) Q E s:=by
 obtain⟨kvs,k,b,e,rfl,eb,rfl⟩:=g
 cases (show u=Value.ref b from ry)
 obtain⟨_,hd,xs,rel,dd⟩:=jq I.yE e
 refine wpAny_notIn_heap (vU hu) (vf I.yE eb) hd dd ?_
 have q:=dq (m5 rel k)
 rw[Option.isSome_map]at q
 rw[← q]
 exact h _ (I.tok _)
theorem xD {kvs:List c6}{k:Lv 5}{Q:Unit->Shared->Prop}(hu:A.units + 8 < cLine)(I:Inv X pins σ H s)(e:zd X.prog X.w H a kvs)(eb:yL 5 H k b)(hl:kvs.length < sizeLine)(rv:RelV v r)
  (h:∀ s',Inv X pins σ (upd H a (aZ X.prog X.w a (bI kvs k b v))) s'->Q () s'):wpAny (model X.prog X.w) A (setItem (.ref a) (.ref b) r) Q E s:=by
 obtain⟨z,hd,xs,rel,dd⟩:=jq I.yE e
 have hz:xs.length <= sizeLine:=by rw[← Paired.length rel];exact z
 have Ag:(bI kvs k b v).length <= sizeLine:=le_trans fZ hl
 refine wpAny_setItem_heap (hsz:=hz) (vU hu) (vf I.yE eb) dd fun h' Jf hs=>h _ ?_
 obtain⟨q,es,ep,hq,h2,h3,h4,_,h5⟩:=Jf
 exact I.write (x:=a) (e:=a) (by rw[e.1];exact True.intro) (.inl rfl) (fun c q hc z=>(hs.2 c hc).trans z) ⟨q,hq⟩
  ⟨⟨Ag,hd,_,m6 rel rv,q,es,ep,hq,h2,h3,h4,h5⟩,⟨q,hq⟩,fun _ _=>fM _ _⟩
end
noncomputable def i9 (P:Program)(w:World)(ty td:TE):TE:=fun σ H Q=>ty σ H fun y H1=>td σ H1 fun x H2=>∃ a o,x = .ref a/\wj P w H2 a y o/\Q (.bl (!o.isSome)) H2
noncomputable def n8 (P:Program)(w:World)(td ty tv:TE):TS:=fun D σ H=>tv σ H fun v H1=>td σ H1 fun x H2=>ty σ H2 fun y H3=>∃ a kvs k b,x = .ref a/\zd P w H3 a kvs/\y = .ref b/\yL 5 H3 k b/\kvs.length < sizeLine/\D.nx σ (upd H3 a (aZ P w a (bI kvs k b v)))
section
variable {X:Cx}{o i e f value:Expr}{pos pos' apos zr:Pos}{td ty tv tx:TE}
theorem iY (hu:X.A.units + 8 < cLine)(hi:PE X i ty)(ho:PE X o td):PC X .NotIn i o (i9 X.prog X.w ty td):=by
 intro pins s σ H Q I h
 refine b5 (hi pins s σ H _ I h) fun iv s1 ⟨y,H1,I1,ry,q1⟩=>b5 (ho pins s1 σ H1 _ I1 q1) fun u s2 y8=>?_
 obtain⟨x,H2,I2,rx,a,ov,ex,g,q2⟩:=y8
 subst ex
 obtain rfl:u=Value.ref a:=rx
 exact sM hu I2 g ry fun s3 I3=>⟨.bl (!ov.isSome),H2,I3,rfl,q2⟩
theorem lJ (hu:X.A.units + 8 < cLine)(ho:PE X o td)(hi:PE X i ty)(hv:PE X value tv)(hs:swapsWith value (some (.Subscript o i pos')) pos.line X.env=pure false) :
  PS X (.Assign [.Subscript o i pos'] value pos) (n8 X.prog X.w td ty tv):=by
 intro pins s σ H D I h
 refine wpAny_Assign_Subscript (b5 (hv pins s σ H _ I h) fun r s1 ⟨v,H1,I1,rv,q1⟩=>b5 (ho pins s1 σ H1 _ I1 q1) fun u s2 ⟨x,H2,I2,rx,q2⟩=>b5 (hi pins s2 σ H2 _ I2 q2) fun iv s3 y8=>?_) hs
 obtain⟨y,H3,I3,ry,a,kvs,k,b,ex,e,ey,eb,hl,q3⟩:=y8
 subst ex ey
 obtain rfl:u=Value.ref a:=rx
 obtain rfl:iv=Value.ref b:=ry
 exact xD hu I3 e eb hl rv fun s4 I4=>⟨σ,_,I4,q3⟩
end
noncomputable def nc (P:Program)(w:World)(tk tv:TE):TE:=fun σ H Q=>∀ p,H p=none->tk σ (upd H p (aZ P w p [])) fun y H1=>tv σ H1 fun v H2=>∃ k b,y = .ref b/\H2 p=some (aZ P w p [])/\yL 5 H2 k b/\Q (.ref p) (upd H2 p (aZ P w p [(k,b,v)]))
theorem wS {P:Program}{w:World}{A:Around}(hu:A.units + 8 < cLine):(Hq P w).room A:=by
 have e:∀ B:Around,B.in1.units=B.units + 1:=fun _=>rfl
 refine⟨?_,?_,?_,?_,?_,True.intro⟩<;>(try simp only[e])<;>omega
theorem lM {X:Cx}{pos:Pos}{ke ve:Expr}{tk tv:TE}(hu:X.A.units + 8 < cLine)(hk:PE X ke tk)(hv:PE X ve tv):PE X (.Dict [some ke] [ve] pos) (nc X.prog X.w tk tv):=by
 intro pins s σ H Q I q
 have hn:=I.yE.fresh (le_refl s.heap.objs.size)
 have I1:=I.laid (a:=s.heap.objs.size) (o:=aZ X.prog X.w s.heap.objs.size []) (h':=s.heap.push { cls := .type "dict",data := .dict #[] }) (t':=s.toks) (fun _ _ q=>Heap.get?_push_of_some _ q) (le_refl _) (qC (tT I))
 refine wpAny_Dict_any rfl rfl (by simp) (by show 1 <= 15;decide) (b5 ((se hk hv (uv (pos:=pos))) pins _ σ _ (fun ps H2=>match ps with
  | [(y,v)]=>∃ k b,y = .ref b/\H2 s.heap.objs.size=some (aZ X.prog X.w s.heap.objs.size [])/\yL 5 H2 k b/\Q (.ref s.heap.objs.size) (upd H2 s.heap.objs.size (aZ X.prog X.w s.heap.objs.size [(k,b,v)]))
  | _=>False) I1 (q _ hn)) fun ws s2 ⟨ps,H2,I2,rel,qq⟩=>?_)
 match ps,qq with
 | [(_,v)],⟨k,b,rfl,e,kb,q2⟩ =>
  cases rel with
  | @cons _ x _ _ h1 t =>
   cases t
   obtain⟨u1,u2⟩:=x
   obtain⟨r1,r2⟩:=h1
   obtain rfl:u1=Value.ref b:=r1
   have ed:zd X.prog X.w H2 s.heap.objs.size []:=⟨e,fun x hx=>by cases hx⟩
   obtain⟨z,hd,xs,rl,dd⟩:=jq I2.yE ed
   cases rl
   unfold storeAll
   simp only[forIn_cons,List.forIn_nil]
   refine wpAny_bind (wpAny_bind (wpAny_dictSet_heap (hsz:=zero_le _) (wS hu) (vf I2.yE kb) dd fun h' Jf hs=>?_))
   refine wpAny_pure (wpAny_pure ⟨.ref s.heap.objs.size,_,?_,rfl,q2⟩)
   obtain⟨q',es,ep,hq,h2,h3,h4,_,h5⟩:=Jf
   exact I2.write (x:=s.heap.objs.size) (e:=s.heap.objs.size) (by rw[e];exact True.intro) (.inl rfl) (fun c q hc z=>(hs.2 c hc).trans z) ⟨q',hq⟩
    ⟨⟨by show 1 <= sizeLine;decide,hd,_,m6 (kvs:=[]) .nil r2,q',es,ep,hq,h2,h3,h4,h5⟩,⟨q',hq⟩,fun _ _=>fM _ _⟩
end L2
namespace L2
open PySem
theorem bZ {J:It}{g:TG}{tt:TT}{te:TE}{σ0:St}{H:Hp}{Q:VK}(n:Nat)(hn:n < sizeLine)(W:Nat->List V->Hp->Prop)(h0:W 0 [] H)(hlen:∀ i acc H',W i acc H'->acc.length <= i)
  (turn:∀ i acc H',i < n->W i acc H'->J.go i H'/\∀ x H2,J.DK i H' x H2->g x σ0 H2 fun σ2 H3=>tt σ2 H3 fun b H4=>if b=true then te σ2 H4 fun y H5=>W (i + 1) (acc ++ [y]) H5 else W (i + 1) acc H4)
  (stop:∀ acc H',W n acc H'->J.stop n H'/\∀ D,H' D=none->Q (.ref D) (upd H' D (.lst acc))):dB J g tt te σ0 Q H:=by
 refine⟨fun i m acc H'=>m=n - i/\i <= n/\W i acc H',⟨n,by simp,zero_le _,h0⟩,?_⟩
 rintro i m acc H' ⟨rfl,hi,w⟩
 refine⟨by have:=hlen i acc H' w;omega,?_⟩
 by_cases yR:i < n
 ·obtain⟨go,q⟩:=turn i acc H' yR w
  exact .inr ⟨go,fun zg H2=>W (i + 1) zg H2,fun zg H2 w2=>⟨n - (i + 1),by omega,rfl,yR,w2⟩,q⟩
 ·have e:i=n:=by omega
  subst e
  exact .inl (stop acc H' w)
theorem y1.new {H H':Hp}{a:Addr}{o:HO}(h:y1 H H')(n:H' a=none):y1 H (upd H' a o):=fun b u e=>by rw[af (ag (h _ _ e) n)];exact h _ _ e
end L2
namespace L2
open PySem
theorem yW {N P:List Str}{sc:Scope}(a:autoParam (sc.kind = .function) η)(b:autoParam (sc.isCoroutine=false) η)(c:autoParam (sc.isGenerator=false) η)(d:autoParam (N.Nodup) ξ)(e:autoParam (N.take P.length=P) η)(f:autoParam (∀ x ∈ P,sc.names.lookup x=some .local∨sc.names.lookup x=some .cell) ξ)(g:autoParam (∀ y ∈ sc.names,y.2 ≠ .free) ξ):ap N P sc:=⟨a,b,c,d,e,f,g⟩
theorem AN {N:List Str}{sc scope:Scope}{capN:List Str}{cap:List Nat}(a:autoParam (scope.kind = .function) η)(b:autoParam (∀ y ∈ scope.names,y.2 ≠ .cell) ξ)(c:autoParam (∀ y ∈ scope.names,y.2 = .local->scope.names.lookup y.1=some .local) ξ)(d:autoParam (∀ y ∈ scope.names,y.2 = .free->sc.names.lookup y.1=some .cell∨sc.names.lookup y.1=some .free) ξ)(e:autoParam (cap.length=capN.length) η)(f:autoParam (∀ p ∈ capN.zip cap,scope.names.lookup p.1=some .free/\N[p.2]? = some p.1) ξ):zP N sc scope capN cap:=⟨a,b,c,d,e,f⟩
end L2
namespace K70
open PySem L2
variable {P:Program}{w:World}{K:Frag}{mg:Str->Option Value}{base:Heap}
noncomputable def ca (i:Nat):Stmt:=PySem.Challenge.pw_wormyard_k70_whole_all_stands.main.body.getD i (.Pass ⟨0,0,0,0⟩)
abbrev ul:Stmt:=ca 2
abbrev rO:Stmt:=ca 3
abbrev wH:Stmt:=ca 4
abbrev fE:Stmt:=ca 19
abbrev io:Stmt:=ca 20
abbrev wJ:Stmt:=ca 21
abbrev wF:Stmt:=ca 25
abbrev lH:Stmt:=ca 28
abbrev OO:Stmt:=ca 29
abbrev fF:Stmt:=ca 38
abbrev rD:Stmt:=ca 39
abbrev lE:Stmt:=ca 40
abbrev nv:Stmt:=ca 44
abbrev rN:Stmt:=ca 45
abbrev kD:Stmt:=ca 46
abbrev rV:Stmt:=ca 48
abbrev wK:Stmt:=ca 49
abbrev nJ:Stmt:=ca 50
abbrev nD:Stmt:=ca 51
abbrev iP:Stmt:=ca 52
abbrev iO:Stmt:=ca 53
abbrev wP:Stmt:=ca 54
abbrev kI:Stmt:=ca 55
abbrev rM:Stmt:=ca 56
abbrev rT:Stmt:=ca 57
abbrev wR:Stmt:=ca 58
abbrev kH:Stmt:=ca 59
abbrev lG:Stmt:=aG (ca 26) 0
abbrev wQ:Stmt:=aG (ca 26) 2
abbrev rK:Stmt:=aG (ca 26) 3
abbrev lF:Stmt:=aG (ca 26) 4
abbrev wG:Stmt:=aG (ca 30) 0
abbrev rF:Stmt:=aG (ca 31) 0
abbrev nu:Stmt:=aG (ca 31) 1
abbrev wN:Stmt:=aG (ca 33) 0
abbrev rL:Stmt:=aG (ca 33) 1
abbrev wI:Stmt:=aG (ca 33) 2
abbrev nG:Stmt:=aG (ca 33) 3
abbrev rG:Stmt:=aG (ca 33) 4
abbrev nK:Stmt:=aG (ca 33) 5
abbrev wM:Stmt:=aG (ca 33) 6
abbrev wL:Stmt:=aG (ca 33) 7
abbrev rR:Stmt:=aG (ca 41) 0
abbrev rQ:Stmt:=aG (ca 41) 1
abbrev gx:Stmt:=aG (ca 42) 0
abbrev fV:Stmt:=aG (ca 42) 1
abbrev nA:Stmt:=aG (ca 42) 2
abbrev lD:Stmt:=aG (ca 42) 3
abbrev lC:Stmt:=aG (ca 42) 4
abbrev n9:Stmt:=aG (ca 42) 5
abbrev kG:Stmt:=aG (ca 42) 6
abbrev fU:Stmt:=aG (ca 42) 7
abbrev rP:Stmt:=aG (ca 42) 8
abbrev OP:Stmt:=aG (ca 42) 9
abbrev rU:Stmt:=aG (ca 42) 10
abbrev nH:Stmt:=aG (ca 42) 11
abbrev wO:Stmt:=aG (ca 42) 12
abbrev rJ:Stmt:=aG (ca 42) 13
abbrev rH:Stmt:=aG (ca 42) 14
abbrev fG:Stmt:=aG (ca 42) 15
abbrev nE:Stmt:=aG (ca 42) 16
abbrev rE:Stmt:=aG (ca 42) 18
abbrev nB:Stmt:=aG (ca 42) 19
abbrev kE:Stmt:=aG (ca 42) 20
abbrev rS:Stmt:=aG (ca 42) 21
abbrev n0:Stmt:=aG (ca 42) 22
abbrev rW:Stmt:=aG (ca 42) 23
abbrev nr:Stmt:=aG (ca 42) 24
structure dJ (mg:Str->Option Value):Prop where
 Hr:mg "isinstance" = none
 int:mg "int" = none
 bool:mg "bool" = none
 len:mg "len" = none
 enum:mg "enumerate" = none
 tuple:mg "tuple" = none
 range:mg "range" = none
 list:mg "list" = none
 all:mg "all" = none
 sum:mg "sum" = none
 abs:mg "abs" = none
 str:mg "str" = none
 max:mg "max" = none
 rev:mg "reversed" = none
noncomputable def vA (H:Hp)(v:V)(p:Int × Int):Prop:=∃ t,v = .ref t/\H t=some (.tup [.int p.1, .int p.2])
abbrev yT (H:Hp):List V->List (Int × Int)->Prop:=Paired (vA H)
theorem yT.same {H H':Hp}(h:y1 H H'):∀ {vs:List V}{ps:List (Int × Int)},yT H vs ps->yT H' vs ps:=fun y8=>by
 induction y8 with
 | nil=>exact .nil
 | cons zz r ih=>obtain⟨t,e,q⟩:=zz;exact .cons ⟨t,e,h _ _ q⟩ ih
theorem yT.get {H:Hp}:∀ {vs:List V}{ps:List (Int × Int)}{i:Nat}{v:V},yT H vs ps->vs[i]? = some v->∃ p,ps[i]? = some p/\vA H v p:=by
 intro _ _ i _ y8
 induction y8 generalizing i with
 | nil=>intro h;cases h
 | cons x r ih =>
  intro h
  cases i with
  | zero=>cases h;exact⟨_,rfl,x⟩
  | succ i=>exact ih (i:=i) h
theorem yT.F6 {H:Hp}:∀ {vs:List V}{ps:List (Int × Int)}{i:Nat}{p:Int × Int},yT H vs ps->ps[i]? = some p->∃ v,vs[i]? = some v/\vA H v p:=by
 intro _ _ i _ y8
 induction y8 generalizing i with
 | nil=>intro h;cases h
 | cons x r ih =>
  intro h
  cases i with
  | zero=>cases h;exact⟨_,rfl,x⟩
  | succ i=>exact ih (i:=i) h
theorem yT.snoc {H:Hp}{v:V}{p:Int × Int}(h:vA H v p):∀ {vs:List V}{ps:List (Int × Int)},yT H vs ps->yT H (vs ++ [v]) (ps ++ [p]):=fun y8=>by
 induction y8 with
 | nil=>exact .cons h .nil
 | cons q r ih=>exact .cons q ih
noncomputable def gG (n:Int)(p:Int × Int):Bool:=decide (0 <= p.1/\p.1 <= n - 1) && (decide (0 <= p.2/\p.2 <= n - 1) && !decide (p.1=p.2))
noncomputable def kj:Sp:=fun vs H Q _=>∃ i:Int,vs=[.int i]/\Q (.bl true) H
noncomputable def iF:Sp:=fun vs H Q _=>∃ i a b:Int,vs=[.int i, .int a, .int b]/\Q (.bl (decide (a <= i/\i <= b))) H
noncomputable def qZ:Sp:=fun vs H Q _=>∃ n a b:Int,vs=[.int n, .int a, .int b]/\Q (.bl (gG n (a,b))) H
theorem oU:ap ["value"] ["value"] (aj fE):=L2.yW
theorem lP {f:Addr}{fd:FuncData}(F:yS K "is_whole" "is_whole" fE f fd)(T:dJ mg):y2 P w K mg base az 1 f fd ["value"] kj:=by
 refine F.ok oU (fun _ _ _ _ h=>?_) (fun _ _ _ s H _ Q E hr h=>?_)
 ·obtain⟨m,rfl,_⟩:=h
  rfl
 ·obtain⟨i,rfl,q⟩:=h
  refine⟨_,ah (ar (cG (au mJ rfl T.Hr PyProof.Rows.boot_isinstance (aa (pv 0) (aa (eO (v := .ty "int") rfl T.int PySem.Pv.boot_int rfl) ad)))
   (cF (kP (au mJ rfl T.Hr PyProof.Rows.boot_isinstance (aa (pv 0) (aa (eO (v := .ty "bool") rfl T.bool PySem.Pv.boot_bool rfl) ad))))))),?_⟩
  refine⟨_,rfl, .inl ⟨i,rfl,true,rfl,?_⟩⟩
  refine aK ?_
  exact⟨_,rfl, .inr (.inl ⟨i,rfl,false,rfl,q⟩)⟩
theorem lB:ap ["value", "least", "most"] ["value", "least", "most"] (aj io):=L2.yW
theorem qe {f fh:Addr}{fd Br:FuncData}(F:yS K "is_within" "is_within" io f fd)(T:dJ mg)(mh:mg "is_whole" = some (.ref fh))(Fh:yS K "is_whole" "is_whole" fE fh Br)(bh:Binds K Br ["value"] []) :
  y2 P w K mg base az 2 f fd ["value", "least", "most"] iF:=by
 have G:y2 P w K mg base az 1 fh Br ["value"] kj:=lP Fh T
 refine F.ok lB (fun _ _ _ _ h=>?_) (fun _ _ _ s H _ Q E hr h=>?_)
 ·obtain⟨i,a,b,rfl,_⟩:=h
  rfl
 ·obtain⟨i,a,b,rfl,q⟩:=h
  refine⟨_,ah (ar (cG (av G hr rfl mh Fh.kp bh .nil ao (aa (pv 0) ad)) (cF (lN lO lO (pv 1) (pv 0) (pv 2))))),?_⟩
  refine⟨_,rfl,i,rfl,true,rfl,aK ?_⟩
  refine⟨_,rfl,_,rfl,_,_,rfl,rfl,_,rfl,?_⟩
  by_cases h1:a <= i
  ·rw[decide_eq_true h1]
   refine aK ⟨_,rfl,_,_,rfl,rfl,?_⟩
   show Q (V.bl (decide (i <= b))) H
   by_cases h2:i <= b
   ·rw[decide_eq_true h2];rw[decide_eq_true ⟨h1,h2⟩]at q;exact q
   ·rw[decide_eq_false h2];rw[decide_eq_false fun z=>h2 z.2]at q;exact q
  ·rw[decide_eq_false h1]
   refine aF ?_
   rw[decide_eq_false fun z=>h1 z.1]at q;exact q
theorem E8:ap ["places", "one", "other", "last"] ["places", "one", "other"] (aj wF):=L2.yW
theorem xh {f fh:Addr}{fd Br:FuncData}(F:yS K "are_two_places" "are_two_places" wF f fd)(mh:mg "is_within" = some (.ref fh))(kh:keepIn K (.ref fh)=true)(bh:Binds K Br ["value", "least", "most"] [])
  (G:y2 P w K mg base az 2 fh Br ["value", "least", "most"] iF) :
  y2 P w K mg base az 3 f fd ["places", "one", "other"] qZ:=by
 refine F.ok E8 (fun _ _ _ _ h=>?_) (fun _ _ _ s H _ Q E hr h=>?_)
 ·obtain⟨i,a,b,rfl,_⟩:=h
  rfl
 ·obtain⟨n,a,b,rfl,q⟩:=h
  refine⟨_,ae (aw (i:=3) E8.nd rfl (Or.inl rfl) (aA cT (pv 0) ai))
   (ah (ar (cG (av G hr rfl mh kh bh .nil ao (aa (pv 1) (aa ai (aa (pv 3) ad))))
    (cG (av G hr rfl mh kh bh .nil ao (aa (pv 2) (aa ai (aa (pv 3) ad)))) (cF (c8 oW (pv 1) (pv 2) (aB _))))))),?_⟩
  refine⟨_,rfl,_,_,rfl,rfl,?_⟩
  refine⟨_,rfl,_,rfl,a,0,n - 1,rfl,_,rfl,?_⟩
  unfold gG at q
  dsimp only at q
  by_cases h1:0 <= a/\a <= n - 1
  ·rw[decide_eq_true h1]at q ⊢
   rw[Bool.true_and]at q
   refine aK ⟨_,rfl,_,rfl,b,0,n - 1,rfl,_,rfl,?_⟩
   by_cases h2:0 <= b/\b <= n - 1
   ·rw[decide_eq_true h2]at q ⊢
    rw[Bool.true_and]at q
    refine aK ⟨_,rfl,_,rfl,rfl,?_⟩
    have e:decide (V.int a=V.int b)=decide (a=b):=by
     by_cases h:a=b
     ·rw[h];simp
     ·rw[decide_eq_false h,decide_eq_false fun z=>h (by injection z)]
    show Q (V.bl (!decide (V.int a=V.int b))) H
    rw[e];exact q
   ·rw[decide_eq_false h2]at q ⊢
    exact aF q
  ·rw[decide_eq_false h1]at q ⊢
   exact aF q
end K70
namespace L2
open PySem
end L2
namespace K70
open PySem L2
variable {P:Program}{w:World}{K:Frag}{mg:Str->Option Value}{base:Heap}
inductive Due | places | many (k:Nat) | yO (k:Nat) | good
noncomputable def mQ (n:Int)(ps:List (Int × Int)):Option Nat:=ps.findIdx? fun p=>!gG n p
noncomputable def eD (n:Int)(ps:List (Int × Int)):Due:=if decide (1 <= n/\n <= 12)=false then .places else if 40 < ps.length then .many ps.length else match mQ n ps with | some k => .yO k | none => .good
structure Cs where
 land:Addr
noncomputable def dX (H:Hp)(c:Cs)(x dx t:Addr)(n:Int)(yH:List V)(ps:List (Int × Int)):Prop:=H x=some (.ins c.land dx [("places", .int n),("lanes", .ref t)])/\H t=some (.tup yH)/\yT H yH ps
noncomputable def r6 (K:Frag)(c:Cs):Sp:=fun vs H Q E=>∃ x dx n p yB ps,vs=[.ref x, .int n, .ref p]/\H x=some (.ins c.land dx [])/\y6 K H p yB/\yT H yB ps/\yB.length <= 1000 /\
 (eD n ps = .places->False) /\
 (∀ k,eD n ps = .many k->False) /\
 (∀ k,eD n ps = .yO k->False) /\
 (eD n ps = .good->∀ H' t yH,(∀ b o,b ≠ x->H b=some o->H' b=some o)->dX H' c x dx t n yH ps->Q .yK H')
noncomputable def qS (s:Stmt):Scope:=match s with
 | .Assign _ (.Call _ [.ListComp _ _ sc _] _ _) _=>sc
 | _=>zQ0
noncomputable def iR (s:Stmt):Scope:=match aM s with
 | .Return (some (.ListComp _ _ sc _)) _ :: _=>sc
 | _=>zQ0
abbrev NI:List Str:=["self", "places", "lanes", "lane", "pair"]
structure qL (K:Frag)(c:Cs):Prop where
 cl:Bd K c.land
 np:yI K c.land "places"
 nl:yI K c.land "lanes"
theorem js {n:Int}{ps:List (Int × Int)}(h:∀ p ∈ ps,gG n p=true):mQ n ps=none:=by
 unfold mQ
 rw[List.findIdx?_eq_none_iff]
 intro p hp
 rw[h p hp];rfl
theorem oB {n:Int}{ps:List (Int × Int)}{i:Nat}{p:Int × Int}(h:∀ q ∈ ps.take i,gG n q=true)(hi:ps[i]? = some p)(hb:gG n p=false):mQ n ps=some i:=by
 unfold mQ
 rw[List.findIdx?_eq_some_iff_getElem]
 obtain⟨yR,e⟩:=List.getElem?_eq_some_iff.mp hi
 refine⟨yR,by rw[e,hb];rfl,fun j hj=>?_⟩
 have hm:ps[j]'(Nat.lt_trans hj yR) ∈ ps.take i:=List.mem_take_iff_getElem.mpr ⟨j,by omega,rfl⟩
 rw[h _ hm];simp
noncomputable def Off (x:Addr)(H H':Hp):Prop:=∀ b o,b ≠ x->H b=some o->H' b=some o
theorem Off.sq {K:Frag}{H H':Hp}{x p C dx:Addr}{fs:List (Str × V)}{xs:List V}(o:Off x H H')(hx:H x=some (.ins C dx fs))(h:y6 K H p xs):y6 K H' p xs:=by
 rcases h with (h | ⟨ob,h⟩) | h
 ·exact .inl (.inl (o _ _ (aR h hx (by intro z;cases z)) h))
 ·exact .inl (.inr ⟨ob,o _ _ (aR h hx (by intro z;cases z)) h⟩)
 ·exact .inr h
theorem Off.CB {H H':Hp}{x C dx:Addr}{fs:List (Str × V)}(o:Off x H H')(hx:H x=some (.ins C dx fs)):∀ {vs:List V}{ps:List (Int × Int)},yT H vs ps->yT H' vs ps:=fun y8=>by
 induction y8 with
 | nil=>exact .nil
 | cons zz r ih=>obtain⟨t,e,q⟩:=zz;exact .cons ⟨t,e,o _ _ (aR q hx (by intro z;cases z)) q⟩ ih
theorem BP:ap NI ["self", "places", "lanes"] (aj lG):=L2.yW
theorem ym:zP NI (aj lG) (qS ((aM lG).getD 4 (.Pass ⟨0,0,0,0⟩))) [] []:=L2.AN
theorem xI:(["pair"]:List Str).Nodup:=by decide +kernel
theorem uQ {c:Cs}{f fw ft:Addr}{fd dw dt:FuncData}{t1 t2:Tok}(F:yS K "__init__" "Land.__init__" lG f fd)(T:dJ mg)(L:qL K c)
  (mw:mg "is_within" = some (.ref fw)) (kw:keepIn K (.ref fw)=true) (bw:Binds K dw ["value", "least", "most"] []) (Gw:y2 P w K mg base az 2 fw dw ["value", "least", "most"] iF)
  (mt:mg "are_two_places" = some (.ref ft)) (kt:keepIn K (.ref ft)=true) (bt:Binds K dt ["places", "one", "other"] []) (Gt:y2 P w K mg base az 3 ft dt ["places", "one", "other"] qZ)
  (mp:mg "MOST_PLACES" = some (.int 12 t1)) (ml:mg "MOST_LANES" = some (.int 40 t2)) :
  y2 P w K mg base az 4 f fd ["self", "places", "lanes"] (r6 K c):=by
 refine F.ok BP (fun _ _ _ _ h=>?_) (fun _ _ _ s H _ Q E hr h=>?_)
 ·obtain⟨x,dx,n,p,yB,ps,rfl,_⟩:=h
  rfl
 ·obtain⟨x,dx,n,p,yB,ps,rfl,hx,hp,hl,hlen,h1,h2,h3,h4⟩:=h
  have zV:yC 2 _:=hr.mono (by decide)
  refine⟨_,ae (aP (ck (bD (av Gw zV rfl mw kw bw .nil ao (aa (pv 1) (aa ai (aa (eN (v := .int 12) rfl mp ⟨_,rfl⟩) ad))))))
    (ah bJ) aD)
   (ae (aP (ax oX (au aq rfl T.len PySem.boot_len (aa (pv 2) ad)) (eN (v := .int 40) rfl ml ⟨_,rfl⟩) (aB _))
    (ah bJ) aD)
   (ae (bL PassesOwn.never rfl (lL rfl T.enum (aa (pv 2) ad)) (gE rfl (bF (ay (i:=3) BP.nd rfl (Or.inl rfl)) (bF (ay (i:=4) BP.nd rfl (Or.inl rfl)) eM)))
    (ah (aP (ck (bD (av Gt hr rfl mt kt bt .nil ao (aa (pv 1) (aa (aC aE (pv 4) ai (fun _ _=>rfl)) (aa (aC aE (pv 4) ai (fun _ _=>rfl)) ad))))))
     (ah bJ) aD)))
   (ae (bj (pv 0) (pv 1) rfl)
   (ah (bj (pv 0) (aJ aT rfl T.tuple PySem.Pv.boot_tuple (aa (bH (own:=["pair"]) (capN:=[]) (cap:=[]) ym rfl (bz (pv 2))
    (fun C s' H' fp=>⟨ay (i:=0) xI rfl (Or.inl rfl),ci,aW (aa (aC (show qH _ (lI K) from aE) (pv 0) ai (fun _ _=>rfl)) (aa (aC (show qH _ (lI K) from aE) (pv 0) ai (fun _ _=>rfl)) ad))⟩)) ad)) rfl))))),?_⟩
  refine⟨_,rfl,n,1,12,rfl,_,rfl,?_⟩
  by_cases hn:1 <= n/\n <= 12
  rotate_left
  ·rw[decide_eq_false hn]
   exact aK (h1 (by unfold eD;rw[if_pos (decide_eq_false hn)]))
  rw[decide_eq_true hn]
  refine aF ?_
  have D8:yB.length=ps.length:=Paired.length hl
  refine⟨_,rfl,p,_,rfl, .inl hp,_,_,rfl,rfl,_,rfl,?_⟩
  by_cases hm:40 < ps.length
  ·rw[decide_eq_true (show (40:Int) < (yB.length:Nat) by omega)]
   refine aK (h2 ps.length ?_)
   unfold eD
   rw[decide_eq_true hn,if_neg (by decide),if_pos hm]
  rw[decide_eq_false (show ¬ (40:Int) < (yB.length:Nat) by omega)]
  refine aF ?_
  refine⟨_,rfl,p,rfl,⟨_,hp⟩,mq (sq:=fun H=>y6 K H p) (xs:=yB) (fun i σ H2=>∃ a b:Option V,y1 H H2/\σ=[some (.ref x),some (.int n),some (.ref p),a,b]/\∀ q ∈ ps.take i,gG n q=true)
   ⟨none,none,y1.refl H,rfl,fun q hq=>by simp at hq⟩ (fun i σ H2 _ y8=>by obtain⟨a,b,s2,_⟩:=y8;exact s2.seq hp) ?_ ?_⟩
  ·rintro i v q σ H2 hv ⟨a,b,s2,rfl,Az⟩ hq
   obtain⟨pr,BQ,t,rfl,ht⟩:=yT.get hl hv
   have s3:y1 H (upd H2 q (.tup [.int i, .ref t])):=s2.new hq
   refine⟨q,_,rfl,yD.of ac,rfl,_,_,rfl,_,_,rfl,rfl,?_⟩
   have D6:yD K (upd H2 q (.tup [.int i, .ref t])) t [.int pr.1, .int pr.2]:=yD.of (s3 _ _ ht)
   refine⟨_,rfl,_,rfl,t,_,0,_,rfl,rfl,D6,ak (j:=0) rfl,?_⟩
   refine⟨_,rfl,t,_,1,_,rfl,rfl,D6,ak (j:=1) rfl,n,pr.1,pr.2,rfl,_,rfl,?_⟩
   cases ho:gG n (pr.1,pr.2) with
   | true =>
    refine aF ⟨some (.int i),some (.ref t),s3,rfl,fun z hz=>?_⟩
    rw[take_succ,BQ]at hz
    rcases mem_append.mp hz with hz | hz
    ·exact Az z hz
    ·have:z=pr:=by simpa using hz
     rw[this];exact ho
   | false =>
    refine aK (h3 i ?_)
    unfold eD
    rw[decide_eq_true hn,if_neg (by decide),if_neg hm,oB Az BQ ho]
  ·rintro σ H2 ⟨a,b,s2,rfl,Az⟩
   have Jr:eD n ps = .good:=by
    unfold eD
    rw[decide_eq_true hn,if_neg (by decide),if_neg hm,js (fun z hz=>Az z (by rw[D8,take_length];exact hz))]
   have D9:=s2 _ _ hx
   refine⟨_,rfl,_,rfl,x,c.land,dx,_,rfl,D9,L.cl,L.np,by show 0 < 1000;decide,?_⟩
   generalize TQ:upd H2 x (.ins c.land dx (aN "places" (.int n) []))=H3
   have o3:Off x H H3:=fun b o hb e=>by rw[← TQ,af hb];exact s2 _ _ e
   have x3:H3 x=some (.ins c.land dx [("places", .int n)]):=by rw[← TQ,ac];rfl
   have l3:yT H3 yB ps:=o3.CB hx hl
   have p3:y6 K H3 p yB:=o3.sq hx hp
   refine⟨_,rfl,p,rfl,⟨_,p3⟩,bZ yB.length (by rw[sizeLine_eq];omega) (fun i acc H4=>y1 H3 H4/\acc.length=i/\yT H4 acc (ps.take i)) ⟨y1.refl _,rfl, .nil⟩ (fun i acc H4 h=>le_of_eq h.2.1) ?_ ?_⟩
   ·rintro i acc H4 hi ⟨s4,ha,hA⟩
    have q4:=s4.seq p3
    refine⟨⟨yB,yB[i],q4,by simp[hi]⟩,fun y H5 ⟨e5,hy⟩=>?_⟩
    subst e5
    have hy:=hy yB q4
    obtain⟨pr,BQ,t,rfl,ht⟩:=yT.get l3 hy
    have D6:yD K H5 t [.int pr.1, .int pr.2]:=yD.of (s4 _ _ ht)
    refine⟨_,rfl,t,_,0,_,rfl,rfl,D6,ak (j:=0) rfl,?_⟩
    refine⟨_,rfl,t,_,1,_,rfl,rfl,D6,ak (j:=1) rfl,by show 2 <= sizeLine;decide,fun r D7=>?_⟩
    refine⟨s4.new D7,by rw[length_append,ha];rfl,?_⟩
    rw[take_succ,BQ]
    exact yT.snoc ⟨r,rfl,ac⟩ (yT.same (y1.new (y1.refl _) D7) hA)
   ·rintro acc H4 ⟨s4,ha,hA⟩
    have q4:=s4.seq p3
    refine⟨⟨yB,q4,le_refl _⟩,fun D hD=>?_⟩
    have s5:y1 H3 (upd H4 D (.lst acc)):=s4.new hD
    refine⟨D,acc,rfl, .inl ⟨y6.of ac,fun t ht=>?_⟩⟩
    have s6:y1 H3 (upd (upd H4 D (.lst acc)) t (.tup acc)):=s5.new ht
    have x6:=s6 _ _ x3
    refine⟨_,rfl,x,c.land,dx,_,rfl,x6,L.cl,L.nl,by show 1 < 1000;decide,?_⟩
    have htx:t ≠ x:=fun z=>by rw[z,s5 _ _ x3]at ht;cases ht
    refine h4 Jr _ t acc (fun b o hb e=>?_) ⟨by rw[ac];rfl,by rw[af htx,ac],?_⟩
    ·rw[af hb];exact s6 _ _ (o3 b o hb e)
    ·have hA':yT H4 acc ps:=by rw[D8,take_length]at hA;exact hA
     have x4:=s4 _ _ x3
     have hA6:yT (upd (upd H4 D (.lst acc)) t (.tup acc)) acc ps:=yT.same (y1.new (y1.new (y1.refl _) hD) ht) hA'
     exact Off.CB (x:=x) (fun b o hb e=>by rw[af hb];exact e) x6 hA6
noncomputable def lf (sel:Int × Int->Int)(ps:List (Int × Int))(pl:Int)(m:Nat):List V:=((List.range m).filter fun k=>decide (sel (ps.getD k (0,0))=pl)).map fun k:Nat=>V.int k
noncomputable def ue (c:Cs)(sel:Int × Int->Int):Sp:=fun vs H Q _=>∃ (x dx t:Addr)(n:Int)(yH:List V)(ps:List (Int × Int))(pl:Int),vs=[.ref x, .int pl]/\dX H c x dx t n yH ps/\ps.length <= 1000 /\
 ∀ H' D,y1 H H'->H' D=none->Q (.ref D) (upd H' D (.lst (lf sel ps pl ps.length)))
theorem lZ {sel:Int × Int->Int}{ps:List (Int × Int)}{pl:Int}{i:Nat}{pr:Int × Int}(h:ps[i]? = some pr):lf sel ps pl (i + 1)=if decide (sel pr=pl) then lf sel ps pl i ++ [V.int i] else lf sel ps pl i:=by
 have e:ps.getD i (0,0)=pr:=by rw[getD_eq_getElem?_getD,h];rfl
 unfold lf
 rw[range_succ,filter_append]
 by_cases hs:sel pr=pl
 ·rw[if_pos (decide_eq_true hs),List.filter_cons_of_pos (by rw[e];exact decide_eq_true hs)];simp
 ·rw[if_neg (by rw[decide_eq_false hs];decide),List.filter_cons_of_neg (by rw[e,decide_eq_false hs];decide)];simp
theorem pw {sel:Int × Int->Int}{ps:List (Int × Int)}{pl:Int}{i:Nat}:(lf sel ps pl i).length <= i:=by
 unfold lf
 rw[length_map]
 have:=length_filter_le (fun k=>decide (sel (ps.getD k (0,0))=pl)) (List.range i)
 rwa [length_range]at this
theorem Js:ap ["self", "place"] ["self", "place"] (aj rK):=L2.yW
theorem Jt:zP ["self", "place"] (aj rK) (iR rK) ["place"] [1]:=L2.AN
theorem wD:ap ["self", "place"] ["self", "place"] (aj lF):=L2.yW
theorem yl:zP ["self", "place"] (aj lF) (iR lF) ["place"] [1]:=L2.AN
theorem oZ:(["lane", "pair", "place"]:List Str).Nodup:=by decide +kernel
theorem jl (a b:Int):decide (V.int a=V.int b)=decide (a=b):=by
 by_cases h:a=b
 ·rw[h];simp
 ·rw[decide_eq_false h,decide_eq_false fun z=>h (by injection z)]
theorem xn {c:Cs}{f:Addr}{fd:FuncData}(F:yS K "out_of" "Land.out_of" rK f fd)(T:dJ mg)(L:qL K c):y2 P w K mg base az 1 f fd ["self", "place"] (ue c Prod.fst):=by
 refine F.ok Js (fun _ _ _ _ h=>?_) (fun _ _ _ s H _ Q E hr h=>?_)
 ·obtain⟨x,dx,t,n,yH,ps,pl,rfl,_⟩:=h
  rfl
 ·obtain⟨x,dx,t,n,yH,ps,pl,rfl,⟨hx,ht,hl⟩,hlen,q⟩:=h
  refine⟨_,ah (ar (bH (own:=["lane", "pair"]) (capN:=["place"]) (cap:=[1]) Jt rfl (lK rfl T.enum (aa (al (pv 0) rfl) ad))
   (fun C s' H' fp=>⟨(show PG _ _ (yf K 2 _) from gE rfl (bF (ay (i:=0) oZ rfl (Or.inl rfl)) (bF (ay (i:=1) oZ rfl (Or.inl rfl)) eM))),
    cK (ax bN (aC (show qH _ (lI K) from aE) (pv 1) ai (fun _ _=>rfl)) (pv 2) (aB _)),pv 0⟩))),?_⟩
  have D8:yH.length=ps.length:=Paired.length hl
  refine⟨_,rfl,x,c.land,dx,_,_,rfl,hx,L.cl,L.nl,rfl,t,rfl,⟨_,yD.of ht⟩,bZ ps.length (by rw[sizeLine_eq];omega) (fun i acc H4=>y1 H H4/\acc=lf Prod.fst ps pl i) ⟨y1.refl _,rfl⟩ (fun i acc H4 h=>by rw[h.2];exact pw) ?_ ?_⟩
  ·rintro i acc H4 hi ⟨s4,rfl⟩
   have q4:yD K H4 t yH:=yD.of (s4 _ _ ht)
   refine⟨⟨yH,yH[i]'(by omega),q4,by simp[D8,hi]⟩,fun y H5 ⟨r,BR,ey,h5⟩=>?_⟩
   obtain⟨v,hv,rfl⟩:=h5 yH q4
   subst ey
   obtain⟨pr,BQ,u,rfl,hu⟩:=yT.get hl hv
   have s5:y1 H (upd H4 r (.tup [.int i, .ref u])):=s4.new BR
   refine⟨r,_,rfl,yD.of ac,rfl,_,_,rfl,_,_,rfl,rfl,?_⟩
   refine⟨_,rfl,u,_,0,_,rfl,rfl,yD.of (s5 _ _ hu),ak (j:=0) rfl,_,rfl,rfl,_,rfl,?_⟩
   rw[jl,lZ BQ]
   cases hd:decide (pr.1=pl) with
   | true=>exact aK ⟨_,rfl,s5,by simp[hd]⟩
   | false=>exact aF ⟨s5,by simp[hd]⟩
  ·rintro acc H4 ⟨s4,rfl⟩
   exact⟨⟨yH,yD.of (s4 _ _ ht),D8⟩,fun D hD=>q H4 D s4 hD⟩
theorem uP {c:Cs}{f:Addr}{fd:FuncData}(F:yS K "into" "Land.into" lF f fd)(T:dJ mg)(L:qL K c):y2 P w K mg base az 1 f fd ["self", "place"] (ue c Prod.snd):=by
 refine F.ok wD (fun _ _ _ _ h=>?_) (fun _ _ _ s H _ Q E hr h=>?_)
 ·obtain⟨x,dx,t,n,yH,ps,pl,rfl,_⟩:=h
  rfl
 ·obtain⟨x,dx,t,n,yH,ps,pl,rfl,⟨hx,ht,hl⟩,hlen,q⟩:=h
  refine⟨_,ah (ar (bH (own:=["lane", "pair"]) (capN:=["place"]) (cap:=[1]) yl rfl (lK rfl T.enum (aa (al (pv 0) rfl) ad))
   (fun C s' H' fp=>⟨(show PG _ _ (yf K 2 _) from gE rfl (bF (ay (i:=0) oZ rfl (Or.inl rfl)) (bF (ay (i:=1) oZ rfl (Or.inl rfl)) eM))),
    cK (ax bN (aC (show qH _ (lI K) from aE) (pv 1) ai (fun _ _=>rfl)) (pv 2) (aB _)),pv 0⟩))),?_⟩
  have D8:yH.length=ps.length:=Paired.length hl
  refine⟨_,rfl,x,c.land,dx,_,_,rfl,hx,L.cl,L.nl,rfl,t,rfl,⟨_,yD.of ht⟩,bZ ps.length (by rw[sizeLine_eq];omega) (fun i acc H4=>y1 H H4/\acc=lf Prod.snd ps pl i) ⟨y1.refl _,rfl⟩ (fun i acc H4 h=>by rw[h.2];exact pw) ?_ ?_⟩
  ·rintro i acc H4 hi ⟨s4,rfl⟩
   have q4:yD K H4 t yH:=yD.of (s4 _ _ ht)
   refine⟨⟨yH,yH[i]'(by omega),q4,by simp[D8,hi]⟩,fun y H5 ⟨r,BR,ey,h5⟩=>?_⟩
   obtain⟨v,hv,rfl⟩:=h5 yH q4
   subst ey
   obtain⟨pr,BQ,u,rfl,hu⟩:=yT.get hl hv
   have s5:y1 H (upd H4 r (.tup [.int i, .ref u])):=s4.new BR
   refine⟨r,_,rfl,yD.of ac,rfl,_,_,rfl,_,_,rfl,rfl,?_⟩
   refine⟨_,rfl,u,_,1,_,rfl,rfl,yD.of (s5 _ _ hu),ak (j:=1) rfl,_,rfl,rfl,_,rfl,?_⟩
   rw[jl,lZ BQ]
   cases hd:decide (pr.2=pl) with
   | true=>exact aK ⟨_,rfl,s5,by simp[hd]⟩
   | false=>exact aF ⟨s5,by simp[hd]⟩
  ·rintro acc H4 ⟨s4,rfl⟩
   exact⟨⟨yH,yD.of (s4 _ _ ht),D8⟩,fun D hD=>q H4 D s4 hD⟩
noncomputable def vS:Sp:=fun vs H Q _=>∃ m k:Nat,vs=[.int m, .int k]/\Q (.bl (m.testBit k)) H
noncomputable def Ju (m:Nat):List V:=(Yd.IU m (Builtin.Int.intBits (m:Int))).map fun k:Nat=>V.int k
noncomputable def vN:Sp:=fun vs H Q _=>∃ m:Nat,vs=[.int m]/\m < 2 ^ 400/\∀ p,H p=none->Q (.ref p) (upd H p (.lst (Ju m)))
noncomputable def vJ (K:Frag):Sp:=fun vs H Q _=>∃ (a:Addr)(ks:List Nat),vs=[.ref a]/\y6 K H a (ks.map fun k:Nat=>V.int k)/\(∀ k ∈ ks,k <= 1000)/\Q (.int (Yd.zC ks 0:Nat)) H
theorem Jv:ap ["some", "number"] ["some", "number"] (aj ul):=L2.yW
theorem xA {f:Addr}{fd:FuncData}(F:yS K "has" "has" ul f fd):y2 P w K mg base az 1 f fd ["some", "number"] vS:=by
 refine F.ok Jv (fun _ _ _ _ h=>?_) (fun _ _ _ s H _ Q E hr h=>?_)
 ·obtain⟨m,k,rfl,_⟩:=h
  rfl
 ·obtain⟨m,k,rfl,q⟩:=h
  refine⟨_,ah (ar (cG (c8 oY (pv 1) ai (aB _)) (cF (c8 bN (aA sk (aA si (pv 0) (pv 1)) ai) ai (aB _))))),?_⟩
  refine⟨_,rfl,_,_,rfl,rfl,_,rfl,?_⟩
  rw[decide_eq_true (show (0:Int) <= (k:Int) by omega)]
  refine aK ?_
  refine⟨_,rfl,_,rfl,_,_,rfl,rfl,(show (0:Int) <= (k:Int) by omega),_,_,rfl,rfl,rfl,?_⟩
  have e:decide (V.int (Builtin.bitAnd ((m:Int) / 2 ^ (k:Int).toNat) 1)=V.int 1)=m.testBit k:=by
   rw[toNat_natCast,← Yd.Cc m k]
   by_cases h:Builtin.bitAnd ((m:Int) / 2 ^ k) 1=1
   ·rw[h];simp
   ·rw[decide_eq_false h,decide_eq_false fun z=>h (by injection z)]
  rw[e]
  exact q
theorem lT {ks:List Nat}{i:Nat}{x:V}(h:(ks.map fun k:Nat=>V.int k)[i]? = some x):∃ k,ks[i]? = some k/\x=V.int k:=by
 rw[getElem?_map]at h
 cases e:ks[i]? with
 | none=>rw[e]at h;cases h
 | some k=>rw[e]at h;exact⟨k,rfl,(Option.some.inj h).symm⟩
theorem Ce:ap ["numbers", "some", "number"] ["numbers"] (aj wH):=L2.yW
theorem xk {f:Addr}{fd:FuncData}(F:yS K "set_of" "set_of" wH f fd):y2 P w K mg base az 1 f fd ["numbers"] (vJ K):=by
 refine F.ok Ce (fun _ _ _ _ h=>?_) (fun _ _ _ s H _ Q E hr h=>?_)
 ·obtain⟨a,ks,rfl,_⟩:=h
  rfl
 ·obtain⟨a,ks,rfl,hS,hk,q⟩:=h
  refine⟨_,ae (aw (i:=1) Ce.nd rfl (Or.inl rfl) ai)
   (ae (bL PassesOwn.never rfl (bz (pv 0)) (ay (i:=2) Ce.nd rfl (Or.inl rfl))
    (ah (aw (i:=1) Ce.nd rfl (Or.inl rfl) (aA I0 (pv 1) (aA xa ai (pv 2))))))
   (ah (ar (pv 1)))),?_⟩
  refine⟨_,rfl,a,rfl,⟨_,hS⟩,cx (K:=K) (a:=a) (xs:=ks.map fun k:Nat=>V.int k) (fun i σ H2=>∃ v:Option V,H2=H/\σ=[some (.ref a),some (.int (Yd.zC (ks.take i) 0:Nat)),v])
   ⟨none,rfl,rfl⟩ (fun i σ H2 _ y8=>by obtain⟨_,e,_⟩:=y8;rw[e];exact hS) ?_ ?_⟩
  ·rintro i x σ H2 hx ⟨v,rfl,rfl⟩
   obtain⟨k,ek,rfl⟩:=lT hx
   have zL:=hk k (mem_of_getElem? ek)
   refine⟨_,rfl,_,rfl,_,_,rfl,rfl,⟨(show (0:Int) <= (k:Int) by omega),(show (k:Int) <= 1000000 by omega),(by decide)⟩,_,_,rfl,rfl,some (.int k),rfl,?_⟩
   have e:Builtin.bitOr ((Yd.zC (ks.take i) 0:Nat):Int) (1 * 2 ^ (k:Int).toNat)=((Yd.zC (ks.take (i + 1)) 0:Nat):Int):=by
    rw[take_succ,ek,toNat_natCast,Int.one_mul,show (2:Int) ^ k=((2 ^ k:Nat):Int) by rw[Int.natCast_pow];rfl,Yd.Cr,Yd.CQ]
    rfl
   show [some (V.ref a),some (V.int _),some (V.int k)]=_
   rw[e]
  ·rintro σ H2 ⟨v,rfl,rfl⟩
   refine⟨_,rfl,?_⟩
   rw[length_map,take_length]
   exact q
theorem Jw:ap ["some"] ["some"] (aj rO):=L2.yW
theorem Jx:(["number", "some"]:List Str).Nodup:=by decide +kernel
theorem Jy:zP ["some"] (aj rO) (iR rO) ["some"] [0]:=L2.AN
theorem xq {f fh:Addr}{fd Br:FuncData}(F:yS K "members" "members" rO f fd)(T:dJ mg)(mh:mg "has" = some (.ref fh))(Fh:yS K "has" "has" ul fh Br)(bh:Binds K Br ["some", "number"] []):y2 P w K mg base az 2 f fd ["some"] vN:=by
 have G:y2 P w K mg base az 1 fh Br ["some", "number"] vS:=xA Fh
 refine F.ok Jw (fun _ _ _ _ h=>?_) (fun _ _ _ s H _ Q E hr h=>?_)
 ·obtain⟨m,rfl,_⟩:=h
  rfl
 ·obtain⟨m,rfl,hm,q⟩:=h
  refine⟨_,ah (ar (bH (own:=["number"]) (capN:=["some"]) (cap:=[0]) Jy rfl
   (bE rfl T.range (aa (wX PySem.F.plainAttrs_int PySem.F.slot_int_bit_length PySem.F.type_int_bit_length va (pv 0)) ad))
   (fun C s' H' fp=>⟨ay (i:=0) Jx rfl (Or.inl rfl),cK (bD (av G hr rfl mh Fh.kp bh .nil ao (aa (pv 1) (aa (pv 0) ad)))),pv 0⟩))),?_⟩
  have hb:Builtin.Int.intBits (m:Int) <= 400:=Yd.bits_le hm
  refine⟨_,rfl,rfl,_,rfl,rfl,(Builtin.Int.intBits (m:Int):Nat),rfl,by omega,by omega,?_⟩
  rw[toNat_natCast]
  refine mD (fun k=>m.testBit k) (fun k=>V.int k) (by rw[sizeLine_eq];omega) (fun i acc N hi h=>?_) q
  refine⟨_,rfl,_,rfl,m,i,by simp,_,rfl,?_⟩
  cases e:m.testBit i with
  | true =>
   rw[e]at h
   refine aK ⟨_,rfl,?_⟩
   simpa using h
  | false =>
   rw[e]at h
   exact aF (by simpa using h)
noncomputable def iz (ks:List Nat):List Int:=ks.map fun k:Nat=>(k:Int)
theorem xV (ks:List Nat):(iz ks).map V.int=ks.map fun k:Nat=>V.int k:=by rw[iz,map_map];rfl
theorem Ah {ks:List Nat}{k:Int}:k ∈ iz ks↔∃ n ∈ ks,(n:Int)=k:=mem_map
theorem wx {ks:List Nat}{b:Nat}(h:∀ k ∈ ks,k < b):Yd.zC ks 0 < 2 ^ b:=by
 rw[← Yd.DS h]
 exact Yd.Bg ks b
theorem pQ {ks:List Nat}{k:Nat}:(Yd.zC ks 0).testBit k=decide ((k:Int) ∈ iz ks):=by
 rw[Yd.A0,Nat.zero_testBit,Bool.false_or]
 congr 1
 refine propext ⟨fun h=>Ah.mpr ⟨k,h,rfl⟩,fun h=>?_⟩
 obtain⟨n,hn,e⟩:=Ah.mp h
 have:n=k:=by omega
 rw[← this]
 exact hn
structure Rw where
 p:Int
 g:Int
 c:Option Nat
 s:List Nat
noncomputable def bA (r:Rw):fN:=[some r.p,some r.g,r.c.map fun k:Nat=>(k:Int)]
noncomputable def fO (sel:Int × Int->Int)(ps:List (Int × Int))(pl:Int):List Nat:=(List.range ps.length).filter fun k=>decide (sel (ps.getD k (0,0))=pl)
noncomputable def dZ (n:Int)(ps:List (Int × Int))(r:Rw):Bool :=
 gG n (r.p,r.g) && ((match r.c with | none=>true | some k=>decide (k ∈ fO Prod.snd ps r.p)) && r.s.all fun k=>decide (k ∈ fO Prod.fst ps r.p))
noncomputable def lQ (sel:Int × Int->Int)(ps:List (Int × Int))(pl:Int)(k:Nat):Bool:=decide (ps.length <= k) || !decide (sel (ps.getD k (0,0))=pl)
noncomputable def mP (n:Int)(ps:List (Int × Int))(ahead:List Rw)(r:Rw):Bool :=
 !gG n (r.p,r.g) || ((match r.c with | none=>false | some k=>lQ Prod.snd ps r.p k) || ((r.s.any fun k=>lQ Prod.fst ps r.p k) || ahead.any fun a=>decide (bA a=bA r)))
theorem pz {sel:Int × Int->Int}{ps:List (Int × Int)}{pl:Int}{k:Nat}:decide (k ∈ fO sel ps pl) = !lQ sel ps pl k:=by
 unfold fO lQ
 by_cases h1:ps.length <= k
 ·rw[decide_eq_true h1,decide_eq_false]
  ·rfl
  ·intro z
   have:=mem_range.mp (mem_filter.mp z).1
   omega
 ·rw[decide_eq_false h1]
  by_cases h2:sel (ps.getD k (0,0))=pl
  ·rw[decide_eq_true h2,decide_eq_true]
   ·rfl
   ·exact mem_filter.mpr ⟨mem_range.mpr (by omega),decide_eq_true h2⟩
  ·rw[decide_eq_false h2,decide_eq_false]
   ·rfl
   ·intro z
    exact h2 (of_decide_eq_true (mem_filter.mp z).2)
theorem vx {l:List Nat}{f:Nat->Bool}:(l.all fun k=>!f k) = !(l.any f):=by
 induction l with
 | nil=>rfl
 | cons a l ih=>rw[all_cons,any_cons,ih,Bool.not_or]
theorem gm (n:Int)(ps:List (Int × Int))(ahead:List Rw)(r:Rw):mP n ps ahead r=(!dZ n ps r || ahead.any fun a=>decide (bA a=bA r)):=by
 unfold mP dZ
 have e:(r.s.all fun k=>decide (k ∈ fO Prod.fst ps r.p)) = !(r.s.any fun k=>lQ Prod.fst ps r.p k):=by
  rw[← vx]
  congr 1
  funext k
  exact pz
 rw[e]
 cases hc:r.c with
 | none =>
  dsimp only
  cases gG n (r.p,r.g)<;>cases (r.s.any fun k=>lQ Prod.fst ps r.p k)<;>cases (ahead.any fun a=>decide (bA a=bA r))<;>rfl
 | some k =>
  dsimp only
  rw[pz]
  cases gG n (r.p,r.g)<;>cases (lQ Prod.snd ps r.p k)<;>cases (r.s.any fun k=>lQ Prod.fst ps r.p k)<;>cases (ahead.any fun a=>decide (bA a=bA r))<;>rfl
noncomputable def cY (n:Int)(ps:List (Int × Int))(rs:List Rw)(m:Nat):Option Nat:=(List.range m).find? fun k=>mP n ps (rs.take k) (rs.getD k ⟨0,0,none,[]⟩)
theorem fj {n:Int}{ps:List (Int × Int)}{rs:List Rw}:∀ {m:Nat},(∀ k,k < m->mP n ps (rs.take k) (rs.getD k ⟨0,0,none,[]⟩)=false)->cY n ps rs m=none:=by
 intro m h
 unfold cY
 rw[List.find?_eq_none]
 intro k hk
 rw[h k (mem_range.mp hk)]
 decide
theorem jz {n:Int}{ps:List (Int × Int)}{rs:List Rw}{m i:Nat}(hi:i < m)(h:∀ k,k < i->mP n ps (rs.take k) (rs.getD k ⟨0,0,none,[]⟩)=false)(hb:mP n ps (rs.take i) (rs.getD i ⟨0,0,none,[]⟩)=true):cY n ps rs m=some i:=by
 unfold cY
 rw[List.find?_range_eq_some]
 refine⟨hb,mem_range.mpr hi,fun j hj=>?_⟩
 rw[h j hj]
 rfl
noncomputable def dH (rs:List Rw)(k:fN):Option Rw:=rs.reverse.find? fun r=>decide (bA r=k)
theorem nX {rs:List Rw}{r:Rw}{k:fN}:dH (rs ++ [r]) k=if k=bA r then some r else dH rs k:=by
 unfold dH
 rw[List.reverse_append,List.reverse_singleton,List.singleton_append,find?_cons]
 by_cases h:bA r=k
 ·rw[decide_eq_true h,if_pos h.symm]
 ·rw[decide_eq_false h,if_neg (Ne.symm h)]
theorem lc {rs:List Rw}{k:fN}:(dH rs k).isSome=rs.any fun r=>decide (bA r=k):=by
 unfold dH
 rw[Bool.eq_iff_iff,List.find?_isSome,List.any_eq_true]
 exact⟨fun y8=>by obtain⟨x,hx,h⟩:=y8;exact⟨x,mem_reverse.mp hx,h⟩,fun y8=>by obtain⟨x,hx,h⟩:=y8;exact⟨x,mem_reverse.mpr hx,h⟩⟩
noncomputable def cV:Option Nat->V
 | none => .yK
 | some k => .int k
noncomputable def bM (ks:List Nat):List V:=ks.map fun k:Nat=>V.int k
theorem uZ (ks:List Nat):bM ks=(iz ks).map V.int:=(xV ks).symm
noncomputable def F7 (H:Hp)(t l:Addr)(r:Rw):Prop:=H t=some (.tup [.int r.p, .int r.g,cV r.c, .ref l])/\H l=some (.lst (bM r.s))
noncomputable def F8 (H:Hp)(v:V)(r:Rw):Prop:=∃ t l,v = .ref t/\F7 H t l r
abbrev Cf (H:Hp):List V->List Rw->Prop:=Paired (F8 H)
theorem F7.same {H H':Hp}{t l:Addr}{r:Rw}(h:y1 H H')(x:F7 H t l r):F7 H' t l r:=⟨h _ _ x.1,h _ _ x.2⟩
theorem F8.same {H H':Hp}{v:V}{r:Rw}(h:y1 H H'):F8 H v r->F8 H' v r:=fun y8=>by obtain⟨t,l,e,x⟩:=y8;exact⟨t,l,e,x.same h⟩
theorem Cf.imp {H H':Hp}(h:∀ v r,F8 H v r->F8 H' v r):∀ {vs:List V}{rs:List Rw},Cf H vs rs->Cf H' vs rs:=fun y8=>by
 induction y8 with
 | nil=>exact .nil
 | cons x r ih=>exact .cons (h _ _ x) ih
theorem Cf.same {H H':Hp}(h:y1 H H'){vs:List V}{rs:List Rw}(x:Cf H vs rs):Cf H' vs rs:=Cf.imp (fun _ _ z=>z.same h) x
theorem Cf.get {H:Hp}:∀ {vs:List V}{rs:List Rw}{i:Nat}{v:V},Cf H vs rs->vs[i]? = some v->∃ r,rs[i]? = some r/\F8 H v r
 | _,_,_,_, .nil,e=>by simp at e
 | _,_,0,_, .cons x _,e=>by simp at e;subst e;exact⟨_,rfl,x⟩
 | _,_,i + 1,v, .cons _ t,e=>by
  obtain⟨r,h1,h2⟩:=Cf.get (i:=i) (v:=v) t (by simpa using e)
  exact⟨r,by simpa using h1,h2⟩
theorem pj (r:Rw):(bA r).map nP=[.int r.p, .int r.g,cV r.c]:=by
 cases r with
 | mk p g c s=>cases c<;>rfl
theorem og {sel:Int × Int->Int}{ps:List (Int × Int)}{pl:Int}:lf sel ps pl ps.length=(iz (fO sel ps pl)).map V.int:=by rw[xV];rfl
theorem nZ {k:Nat}{l:List Nat}:decide ((k:Int) ∈ iz l)=decide (k ∈ l):=by
 congr 1
 refine propext ⟨fun h=>?_,fun h=>Ah.mpr ⟨k,h,rfl⟩⟩
 obtain⟨n,hn,e⟩:=Ah.mp h
 have:n=k:=by omega
 rw[← this]
 exact hn
theorem pI (ks l:List Nat):((bM ks).filter fun _=>true).map (fun v=>match v with | .int i=>V.bl (decide (i ∈ iz l)) | _ => .yK)=(ks.map fun k=>decide (k ∈ l)).map V.bl:=by
 rw[List.filter_eq_self.mpr (fun _ _=>rfl)]
 unfold bM
 rw[map_map,map_map]
 refine map_congr_left fun k _=>?_
 show V.bl (decide ((k:Int) ∈ iz l))=V.bl (decide (k ∈ l))
 rw[nZ]
theorem tU (ks:List Nat)(p:Nat->Bool):(ks.map p).all id=ks.all p:=by rw[all_map];rfl
noncomputable def vL (K:Frag):Sp:=fun vs H Q _=>∃ (i:Int)(p:Addr)(ns:List Int),vs=[.int i, .ref p]/\y6 K H p (ns.map V.int)/\Q (.bl (decide (i ∈ ns))) H
noncomputable def rB (c:Cs):Sp:=fun vs H Q _=>∃ (x dx lt t l:Addr)(n:Int)(yH:List V)(ps:List (Int × Int))(r:Rw),vs=[.ref x, .ref t]/\dX H c x dx lt n yH ps/\F7 H t l r/\ps.length <= 1000/\r.s.length <= 1000/\∀ H',y1 H H'->Q (.bl (dZ n ps r)) H'
structure Jz (K:Frag)(c:Cs)(f3 f4:Addr)(d3 d4:FuncData):Prop where
 m3:bB K c.land "out_of" f3
 m4:bB K c.land "into" f4
 b3:Binds K d3 ["self", "place"] []
 b4:Binds K d4 ["self", "place"] []
abbrev NF:List Str:=["land", "row", "place", "came", "begin_here"]
noncomputable def tV (s:Stmt):Scope:=match s with
 | .Return (some (.Call _ [.ListComp _ _ sc _] _ _)) _=>sc
 | _=>zQ0
theorem J0:ap ["value", "numbers"] ["value", "numbers"] (aj wJ):=L2.yW
theorem xo {f fh:Addr}{fd Br:FuncData}(F:yS K "is_one_of" "is_one_of" wJ f fd)(T:dJ mg)(mh:mg "is_whole" = some (.ref fh))(Fh:yS K "is_whole" "is_whole" fE fh Br)(bh:Binds K Br ["value"] []) :
  y2 P w K mg base az 2 f fd ["value", "numbers"] (vL K):=by
 have G:y2 P w K mg base az 1 fh Br ["value"] kj:=lP Fh T
 refine F.ok J0 (fun _ _ _ _ h=>?_) (fun _ _ _ s H _ Q E hr h=>?_)
 ·obtain⟨i,p,ns,rfl,_⟩:=h
  rfl
 ·obtain⟨i,p,ns,rfl,hS,q⟩:=h
  refine⟨_,ah (ar (cG (av G hr rfl mh Fh.kp bh .nil ao (aa (pv 0) ad)) (cF (c8 qc (pv 0) (pv 1) (by with_unfolding_all rfl))))),?_⟩
  refine⟨_,rfl,i,rfl,true,rfl,aK ?_⟩
  refine⟨_,rfl,_,rfl,p,_,rfl, .inl hS,rfl,gJ _,?_⟩
  show Q (V.bl (Hm (V.int i) (ns.map V.int))) H
  rw[lh]
  exact q
theorem Bh:ap NF ["land", "row"] (aj lH):=L2.yW
theorem yn:zP NF (aj lH) (tV ((aM lH).getD 5 (.Pass ⟨0,0,0,0⟩))) ["begin_here"] [4]:=L2.AN
theorem xJ:(["lane", "begin_here"]:List Str).Nodup:=by decide +kernel
theorem uU {c:Cs}{f ft fo f3 f4:Addr}{fd dt d1 d3 d4:FuncData}(F:yS K "row_fits" "row_fits" lH f fd)(T:dJ mg)(L:qL K c)(M:Jz K c f3 f4 d3 d4)
  (mt:mg "are_two_places" = some (.ref ft)) (kt:keepIn K (.ref ft)=true) (bt:Binds K dt ["places", "one", "other"] []) (Gt:y2 P w K mg base az 3 ft dt ["places", "one", "other"] qZ)
  (mo:mg "is_one_of" = some (.ref fo)) (ko:keepIn K (.ref fo)=true) (bo:Binds K d1 ["value", "numbers"] []) (Go:y2 P w K mg base az 2 fo d1 ["value", "numbers"] (vL K))
  (G3:y2 P w K mg base az 1 f3 d3 ["self", "place"] (ue c Prod.fst)) (G4:y2 P w K mg base az 1 f4 d4 ["self", "place"] (ue c Prod.snd)) :
  y2 P w K mg base az 4 f fd ["land", "row"] (rB c):=by
 refine F.ok Bh (fun _ _ _ _ h=>?_) (fun _ _ _ s H _ Q E hr h=>?_)
 ·obtain⟨x,dx,lt,t,l,n,yH,ps,r,rfl,_⟩:=h
  rfl
 ·obtain⟨x,dx,lt,t,l,n,yH,ps,r,rfl,hL,hR,hlen,Hs,q⟩:=h
  have zi:yC 1 _:=hr.mono (by decide)
  have zV:yC 2 _:=hr.mono (by decide)
  refine⟨_,ae (aw (i:=2) Bh.nd rfl (Or.inl rfl) (aC aE (pv 1) ai (fun _ _=>rfl)))
   (ae (aw (i:=3) Bh.nd rfl (Or.inl rfl) (aC aE (pv 1) ai (fun _ _=>rfl)))
   (ae (aP (ck (bD (av Gt hr rfl mt kt bt .nil ao (aa (al (pv 0) rfl) (aa (pv 2) (aa (aC aE (pv 1) ai (fun _ _=>rfl)) ad)))))) (ah (ar dA)) aD)
   (ae (aP (PW.pt (gA (ax ir (pv 3) bS (aB _)) (fX (ck (bD (av Go zV rfl mo ko bo .nil ao (aa (pv 3) (aa (aH (pv 0) L.cl M.m4 G4 zi M.b4 .nil ao (aa (pv 2) ad)) ad)))))))) (ah (ar dA)) aD)
   (ae (aw (i:=4) Bh.nd rfl (Or.inr rfl) (aH (pv 0) L.cl M.m3 G3 zi M.b3 .nil ao (aa (pv 2) ad)))
   (ah (ar (au (jr rfl) rfl T.all PyProof.Rows.boot_all (aa (bH (own:=["lane"]) (capN:=["begin_here"]) (cap:=[4]) yn rfl (bz (aC aE (pv 1) ai (fun _ _=>rfl)))
    (fun C s' H' fp=>⟨ay (i:=0) xJ rfl (Or.inl rfl),ci,av Go zV rfl mo ko bo .nil ao (aa (pv 0) (aa (pv 1) ad))⟩)) ad)))))))),?_⟩
  obtain⟨hT,hl⟩:=hR
  have OQ:yD K H t [.int r.p, .int r.g,cV r.c, .ref l]:=yD.of hT
  refine⟨_,rfl,t,_,0,_,rfl,rfl,OQ,ak (j:=0) rfl,?_⟩
  refine⟨_,rfl,t,_,2,_,rfl,rfl,OQ,ak (j:=2) rfl,?_⟩
  refine⟨_,rfl,x,c.land,dx,_,_,rfl,hL.1,L.cl,L.np,rfl,_,rfl,_,rfl,t,_,1,_,rfl,rfl,OQ,ak (j:=1) rfl,n,r.p,r.g,rfl,_,rfl,?_⟩
  cases ho:gG n (r.p,r.g) with
  | false =>
   have e:dZ n ps r=false:=by unfold dZ;rw[ho];rfl
   refine aK ?_
   have:=q H (y1.refl H)
   rw[e]at this
   exact this
  | true =>
   refine aF ?_
   cases hc:r.c with
   | none =>
    refine⟨_,rfl,rfl,_,rfl,aF (aF ?_)⟩
    have s1:=y1.refl H
    have e1:dZ n ps r=r.s.all fun k=>decide (k ∈ fO Prod.fst ps r.p):=by unfold dZ;rw[ho,hc];rfl
    refine⟨_,rfl,x,dx,_,rfl,s1 _ _ hL.1,rfl,_,rfl,x,dx,lt,n,yH,ps,r.p,rfl,⟨s1 _ _ hL.1,s1 _ _ hL.2.1,yT.same s1 hL.2.2⟩,hlen,fun H2 D2 s2 zI=>?_⟩
    have s3:=(s1.trans s2).new (o := .lst (lf Prod.fst ps r.p ps.length)) zI
    have g2:(upd H2 D2 (.lst (lf Prod.fst ps r.p ps.length))) D2=some (.lst (lf Prod.fst ps r.p ps.length)):=ac
    generalize upd H2 D2 (.lst (lf Prod.fst ps r.p ps.length))=H3 at s3 g2 ⊢
    refine⟨_,rfl,t,_,3,_,rfl,rfl,yD.of (s3 _ _ hT),ak (j:=3) rfl,l,rfl,⟨_,y6.of (s3 _ _ hl)⟩,?_⟩
    refine gj (xs:=bM r.s) (fun _=>true) (fun v=>match v with | .int i => .bl (decide (i ∈ iz (fO Prod.fst ps r.p))) | _ => .yK) (by rw[sizeLine_eq];simp only[bM,length_map];omega) (y6.of (s3 _ _ hl)) (fun y acc N hy h=>?_) (fun D hD=>?_)
    ·obtain⟨k',_,rfl⟩:=mem_map.mp hy
     exact⟨_,rfl,_,rfl,(k':Int),D2,iz (fO Prod.fst ps r.p),rfl,by rw[← og];exact y6.of g2,by simpa using h⟩
    ·rw[pI]
     refine⟨D,r.s.map fun k=>decide (k ∈ fO Prod.fst ps r.p),rfl,y6.of ac,?_⟩
     have:=q _ (s3.new (o := .lst ((r.s.map fun k=>decide (k ∈ fO Prod.fst ps r.p)).map V.bl)) hD)
     rw[e1]at this
     rw[tU]
     exact this
   | some k =>
    refine⟨_,rfl,rfl,_,rfl,aK ?_⟩
    refine⟨_,rfl,_,rfl,x,dx,_,rfl,hL.1,rfl,_,rfl,x,dx,lt,n,yH,ps,r.p,rfl,hL,hlen,fun H' D s' hD=>?_⟩
    have s1:=s'.new (o := .lst (lf Prod.snd ps r.p ps.length)) hD
    refine⟨(k:Int),D,iz (fO Prod.snd ps r.p),rfl,by rw[← og];exact y6.of ac,_,rfl,?_⟩
    rw[nZ]
    cases hk:decide (k ∈ fO Prod.snd ps r.p) with
    | false =>
     refine aK ?_
     have e:dZ n ps r=false:=by unfold dZ;rw[ho,hc];dsimp only;rw[hk];rfl
     have:=q _ s1
     rw[e]at this
     exact this
    | true =>
     have e1:dZ n ps r=r.s.all fun k=>decide (k ∈ fO Prod.fst ps r.p):=by unfold dZ;rw[ho,hc];dsimp only;rw[hk];rfl
     refine aF ?_
     refine⟨_,rfl,x,dx,_,rfl,s1 _ _ hL.1,rfl,_,rfl,x,dx,lt,n,yH,ps,r.p,rfl,⟨s1 _ _ hL.1,s1 _ _ hL.2.1,yT.same s1 hL.2.2⟩,hlen,fun H2 D2 s2 zI=>?_⟩
     have s3:=(s1.trans s2).new (o := .lst (lf Prod.fst ps r.p ps.length)) zI
     have g2:(upd H2 D2 (.lst (lf Prod.fst ps r.p ps.length))) D2=some (.lst (lf Prod.fst ps r.p ps.length)):=ac
     generalize upd H2 D2 (.lst (lf Prod.fst ps r.p ps.length))=H3 at s3 g2 ⊢
     refine⟨_,rfl,t,_,3,_,rfl,rfl,yD.of (s3 _ _ hT),ak (j:=3) rfl,l,rfl,⟨_,y6.of (s3 _ _ hl)⟩,?_⟩
     refine gj (xs:=bM r.s) (fun _=>true) (fun v=>match v with | .int i => .bl (decide (i ∈ iz (fO Prod.fst ps r.p))) | _ => .yK) (by rw[sizeLine_eq];simp only[bM,length_map];omega) (y6.of (s3 _ _ hl)) (fun y acc N hy h=>?_) (fun D hD=>?_)
     ·obtain⟨k',_,rfl⟩:=mem_map.mp hy
      exact⟨_,rfl,_,rfl,(k':Int),D2,iz (fO Prod.fst ps r.p),rfl,by rw[← og];exact y6.of g2,by simpa using h⟩
     ·rw[pI]
      refine⟨D,r.s.map fun k=>decide (k ∈ fO Prod.fst ps r.p),rfl,y6.of ac,?_⟩
      have:=q _ (s3.new (o := .lst ((r.s.map fun k=>decide (k ∈ fO Prod.fst ps r.p)).map V.bl)) hD)
      rw[e1]at this
      rw[tU]
      exact this
structure Ts where
 tab:Addr
 told:Addr
noncomputable def vH (K:Frag):Sp:=fun vs H Q _=>∃ (x C dx:Addr)(lv:V),vs=[.ref x,lv]/\H x=some (.ins C dx [])/\Bd K C/\yI K C "land"/\Q .yK (upd H x (.ins C dx [("land",lv)]))
noncomputable def rC (r:Rw):V := .int (Yd.zC r.s 0:Nat)
noncomputable def rb (P:Program)(w:World)(K:Frag)(c:Cs)(ts:Ts):Sp:=fun vs H Q E=>∃ (x dx lx zb lt p:Addr)(n:Int)(yH yM:List V)(ps:List (Int × Int))(rs:List Rw),
 vs=[.ref x, .ref lx, .ref p]/\H x=some (.ins ts.told dx [])/\dX H c lx zb lt n yH ps/\y6 K H p yM/\Cf H yM rs/\yM.length <= 100000/\ps.length <= 1000/\(∀ r ∈ rs,(∀ k ∈ r.s,k <= 1000)/\r.s.length <= 1000) /\
 (∀ i,cY n ps rs rs.length=some i->False) /\
 (cY n ps rs rs.length=none->∀ H' de kvs,Off x H H'->H' x=some (.ins ts.told dx [("land", .ref lx),("entries", .ref de)])->zp P w H' de kvs->(∀ k,cP kvs k=(dH rs k).map rC)->Q .yK H')
noncomputable def oI (P:Program)(w:World)(ts:Ts):Sp:=fun vs H Q _=>∃ (x dx de:Addr)(lv:V)(kvs:List cC)(r:Rw)(m:Nat),vs=[.ref x, .int r.p, .int r.g,cV r.c]/\H x=some (.ins ts.told dx [("land",lv),("entries", .ref de)])/\zp P w H de kvs /\
 (cP kvs (bA r)).getD (.int 0) = .int m/\m < 2 ^ 400/\∀ H' D,y1 H H'->H' D=none->Q (.ref D) (upd H' D (.lst (Ju m)))
structure OR (K:Frag)(mg:Str->Option Value)(ts:Ts)(f1:Addr)(d1:FuncData):Prop where
 ct:Bd K ts.tab
 nt:yI K ts.tab "land"
 cd:Bd K ts.told
 nd1:yI K ts.told "land"
 MC:yI K ts.told "entries"
 mt:mg "Table" = some (.ref ts.tab)
 cm:wk K ts.tab "__init__" f1
 bt:Binds K d1 ["self", "land"] []
abbrev NT:List Str:=["self", "land", "rows", "number", "row", "key"]
theorem Off.land {H H':Hp}{x C dx:Addr}(o:Off x H H')(hx:H x=some (.ins C dx [])){c:Cs}{lx zb lt:Addr}{n:Int}{yH:List V}{ps:List (Int × Int)}(h:dX H c lx zb lt n yH ps):dX H' c lx zb lt n yH ps :=
 ⟨o _ _ (aR h.1 hx (by intro z;cases z)) h.1,o _ _ (aR h.2.1 hx (by intro z;cases z)) h.2.1,o.CB hx h.2.2⟩
theorem J4:ap ["self", "land"] ["self", "land"] (aj wG):=L2.yW
theorem xi {f:Addr}{fd:FuncData}(F:yS K "__init__" "Table.__init__" wG f fd):y2 P w K mg base az 1 f fd ["self", "land"] (vH K):=by
 refine F.ok J4 (fun _ _ _ _ h=>?_) (fun _ _ _ s H _ Q E hr h=>?_)
 ·obtain⟨x,C,dx,lv,rfl,_⟩:=h
  rfl
 ·obtain⟨x,C,dx,lv,rfl,hx,hc,hn,q⟩:=h
  refine⟨_,ah (bj (pv 0) (pv 1) rfl),?_⟩
  exact⟨_,rfl,_,rfl,x,C,dx,_,rfl,hx,hc,hn,by show 0 < 1000;decide,q⟩
theorem ui:ap ["self", "place", "goal", "came"] ["self", "place", "goal", "came"] (aj nu):=L2.yW
theorem so {ts:Ts}{f fm f1:Addr}{fd dm d1:FuncData}(F:yS K "ways" "Told.ways" nu f fd)(B:OR K mg ts f1 d1)(mm:mg "members" = some (.ref fm))(km:keepIn K (.ref fm)=true)(bm:Binds K dm ["some"] [])
  (Gm:y2 P w K mg base az 2 fm dm ["some"] vN):y2 P w K mg base az 3 f fd ["self", "place", "goal", "came"] (oI P w ts):=by
 refine F.ok ui (fun _ _ _ _ h=>?_) (fun _ _ _ s H _ Q E hr h=>?_)
 ·obtain⟨x,dx,de,lv,kvs,r,m,rfl,_⟩:=h
  rfl
 ·obtain⟨x,dx,de,lv,kvs,r,m,rfl,hx,hd,hv,hm,q⟩:=h
  have hu:=vY hr
  refine⟨_,ah (ar (av Gm hr rfl mm km bm .nil ao (aa (sf hu (al (pv 0) rfl) (aa (aW (aa (pv 1) (aa (pv 2) (aa (pv 3) ad)))) (aa ai ad))) ad))),?_⟩
  refine⟨_,rfl,x,ts.told,dx,_,_,rfl,hx,B.cd,B.MC,rfl,de,kvs,rfl,hd,?_⟩
  refine⟨_,rfl,_,rfl,_,rfl,by show 3 <= sizeLine;decide,fun t ht=>?_⟩
  have s1:y1 H (upd H t (.tup [.int r.p, .int r.g,cV r.c])):=(y1.refl H).new ht
  refine⟨_,_,cP kvs (bA r),rfl,⟨kvs,bA r,t,hd.same s1,rfl,by rw[pj];exact ac,rfl⟩,?_⟩
  rw[hv]
  exact⟨m,rfl,hm,fun D hD=>q _ D s1 hD⟩
theorem Bi:ap NT ["self", "land", "rows"] (aj rF):=L2.yW
theorem uB {c:Cs}{ts:Ts}{f ff fs f1:Addr}{fd df ds d1:FuncData}(F:yS K "__init__" "Told.__init__" rF f fd)(T:dJ mg)(B:OR K mg ts f1 d1)(G1:y2 P w K mg base az 1 f1 d1 ["self", "land"] (vH K))
  (mf:mg "row_fits" = some (.ref ff)) (kf:keepIn K (.ref ff)=true) (bf:Binds K df ["land", "row"] []) (Gf:y2 P w K mg base az 4 ff df ["land", "row"] (rB c))
  (ms:mg "set_of" = some (.ref fs)) (ks:keepIn K (.ref fs)=true) (bs:Binds K ds ["numbers"] []) (Gs:y2 P w K mg base az 1 fs ds ["numbers"] (vJ K)) :
  y2 P w K mg base az 5 f fd ["self", "land", "rows"] (rb P w K c ts):=by
 refine F.ok Bi (fun _ _ _ _ h=>?_) (fun _ _ _ s H _ Q E hr h=>?_)
 ·obtain⟨x,dx,lx,zb,lt,p,n,yH,yM,ps,rs,rfl,_⟩:=h
  rfl
 ·obtain⟨x,dx,lx,zb,lt,p,n,yH,yM,ps,rs,rfl,hx,hL,hp,hR,hlen,D8,TU,hE,hQ⟩:=h
  have zi:yC 1 _:=hr.mono (by decide)
  have zV:yC 2 _:=hr.mono (by decide)
  have hu:=vY hr
  refine⟨_,ae (aL (sg (eN (v := .ref ts.tab) rfl B.mt rfl) B.cm G1 zi B.bt .nil ao (aa (pv 0) (aa (pv 1) ad))))
   (ae (bj (pv 0) (show PE _ _ (vD P w) from uw) rfl)
   (ah (bL PassesOwn.never rfl (lL rfl T.enum (aa (pv 2) ad)) (gE rfl (bF (ay (i:=3) Bi.nd rfl (Or.inl rfl)) (bF (ay (i:=4) Bi.nd rfl (Or.inl rfl)) eM)))
    (ae (aw (i:=5) Bi.nd rfl (Or.inl rfl) (aW (aa (aC aE (pv 4) ai (fun _ _=>rfl)) (aa (aC aE (pv 4) ai (fun _ _=>rfl)) (aa (aC aE (pv 4) ai (fun _ _=>rfl)) ad)))))
    (ae (aP (PW.pt (iT (ck (bD (av Gf hr rfl mf kf bf .nil ao (aa (pv 1) (aa (pv 4) ad))))) (fH (nL (wY hu (pv 5) (al (pv 0) rfl))))))
     (ah bJ) aD)
    (ah (uu hu (al (pv 0) rfl) (pv 5) (av Gs zi rfl ms ks bs .nil ao (aa (aC aE (pv 4) ai (fun _ _=>rfl)) ad)) rfl))))))),?_⟩
  refine⟨rfl,_,rfl,_,rfl,x,ts.told,dx,_,rfl,hx,B.cd,B.nd1,?_⟩
  refine fun de MD=>⟨_,rfl,x,ts.told,dx,[("land", .ref lx)],rfl,by rw[af (ag ac MD)];exact ac,B.cd,B.MC,by show 1 < 1000;decide,?_⟩
  have MF:x ≠ de:=ag ac MD
  have J5:H de=none:=by rw[af (Ne.symm MF)]at MD;exact MD
  generalize Fx:upd (upd (upd H x (.ins ts.told dx [("land", .ref lx)])) de (mS P w de [])) x (.ins ts.told dx (aN "entries" (.ref de) [("land", .ref lx)]))=H2
  have o2:Off x H H2:=fun b o hb e=>by rw[← Fx,af hb,af (ag e J5),af hb];exact e
  have x2:H2 x=some (.ins ts.told dx [("land", .ref lx),("entries", .ref de)]):=by rw[← Fx,ac];rfl
  have d2:zp P w H2 de []:=⟨by rw[← Fx,af (Ne.symm MF),ac],fun y hy=>by cases hy⟩
  have hrs:yM.length=rs.length:=Paired.length hR
  refine⟨_,rfl,p,rfl,⟨_,o2.sq hx hp⟩,mq (sq:=fun H=>y6 K H p) (xs:=yM) (fun i σ H3=>∃ (a b k:Option V)(kvs:List cC),Off x H H3/\H3 x=some (.ins ts.told dx [("land", .ref lx),("entries", .ref de)])/\zp P w H3 de kvs/\kvs.length <= i /\
    (∀ k,cP kvs k=(dH (rs.take i) k).map rC)/\(∀ j,j < i->mP n ps (rs.take j) (rs.getD j ⟨0,0,none,[]⟩)=false)/\σ=[some (.ref x),some (.ref lx),some (.ref p),a,b,k])
   ⟨none,none,none,[],o2,x2,d2,le_refl _,fun k=>rfl,fun j hj=>absurd hj (Nat.not_lt_zero _),rfl⟩ (fun i σ H3 _ y8=>by obtain⟨_,_,_,_,o3,_⟩:=y8;exact o3.sq hx hp) ?_ ?_⟩
  ·rintro i v q σ H3 hv ⟨a,b,k,kvs,o3,x3,d3,l3,v3,g3,rfl⟩ hq
   obtain⟨r,hri,t,l,rfl,hT⟩:=Cf.get hR hv
   have hi:i < rs.length:=(gQ0 hri)
   have MG:rs.getD i ⟨0,0,none,[]⟩ = r:=by rw[getD_eq_getElem?_getD,hri];rfl
   have DY:F7 H3 t l r:=⟨o3 _ _ (aR hT.1 hx (by intro z;cases z)) hT.1,o3 _ _ (aR hT.2 hx (by intro z;cases z)) hT.2⟩
   have De:=o3.land hx hL
   have s4:y1 H3 (upd H3 q (.tup [.int i, .ref t])):=(y1.refl H3).new hq
   refine⟨q,_,rfl,yD.of ac,rfl,_,_,rfl,_,_,rfl,rfl,?_⟩
   generalize upd H3 q (.tup [.int i, .ref t])=H4 at s4 ⊢
   have J6:yD K H4 t [.int r.p, .int r.g,cV r.c, .ref l]:=yD.of (s4 _ _ DY.1)
   refine⟨_,rfl,t,_,0,_,rfl,rfl,J6,ak (j:=0) rfl,_,rfl,t,_,1,_,rfl,rfl,J6,ak (j:=1) rfl,_,rfl,t,_,2,_,rfl,rfl,J6,ak (j:=2) rfl,by show 3 <= sizeLine;decide,fun kt hkt=>?_⟩
   have s5:y1 H3 (upd H4 kt (.tup [.int r.p, .int r.g,cV r.c])):=s4.new hkt
   have k5:(upd H4 kt (.tup [.int r.p, .int r.g,cV r.c])) kt=some (.tup ((bA r).map nP)):=by rw[pj];exact ac
   generalize upd H4 kt (.tup [.int r.p, .int r.g,cV r.c])=H5 at s5 k5 ⊢
   refine⟨_,rfl,_,rfl,lx,zb,lt,t,l,n,yH,ps,r,rfl,⟨s5 _ _ De.1,s5 _ _ De.2.1,yT.same s5 De.2.2⟩,DY.same s5,D8,(TU r (mem_of_getElem? hri)).2,fun H6 TV=>⟨_,rfl,?_⟩⟩
   have s6:=s5.trans TV
   have k6:=TV _ _ k5
   have x6:=s6 _ _ x3
   have d6:=d3.same s6
   have E9:mP n ps (rs.take i) r=true->False:=fun hb=>hE i (jz hi g3 (by rw[MG];exact hb))
   cases hf:dZ n ps r with
   | false =>
    exact aK (aK (E9 (by rw[gm,hf];rfl)))
   | true =>
    refine aF ⟨_,rfl,_,rfl,x,ts.told,dx,_,_,rfl,x6,B.cd,B.MC,rfl,de,_,rfl,⟨kvs,bA r,kt,d6,rfl,k6,rfl⟩,_,rfl,?_⟩
    have eS:(cP kvs (bA r)).isSome=(rs.take i).any fun a=>decide (bA a=bA r):=by rw[v3,Option.isSome_map,lc]
    cases hS:(cP kvs (bA r)).isSome with
    | true =>
     exact aK (E9 (by rw[gm,hf,← eS,hS];rfl))
    | false =>
     refine aF ?_
     have TX:=DY.same s6
     refine⟨_,rfl,t,_,3,_,rfl,rfl,yD.of TX.1,ak (j:=3) rfl,l,r.s,rfl,y6.of TX.2,(TU r (mem_of_getElem? hri)).1,?_⟩
     refine⟨_,rfl,x,ts.told,dx,_,_,rfl,x6,B.cd,B.MC,rfl,_,rfl,de,kvs,bA r,kt,rfl,d6,rfl,k6,by rw[sizeLine_eq];omega,?_⟩
     have hx6:x ≠ de:=MF
     refine⟨_,_,_,gB kvs (bA r) kt (rC r),fun b' o hb e=>?_,?_,⟨ac,pU (F:=fun k a=>(upd H6 de (mS P w de (gB kvs (bA r) kt (rC r)))) a=some (.tup (k.map nP))) (fun y hy=>?_) ?_⟩,?_,fun k'=>?_,fun j hj=>?_,rfl⟩
     ·rw[af (ag e J5)];exact s6 _ _ (o3 _ _ hb e)
     ·rw[af MF];exact x6
     ·rw[af (aR (d6.2 y hy) d6.1 (by intro z;cases z))];exact d6.2 y hy
     ·rw[af (aR k6 d6.1 (by intro z;cases z))];exact k6
     ·exact le_trans gP (Nat.succ_le_succ l3)
     ·rw[qO,take_succ,hri,Option.toList_some,nX,v3]
      by_cases hk:k' = bA r
      ·rw[if_pos hk,if_pos hk];rfl
      ·rw[if_neg hk,if_neg hk]
     ·rcases Nat.lt_or_ge j i with h | h
      ·exact g3 j h
      ·have:j=i:=by omega
       subst this
       rw[MG,gm,hf,← eS,hS];rfl
  ·rintro σ H3 ⟨a,b,k,kvs,o3,x3,d3,l3,v3,g3,rfl⟩
   rw[hrs]at g3 v3
   rw[take_length]at v3
   exact hQ (fj g3) H3 de kvs o3 x3 d3 v3
noncomputable def nV (ps:List Nat):List V:=ps.map fun q:Nat=>V.int (q:Int)
theorem kW (ps:List Nat):(nV ps).length=ps.length:=by simp[nV]
theorem sQ {ps:List Nat}{k q:Nat}(h:ps[k]? = some q):(nV ps)[k]? = some (V.int (q:Int)):=by simp[nV,h]
theorem xL (a b:List Nat):nV (a ++ b)=nV a ++ nV b:=by unfold nV;rw[map_append]
theorem xK {ps:List Nat}{v:V}(h:v ∈ nV ps):∃ q:Nat,q ∈ ps/\v = .int (q:Int):=by
 obtain⟨q,hq,e⟩:=mem_map.mp h
 exact⟨q,hq,e.symm⟩
noncomputable def ug (c:Cs)(sel:Int × Int->Int):Sp:=fun vs H Q _=>∃ (x dx t:Addr)(n:Int)(yH:List V)(ps:List (Int × Int))(k:Nat)(pr:Int × Int),vs=[.ref x, .int k]/\dX H c x dx t n yH ps/\ps[k]? = some pr/\Q (.int (sel pr)) H
structure vC (K:Frag)(c:Cs)(f:Addr)(d:FuncData):Prop where
 m:bB K c.land "end_of" f
 b:Binds K d ["self", "lane"] []
theorem bO (a b:Int):decide (V.int a=V.int b)=decide (a=b):=by
 by_cases h:a=b
 ·rw[h];simp
 ·rw[decide_eq_false h,decide_eq_false fun z=>h (by injection z)]
theorem iw {n i:Nat}(h:i < n):vg n (i:Int)=some i:=by
 unfold vg
 rw[if_pos (by omega),if_pos (by omega),toNat_natCast]
noncomputable def mN (m:Nat):List Nat:=Yd.IU m (Builtin.Int.intBits (m:Int))
theorem J7:ap ["self", "lane"] ["self", "lane"] (aj wQ):=L2.yW
theorem xB {c:Cs}{f:Addr}{fd:FuncData}(F:yS K "end_of" "Land.end_of" wQ f fd)(L:qL K c):y2 P w K mg base az 1 f fd ["self", "lane"] (ug c Prod.snd):=by
 refine F.ok J7 (fun _ _ _ _ h=>?_) (fun _ _ _ s H _ Q E hr h=>?_)
 ·obtain⟨x,dx,t,n,yH,ps,k,pr,rfl,_⟩:=h
  rfl
 ·obtain⟨x,dx,t,n,yH,ps,k,pr,rfl,⟨hx,ht,hl⟩,hk,q⟩:=h
  refine⟨_,ah (ar (aC aE (aC aE (al (pv 0) rfl) (pv 1) (fun _ _=>rfl)) ai (fun _ _=>rfl))),?_⟩
  obtain⟨v,hv,u,rfl,hu⟩:=yT.F6 hl hk
  refine⟨_,rfl,x,c.land,dx,_,_,rfl,hx,L.cl,L.nl,rfl,_,rfl,t,_,_,_,rfl,rfl,yD.of ht,ak hv,u,_,1,_,rfl,rfl,yD.of hu,ak (j:=1) rfl,q⟩
noncomputable def isI:V->Bool
 | .int _=>true
 | _=>false
noncomputable def jE:V->Int->Int->Bool
 | .int i,a,b=>decide (a <= i/\i <= b)
 | _,_,_=>false
inductive qG:V->Prop
 | int (i:Int):qG (.int i)
 | bl (b:Bool):qG (.bl b)
 | yK:qG .yK
structure tX (K:Frag):Prop where
 ii:kitOne K (.type "int") (.type "int")=some true
 ib:kitOne K (.type "int") (.type "bool")=some false
 bi:kitOne K (.type "bool") (.type "int")=some true
 bb:kitOne K (.type "bool") (.type "bool")=some true
 ni:kitOne K (.type "NoneType") (.type "int")=some false
noncomputable def fP:Sp:=fun vs H Q _=>∃ v,vs=[v]/\qG v/\Q (.bl (isI v)) H
noncomputable def eH:Sp:=fun vs H Q _=>∃ (v:V)(a b:Int),vs=[v, .int a, .int b]/\qG v/\Q (.bl (jE v a b)) H
noncomputable def k4 (K:Frag):Sp:=fun vs H Q _=>∃ (a:Addr)(ns:List Int)(k:Nat),vs=[.ref a, .int k]/\y6 K H a (ns.map V.int)/\∀ d,Q (.int d) H
theorem yT.imp {H H':Hp}(h:∀ v p,vA H v p->vA H' v p):∀ {vs:List V}{ps:List (Int × Int)},yT H vs ps->yT H' vs ps:=fun y8=>by
 induction y8 with
 | nil=>exact .nil
 | cons z r ih=>exact .cons (h _ _ z) ih
noncomputable def hV:Option Int->V
 | none => .yK
 | some z => .int z
abbrev Fs:=List (Str × V)
noncomputable def gX (r b:Int)(h:V)(pa:Addr):Fs:=[("rights", .int r),("returning", .int b),("holder",h),("pieces", .ref pa)]
structure yP (H:Hp)(C x dx pa:Addr)(r b:Int)(h:Option Int)(yJ:List V)(qs:List (Int × Int)):Prop where
 ins:H x=some (.ins C dx (gX r b (hV h) pa))
 lst:H pa=some (.lst yJ)
 zw:yT H yJ qs
noncomputable def zQ (x pa:Addr)(H H':Hp):Prop:=∀ a o,a ≠ x->a ≠ pa->H a=some o->H' a=some o
theorem zQ.CB {C x dx pa:Addr}{fs:Fs}{yJ:List V}{H H':Hp}(h:zQ x pa H H')(hx:H x=some (.ins C dx fs))(hp:H pa=some (.lst yJ)){vs:List V}{qs:List (Int × Int)}:yT H vs qs->yT H' vs qs :=
 yT.imp fun _ _ y8=>by obtain⟨t,e,q⟩:=y8;exact⟨t,e,h _ _ (aR q hx (by intro z;cases z)) (aR q hp (by intro z;cases z)) q⟩
theorem yP.same {H H':Hp}{C x dx pa:Addr}{r b:Int}{h:Option Int}{yJ:List V}{qs:List (Int × Int)}(L:yP H C x dx pa r b h yJ qs)(s:y1 H H'):yP H' C x dx pa r b h yJ qs:=⟨s _ _ L.ins,s _ _ L.lst,yT.same s L.zw⟩
noncomputable def cz (r:Int)(h:Option Int)(l c:Int):Bool:=if r=0 then false else if c=0 then decide (h=none) else decide (h=some l)
theorem ya (h:Option Int):decide (hV h=V.yK)=decide (h=none):=by cases h<;>rfl
theorem yb (h:Option Int)(l:Int):decide (hV h=V.int l)=decide (h=some l):=by
 cases h with
 | none=>rfl
 | some z =>
  show decide (V.int z=V.int l)=_
  rw[bO]
  by_cases e:z=l
  ·rw[decide_eq_true e,decide_eq_true (by rw[e])]
  ·rw[decide_eq_false e,decide_eq_false fun q=>e (Option.some.inj q)]
theorem vi (h:Option Int)(l:Int):wz (hV h) (.int l)=true:=by cases h<;>rfl
structure v9 (K:Frag)(C:Addr):Prop where
 cl:Bd K C
 n1:yI K C "rights"
 n2:yI K C "returning"
 n3:yI K C "holder"
 n4:yI K C "pieces"
noncomputable def rk (C:Addr):Sp:=fun vs H Q _=>∃ (x dx:Addr)(room:Int),vs=[.ref x, .int room]/\H x=some (.ins C dx [])/\∀ (pa:Addr)(H':Hp),H pa=none->(∀ a o,a ≠ x->H a=some o->H' a=some o)->yP H' C x dx pa room 0 none [] []->Q .yK H'
noncomputable def kx (C:Addr):Sp:=fun vs H Q _=>∃ (x dx pa:Addr)(r b:Int)(h:Option Int)(l c:Int),vs=[.ref x, .int l, .int c]/\H x=some (.ins C dx (gX r b (hV h) pa))/\Q (.bl (cz r h l c)) H
noncomputable def vK (C:Addr):Sp:=fun vs H Q _=>∃ (x dx pa:Addr)(r b:Int)(h:Option Int)(yJ:List V)(qs:List (Int × Int))(l c:Int)(last:Bool),vs=[.ref x, .int l, .int c, .bl last]/\yP H C x dx pa r b h yJ qs/\yJ.length < 100000 /\
 (cz r h l c=false->False) /\
 (cz r h l c=true->∀ (t:Addr)(H':Hp),zQ x pa H H'->yP H' C x dx pa (r - 1) b (if last then none else some l) (yJ ++ [.ref t]) (qs ++ [(l,c)])->Q .yK H')
noncomputable def oq:List V->V
 | [] => .yK
 | v :: _=>v
noncomputable def ij (C:Addr):Sp:=fun vs H Q _=>∃ (x dx pa:Addr)(r b:Int)(h:Option Int)(yJ:List V)(qs:List (Int × Int)),vs=[.ref x]/\yP H C x dx pa r b h yJ qs/\Q (oq yJ) H
noncomputable def nh (C:Addr):Sp:=fun vs H Q _=>∃ (x dx pa:Addr)(r b:Int)(h:Option Int)(yJ:List V)(qs:List (Int × Int)),vs=[.ref x]/\yP H C x dx pa r b h yJ qs /\
 (yJ=[]->False) /\
 (∀ v rest,yJ=v :: rest->∀ H':Hp,zQ x pa H H'->yP H' C x dx pa r (b + 1) h rest qs.tail->Q v H')
noncomputable def oS (C:Addr):Sp:=fun vs H Q _=>∃ (x dx pa:Addr)(r b:Int)(h:Option Int)(yJ:List V)(qs:List (Int × Int)),vs=[.ref x]/\yP H C x dx pa r b h yJ qs /\
 (b=0->False) /\
 (b ≠ 0->∀ H':Hp,zQ x pa H H'->yP H' C x dx pa (r + 1) (b - 1) h yJ qs->Q .yK H')
noncomputable def vQ (C:Addr):Sp:=fun vs H Q _=>∃ (x dx pa:Addr)(r b:Int)(h:Option Int)(yJ:List V)(qs:List (Int × Int)),vs=[.ref x]/\yP H C x dx pa r b h yJ qs /\
 ∀ (t ql:Addr)(H':Hp),y1 H H'->H ql=none->H' t=some (.tup [.int r, .int b,hV h, .ref ql])->H' ql=some (.lst yJ)->Q (.ref t) H'
theorem OS (n:Nat):seqIndex? 0 (n + 1)=some 0:=by
 unfold seqIndex?
 simp
theorem jF {f:Addr}{fd:FuncData}(F:yS K "is_whole" "is_whole" fE f fd)(T:dJ mg)(Z:tX K):y2 P w K mg base az 1 f fd ["value"] fP:=by
 refine F.ok oU (fun _ _ _ _ h=>?_) (fun _ _ _ s H _ Q E hr h=>?_)
 ·obtain⟨m,rfl,_⟩:=h
  rfl
 ·obtain⟨v,rfl,hv,q⟩:=h
  refine⟨_,ah (ar (cG (au gk rfl T.Hr PyProof.Rows.boot_isinstance (aa (pv 0) (aa (eO (v := .ty "int") rfl T.int PySem.Pv.boot_int rfl) ad)))
   (cF (kP (au gk rfl T.Hr PyProof.Rows.boot_isinstance (aa (pv 0) (aa (eO (v := .ty "bool") rfl T.bool PySem.Pv.boot_bool rfl) ad))))))),?_⟩
  cases hv with
  | int i=>exact⟨_,rfl, .int i,_, "int",true,rfl, .int i,Z.ii,true,rfl,aK ⟨_,rfl, .int i,_, "bool",false,rfl, .int i,Z.ib,false,rfl,q⟩⟩
  | bl b=>exact⟨_,rfl, .bl b,_, "int",true,rfl, .bl b,Z.bi,true,rfl,aK ⟨_,rfl, .bl b,_, "bool",true,rfl, .bl b,Z.bb,true,rfl,q⟩⟩
  | yK=>exact⟨_,rfl, .yK,_, "int",false,rfl, .yK,Z.ni,false,rfl,aF q⟩
theorem nO {f fh:Addr}{fd Br:FuncData}(F:yS K "is_within" "is_within" io f fd)(T:dJ mg)(Z:tX K)(mh:mg "is_whole" = some (.ref fh))(Fh:yS K "is_whole" "is_whole" fE fh Br)(bh:Binds K Br ["value"] []) :
  y2 P w K mg base az 2 f fd ["value", "least", "most"] eH:=by
 have G:y2 P w K mg base az 1 fh Br ["value"] fP:=jF Fh T Z
 refine F.ok lB (fun _ _ _ _ h=>?_) (fun _ _ _ s H _ Q E hr h=>?_)
 ·obtain⟨i,a,b,rfl,_⟩:=h
  rfl
 ·obtain⟨v,a,b,rfl,hv,q⟩:=h
  refine⟨_,ah (ar (cG (av G hr rfl mh Fh.kp bh .nil ao (aa (pv 0) ad)) (cF (lN lO lO (pv 1) (pv 0) (pv 2))))),?_⟩
  cases hv with
  | bl x=>exact⟨_,rfl,_,rfl, .bl x,false,rfl,aF q⟩
  | yK=>exact⟨_,rfl,_,rfl, .yK,false,rfl,aF q⟩
  | int i =>
   refine⟨_,rfl,_,rfl, .int i,true,rfl,aK ?_⟩
   refine⟨_,rfl,_,rfl,_,_,rfl,rfl,_,rfl,?_⟩
   have q:Q (V.bl (decide (a <= i/\i <= b))) H:=q
   by_cases h1:a <= i
   ·rw[decide_eq_true h1]
    refine aK ⟨_,rfl,_,_,rfl,rfl,?_⟩
    show Q (V.bl (decide (i <= b))) H
    by_cases h2:i <= b
    ·rw[decide_eq_true h2];rw[decide_eq_true ⟨h1,h2⟩]at q;exact q
    ·rw[decide_eq_false h2];rw[decide_eq_false fun z=>h2 z.2]at q;exact q
   ·rw[decide_eq_false h1]
    refine aF ?_
    rw[decide_eq_false fun z=>h1 z.1]at q;exact q
theorem wE:ap ["_law_script", "_law_k"] ["_law_script", "_law_k"] (aj rV):=L2.yW
theorem uV {f:Addr}{fd:FuncData}(F:yS K "_law_cell_at" "_law_cell_at" rV f fd)(T:dJ mg):y2 P w K mg base az 1 f fd ["_law_script", "_law_k"] (k4 K):=by
 refine F.ok wE (fun _ _ _ _ h=>?_) (fun _ _ _ s H _ Q E hr h=>?_)
 ·obtain⟨a,ns,k,rfl,_⟩:=h
  rfl
 ·obtain⟨a,ns,k,rfl,hS,q⟩:=h
  refine⟨_,ae (aP (ax jD (pv 1) (au aq rfl T.len PySem.boot_len (aa (pv 0) ad)) (aB _))
    (ah (ar (aC aS (pv 0) (pv 1) (fun _ _=>rfl)))) aD) (ah (ar ai)),?_⟩
  refine⟨_,rfl,_,rfl,a,_,rfl, .inl hS,_,_,rfl,rfl,_,rfl,?_⟩
  refine vh (fun h=>?_) fun _=>q _
  have h':(k:Int) < ((ns.map V.int).length:Nat):=of_decide_eq_true h
  rw[length_map]at h'
  have hk:k < ns.length:=by omega
  exact⟨_,rfl,_,rfl,a,_,k,V.int ns[k],rfl,rfl,hS,ak (by simp[hk]),q _⟩
theorem EA:ap ["_law_cell", "_law_k", "_law_number"] ["_law_cell", "_law_k"] (aj wK):=L2.yW
theorem J8:ap ["self", "room"] ["self", "room"] (aj wN):=L2.yW
theorem xx {C f:Addr}{fd:FuncData}(F:yS K "__init__" "Lane.__init__" wN f fd)(L:v9 K C):y2 P w K mg base az 1 f fd ["self", "room"] (rk C):=by
 refine F.ok J8 (fun _ _ _ _ h=>?_) (fun _ _ _ s H _ Q E hr h=>?_)
 ·obtain⟨x,dx,room,rfl,_⟩:=h
  rfl
 ·obtain⟨x,dx,room,rfl,hx,q⟩:=h
  refine⟨_,ae (bj (pv 0) (pv 1) rfl) (ae (bj (pv 0) ai rfl) (ae (bj (pv 0) bS rfl) (ah (bj (pv 0) (aU ad) rfl)))),?_⟩
  refine⟨_,rfl,_,rfl,x,C,dx,_,rfl,hx,L.cl,L.n1,by show 0 < 1000;decide,?_⟩
  refine⟨_,rfl,x,C,dx,_,rfl,ac,L.cl,L.n2,by show 1 < 1000;decide,?_⟩
  refine⟨_,rfl,x,C,dx,_,rfl,ac,L.cl,L.n3,by show 2 < 1000;decide,?_⟩
  refine⟨zero_le _,fun pa Cw=>?_⟩
  have B4:x ≠ pa:=ag ac Cw
  refine⟨_,rfl,x,C,dx,_,rfl,by rw[af B4];exact ac,L.cl,L.n4,by show 3 < 1000;decide,?_⟩
  have DZ:H pa=none:=by
   rw[af (Ne.symm B4),af (Ne.symm B4),af (Ne.symm B4)]at Cw
   exact Cw
  refine q pa _ DZ (fun a o ha e=>?_) ⟨ac,by rw[af (Ne.symm B4)];exact ac, .nil⟩
  have nap:a ≠ pa:=fun z=>by
   rw[z,DZ]at e
   cases e
  rw[af ha,af nap,af ha,af ha,af ha]
  exact e
theorem wB:ap ["self", "letter", "count"] ["self", "letter", "count"] (aj rL):=L2.yW
theorem uG {C f:Addr}{fd:FuncData}(F:yS K "open_to" "Lane.open_to" rL f fd)(L:v9 K C):y2 P w K mg base az 1 f fd ["self", "letter", "count"] (kx C):=by
 refine F.ok wB (fun _ _ _ _ h=>?_) (fun _ _ _ s H _ Q E hr h=>?_)
 ·obtain⟨x,dx,pa,r,b,h,l,c,rfl,_⟩:=h
  rfl
 ·obtain⟨x,dx,pa,r,b,h,l,c,rfl,hx,q⟩:=h
  refine⟨_,ae (aP (ax bN (al (pv 0) rfl) ai (aB _)) (ah (ar dA)) aD)
   (ae (aP (ax bN (pv 2) ai (aB _)) (ah (ar (c8 jc (al (pv 0) rfl) bS (aB _)))) aD)
   (ah (ar (c8 bN (al (pv 0) rfl) (pv 1) (aB _))))),?_⟩
  refine⟨_,rfl,x,C,dx,_,_,rfl,hx,L.cl,L.n1,rfl,rfl,_,rfl,?_⟩
  rw[bO]
  unfold cz at q
  by_cases MH:r=0
  ·rw[decide_eq_true MH]
   rw[if_pos MH]at q
   exact aK q
  rw[decide_eq_false MH]
  rw[if_neg MH]at q
  refine aF ⟨_,rfl,rfl,_,rfl,?_⟩
  rw[bO]
  by_cases Fv:c=0
  ·rw[decide_eq_true Fv]
   rw[if_pos Fv]at q
   refine aK ⟨_,rfl,x,C,dx,_,_,rfl,hx,L.cl,L.n3,rfl,rfl,?_⟩
   rw[ya]
   exact q
  ·rw[decide_eq_false Fv]
   rw[if_neg Fv]at q
   refine aF ⟨_,rfl,x,C,dx,_,_,rfl,hx,L.cl,L.n3,rfl,_,rfl,vi h l,?_⟩
   rw[yb]
   exact q
theorem J9:ap ["self", "letter", "count", "last"] ["self", "letter", "count", "last"] (aj wI):=L2.yW
theorem xm {C f fo:Addr}{fd Bs:FuncData}(F:yS K "put" "Lane.put" wI f fd)(L:v9 K C)(mo:bB K C "open_to" fo)(bo:Binds K Bs ["self", "letter", "count"] [])(Go:y2 P w K mg base az 1 fo Bs ["self", "letter", "count"] (kx C)) :
  y2 P w K mg base az 2 f fd ["self", "letter", "count", "last"] (vK C):=by
 refine F.ok J9 (fun _ _ _ _ h=>?_) (fun _ _ _ s H _ Q E hr h=>?_)
 ·obtain⟨x,dx,pa,r,b,h,yJ,qs,l,c,last,rfl,_⟩:=h
  rfl
 ·obtain⟨x,dx,pa,r,b,h,yJ,qs,l,c,last,rfl,hL,hlen,h1,h2⟩:=h
  refine⟨_,ae (aP (ck (bD (aH (pv 0) L.cl mo Go hr bo .nil ao (aa (pv 1) (aa (pv 2) ad))))) (ah bJ) aD)
   (ae (dF (pv 0) ai p7)
   (ae (aL (bV plainAttrs_list PySem.F.slot_list_append PySem.F.type_list_append aV (al (pv 0) rfl) (aa (aW (aa (pv 1) (aa (pv 2) ad))) ad)))
   (ah (bj (pv 0) (cR (bD (pv 3)) bS (pv 1)) rfl)))),?_⟩
  refine⟨_,rfl,x,dx,_,rfl,hL.ins,rfl,_,rfl,_,rfl,x,dx,pa,r,b,h,l,c,rfl,hL.ins,_,rfl,?_⟩
  cases ho:cz r h l c with
  | false =>
   exact aK (h1 ho)
  | true =>
   refine aF ?_
   refine⟨_,rfl,x,C,dx,_,_,rfl,hL.ins,L.cl,L.n1,rfl,_,_,rfl,rfl,dx,_,hL.ins,by show 4 < 1000;decide,?_⟩
   have B4:pa ≠ x:=aR hL.lst hL.ins (by intro z;cases z)
   have zY:(upd H x (.ins C dx (aN "rights" (.int (r - 1)) (gX r b (hV h) pa)))) x=some (.ins C dx (gX (r - 1) b (hV h) pa)):=ac
   have yY:(upd H x (.ins C dx (aN "rights" (.int (r - 1)) (gX r b (hV h) pa)))) pa=some (.lst yJ):=by rw[af B4];exact hL.lst
   have o1:zQ x pa H (upd H x (.ins C dx (aN "rights" (.int (r - 1)) (gX r b (hV h) pa)))):=fun a o ha _ e=>by rw[af ha];exact e
   show _
   generalize upd H x (.ins C dx (aN "rights" (.int (r - 1)) (gX r b (hV h) pa)))=H1 at zY yY o1 ⊢
   refine⟨_,rfl,x,C,dx,_,_,rfl,zY,L.cl,L.n4,rfl, .inl ⟨rfl,_,y6.of yY⟩,_,rfl,_,rfl,by show 2 <= sizeLine;decide,fun t ht=>?_⟩
   have s2:=(y1.refl H1).new (o := .tup [.int l, .int c]) ht
   have gt:(upd H1 t (.tup [.int l, .int c])) t=some (.tup [.int l, .int c]):=ac
   generalize upd H1 t (.tup [.int l, .int c])=H2 at s2 gt ⊢
   refine⟨pa,yJ,_,rfl,rfl,s2 _ _ yY,by rw[sizeLine_eq];omega,?_⟩
   have MI:(upd H2 pa (.lst (yJ ++ [.ref t]))) x=some (.ins C dx (gX (r - 1) b (hV h) pa)):=by rw[af (Ne.symm B4)];exact s2 _ _ zY
   have Ht:(upd H2 pa (.lst (yJ ++ [.ref t]))) pa=some (.lst (yJ ++ [.ref t])):=ac
   have o3:zQ x pa H (upd H2 pa (.lst (yJ ++ [.ref t]))):=fun a o ha hb e=>by rw[af hb];exact s2 _ _ (o1 a o ha hb e)
   have ntp:t ≠ pa:=aR gt (s2 _ _ yY) (by intro z;cases z)
   have OT:(upd H2 pa (.lst (yJ ++ [.ref t]))) t=some (.tup [.int l, .int c]):=by rw[af ntp];exact gt
   generalize upd H2 pa (.lst (yJ ++ [.ref t]))=H3 at MI Ht o3 OT ⊢
   have ntx:t ≠ x:=aR OT MI (by intro z;cases z)
   have fin:∀ h':Option Int,yP (upd H3 x (.ins C dx (aN "holder" (hV h') (gX (r - 1) b (hV h) pa)))) C x dx pa (r - 1) b h' (yJ ++ [.ref t]) (qs ++ [(l,c)]):=fun h' =>
    ⟨ac,by rw[af B4];exact Ht,yT.snoc ⟨t,rfl,by rw[af ntx];exact OT⟩ (zQ.CB (fun a o ha hb e=>by rw[af ha];exact o3 a o ha hb e) hL.ins hL.lst hL.zw)⟩
   have off:∀ o',zQ x pa H (upd H3 x o'):=fun o' a o ha hb e=>by rw[af ha];exact o3 a o ha hb e
   refine⟨_,rfl,_,rfl,?_⟩
   cases last with
   | true=>exact aK ⟨_,rfl,x,C,dx,_,rfl,MI,L.cl,L.n3,by show 4 < 1000;decide,h2 ho t _ (off _) (fin none)⟩
   | false=>exact aF ⟨_,rfl,_,rfl,x,C,dx,_,rfl,MI,L.cl,L.n3,by show 4 < 1000;decide,h2 ho t _ (off _) (fin (some l))⟩
theorem uj:ap ["self"] ["self"] (aj nG):=L2.yW
theorem sF {C f:Addr}{fd:FuncData}(F:yS K "front" "Lane.front" nG f fd)(L:v9 K C):y2 P w K mg base az 1 f fd ["self"] (ij C):=by
 refine F.ok uj (fun _ _ _ _ h=>?_) (fun _ _ _ s H _ Q E hr h=>?_)
 ·obtain⟨x,dx,pa,r,b,h,yJ,qs,rfl,_⟩:=h
  rfl
 ·obtain⟨x,dx,pa,r,b,h,yJ,qs,rfl,hL,q⟩:=h
  refine⟨_,ah (ar (cR (iV (al (pv 0) rfl) (fun _=>rfl)) (aC aS (al (pv 0) rfl) ai (fun _ _=>rfl)) bS)),?_⟩
  refine⟨_,rfl,x,C,dx,_,_,rfl,hL.ins,L.cl,L.n4,rfl,_, .inl ⟨_,y6.of hL.lst,rfl⟩,?_⟩
  cases yJ with
  | nil=>exact aF q
  | cons v rest=>exact aK ⟨_,rfl,x,C,dx,_,_,rfl,hL.ins,L.cl,L.n4,rfl,pa,_,0,v,rfl,rfl,y6.of hL.lst,ak (j:=0) rfl,q⟩
theorem w6:ap ["self"] ["self"] (aj rG):=L2.yW
theorem uC {C f:Addr}{fd:FuncData}(F:yS K "pull" "Lane.pull" rG f fd)(L:v9 K C):y2 P w K mg base az 1 f fd ["self"] (nh C):=by
 refine F.ok w6 (fun _ _ _ _ h=>?_) (fun _ _ _ s H _ Q E hr h=>?_)
 ·obtain⟨x,dx,pa,r,b,h,yJ,qs,rfl,_⟩:=h
  rfl
 ·obtain⟨x,dx,pa,r,b,h,yJ,qs,rfl,hL,h1,h2⟩:=h
  refine⟨_,ae (aP (ck (iV (al (pv 0) rfl) (fun _=>rfl))) (ah bJ) aD)
   (ae (dF (pv 0) ai lg)
   (ah (ar (bV plainAttrs_list PySem.F.slot_list_pop PySem.F.type_list_pop sR (al (pv 0) rfl) (aa ai ad))))),?_⟩
  refine⟨_,rfl,x,C,dx,_,_,rfl,hL.ins,L.cl,L.n4,rfl,_, .inl ⟨_,y6.of hL.lst,rfl⟩,?_⟩
  have B4:pa ≠ x:=aR hL.lst hL.ins (by intro z;cases z)
  cases yJ with
  | nil =>
   exact aK (h1 rfl)
  | cons v rest =>
   refine aF ?_
   refine⟨_,rfl,x,C,dx,_,_,rfl,hL.ins,L.cl,L.n2,rfl,_,_,rfl,rfl,dx,_,hL.ins,by show 4 < 1000;decide,?_⟩
   have zY:(upd H x (.ins C dx (aN "returning" (.int (b + 1)) (gX r b (hV h) pa)))) x=some (.ins C dx (gX r (b + 1) (hV h) pa)):=ac
   have yY:(upd H x (.ins C dx (aN "returning" (.int (b + 1)) (gX r b (hV h) pa)))) pa=some (.lst (v :: rest)):=by rw[af B4];exact hL.lst
   have o1:zQ x pa H (upd H x (.ins C dx (aN "returning" (.int (b + 1)) (gX r b (hV h) pa)))):=fun a o ha _ e=>by rw[af ha];exact e
   show _
   generalize upd H x (.ins C dx (aN "returning" (.int (b + 1)) (gX r b (hV h) pa)))=H1 at zY yY o1 ⊢
   refine⟨_,rfl,x,C,dx,_,_,rfl,zY,L.cl,L.n4,rfl, .inl ⟨rfl,_,y6.of yY⟩,pa,v :: rest,0,0,v,rfl,rfl,yY,by decide,by decide,OS _,rfl,?_⟩
   have o2:zQ x pa H (upd H1 pa (.lst rest)):=fun a o ha hb e=>by rw[af hb];exact o1 a o ha hb e
   refine h2 v rest rfl _ o2 ⟨by rw[af (Ne.symm B4)];exact zY,ac,?_⟩
   have z:=zQ.CB o2 hL.ins hL.lst hL.zw
   cases z with
   | cons _ t=>exact t
theorem uk:ap ["self"] ["self"] (aj nK):=L2.yW
theorem sJ {C f:Addr}{fd:FuncData}(F:yS K "bring" "Lane.bring" nK f fd)(L:v9 K C):y2 P w K mg base az 1 f fd ["self"] (oS C):=by
 refine F.ok uk (fun _ _ _ _ h=>?_) (fun _ _ _ s H _ Q E hr h=>?_)
 ·obtain⟨x,dx,pa,r,b,h,yJ,qs,rfl,_⟩:=h
  rfl
 ·obtain⟨x,dx,pa,r,b,h,yJ,qs,rfl,hL,h1,h2⟩:=h
  refine⟨_,ae (aP (ax bN (al (pv 0) rfl) ai (aB _)) (ah bJ) aD)
   (ae (dF (pv 0) ai p7) (ah (dF (pv 0) ai lg))),?_⟩
  refine⟨_,rfl,x,C,dx,_,_,rfl,hL.ins,L.cl,L.n2,rfl,rfl,_,rfl,?_⟩
  have B4:pa ≠ x:=aR hL.lst hL.ins (by intro z;cases z)
  rw[bO]
  by_cases MJ:b=0
  ·rw[decide_eq_true MJ]
   exact aK (h1 MJ)
  ·rw[decide_eq_false MJ]
   refine aF ?_
   refine⟨_,rfl,x,C,dx,_,_,rfl,hL.ins,L.cl,L.n2,rfl,_,_,rfl,rfl,dx,_,hL.ins,by show 4 < 1000;decide,?_⟩
   have zY:(upd H x (.ins C dx (aN "returning" (.int (b - 1)) (gX r b (hV h) pa)))) x=some (.ins C dx (gX r (b - 1) (hV h) pa)):=ac
   have o1:zQ x pa H (upd H x (.ins C dx (aN "returning" (.int (b - 1)) (gX r b (hV h) pa)))):=fun a o ha _ e=>by rw[af ha];exact e
   have yY:(upd H x (.ins C dx (aN "returning" (.int (b - 1)) (gX r b (hV h) pa)))) pa=some (.lst yJ):=by rw[af B4];exact hL.lst
   show _
   generalize upd H x (.ins C dx (aN "returning" (.int (b - 1)) (gX r b (hV h) pa)))=H1 at zY yY o1 ⊢
   refine⟨_,rfl,x,C,dx,_,_,rfl,zY,L.cl,L.n1,rfl,_,_,rfl,rfl,dx,_,zY,by show 4 < 1000;decide,?_⟩
   have o2:∀ o',zQ x pa H (upd H1 x o'):=fun o' a o ha hb e=>by rw[af ha];exact o1 a o ha hb e
   exact h2 MJ _ (o2 _) ⟨ac,by rw[af B4];exact yY,zQ.CB (o2 _) hL.ins hL.lst hL.zw⟩
theorem JA:ap ["self"] ["self"] (aj wM):=L2.yW
theorem xw {C f:Addr}{fd:FuncData}(F:yS K "told" "Lane.told" wM f fd)(T:dJ mg)(L:v9 K C):y2 P w K mg base az 1 f fd ["self"] (vQ C):=by
 refine F.ok JA (fun _ _ _ _ h=>?_) (fun _ _ _ s H _ Q E hr h=>?_)
 ·obtain⟨x,dx,pa,r,b,h,yJ,qs,rfl,_⟩:=h
  rfl
 ·obtain⟨x,dx,pa,r,b,h,yJ,qs,rfl,hL,q⟩:=h
  refine⟨_,ah (ar (aW (aa (al (pv 0) rfl) (aa (al (pv 0) rfl) (aa (al (pv 0) rfl) (aa (aJ bx rfl T.list PySem.Pv.boot_list (aa (al (pv 0) rfl) ad)) ad)))))),?_⟩
  refine⟨_,rfl,x,C,dx,_,_,rfl,hL.ins,L.cl,L.n1,rfl,_,rfl,x,C,dx,_,_,rfl,hL.ins,L.cl,L.n2,rfl,_,rfl,x,C,dx,_,_,rfl,hL.ins,L.cl,L.n3,rfl,_,rfl,x,C,dx,_,_,rfl,hL.ins,L.cl,L.n4,rfl,pa,_,rfl, .inl (y6.of hL.lst),fun ql EB=>?_⟩
  have s1:=(y1.refl H).new (o := .lst yJ) EB
  have g1:(upd H ql (.lst yJ)) ql=some (.lst yJ):=ac
  generalize upd H ql (.lst yJ)=H1 at s1 g1 ⊢
  refine⟨by show 4 <= sizeLine;decide,fun t ht=>?_⟩
  have s2:=s1.new (o := .tup [.int r, .int b,hV h, .ref ql]) ht
  exact q t ql _ s2 EB ac (by rw[af (ag g1 ht)];exact g1)
noncomputable def jd (m:Nat)(yM:List V):Bool:=decide (yM.length=m) && yM.all fun v=>jE v 1 60
noncomputable def Sq (K:Frag)(H:Hp)(a:Addr)(xs:List V):Prop:=y6 K H a xs∨yD K H a xs
noncomputable def oJ (K:Frag)(c:Cs):Sp:=fun vs H Q _=>∃ (lx zb lt:Addr)(n:Int)(yH:List V)(ps:List (Int × Int))(rv:V),vs=[.ref lx,rv]/\dX H c lx zb lt n yH ps/\ps.length <= 1000 /\
 ((rv = .yK/\∀ t H',y1 H H'->H' t=some (.tup (List.replicate ps.length (.int 1)))->Q (.ref t) H') ∨
  (∃ ra yM,rv = .ref ra/\Sq K H ra yM/\yM.length <= 1000/\(∀ v ∈ yM,qG v)/\(jd ps.length yM=false->False)/\(jd ps.length yM=true->∀ t H',y1 H H'->yD K H' t yM->Q (.ref t) H')))
noncomputable def xZ (s:Stmt):Scope:=match s with
 | .If _ (.Return (some (.Call _ [.ListComp _ _ sc _] _ _)) _ :: _) _ _=>sc
 | _=>zQ0
noncomputable def wZ (s:Stmt):Scope:=match s with
 | .If (.BoolOp _ [_, .UnaryOp _ (.Call _ [.ListComp _ _ sc _] _ _) _] _) _ _ _=>sc
 | _=>zQ0
noncomputable def Hu:V->Bool
 | .int i=>decide ((if i < 0 then -i else i) < 10 ^ (60:Int).toNat)
 | _=>false
noncomputable def qX:Sp:=fun vs H Q _=>∃ v,vs=[v]/\qG v/\Q (.bl (Hu v)) H
theorem b6 {K:Frag}{H H':Hp}{a:Addr}{xs:List V}(e:y1 H H')(h:yD K H a xs):yD K H' a xs:=by
 rcases h with h | h
 ·refine .inl ?_
  rcases h with h | ⟨o,h⟩
  ·exact .inl (e _ _ h)
  ·exact .inr ⟨o,e _ _ h⟩
 ·exact .inr h
theorem JB {X:Cx}{tg it:Expr}{a b:TI}(h1:PI X tg it a)(h2:PI X tg it b):PI X tg it (fun σ H R=>a σ H R∨b σ H R):=fun pins s σ H R I h=>h.elim (h1 pins s σ H R I) (h2 pins s σ H R I)
theorem mE {J:It}{xs:List V}{g:TG}{te:TE}{σ0:St}{H:Hp}{Q:VK}(f:V->V)(hn:xs.length < sizeLine)(hgo:∀ i,i < xs.length->J.go i H)(Bp:J.stop xs.length H)(hy:∀ i x H',J.DK i H x H'->H' = H/\xs[i]? = some x)
  (hs:∀ (x:V)(N:V->Hp->Prop),x ∈ xs->N (f x) H->g x σ0 H fun σ2 H2=>te σ2 H2 N)
  (hq:∀ D,H D=none->Q (.ref D) (upd H D (.lst (xs.map f)))):dB J g l8 te σ0 Q H:=by
 refine bZ xs.length hn (fun i acc H'=>H' = H/\acc=(xs.take i).map f) ⟨rfl,rfl⟩ (fun i acc H' h=>by rw[h.2,length_map];exact length_take_le _ _) (fun i acc H' hi h=>?_) (fun acc H' h=>?_)
 ·obtain⟨rfl,rfl⟩:=h
  refine⟨hgo i hi,fun v H2 y=>?_⟩
  obtain⟨e,hx⟩:=hy i v H2 y
  subst e
  exact hs v (fun y H4=>H4=H2/\(xs.take i).map f ++ [y]=(xs.take (i + 1)).map f) (mem_of_getElem? hx) ⟨rfl,by rw[take_succ,hx,map_append];rfl⟩
 ·obtain⟨rfl,rfl⟩:=h
  rw[take_length]
  exact⟨Bp,hq⟩
theorem yi {K:Frag}{a:Addr}{xs:List V}{g:TG}{te:TE}{σ0:St}{H:Hp}{Q:VK}(f:V->V)(hn:xs.length < sizeLine)(ha:y6 K H a xs)(hs:∀ (x:V) (N:V->Hp->Prop),x ∈ xs->N (f x) H->g x σ0 H fun σ2 H2=>te σ2 H2 N)
  (hq:∀ D,H D=none->Q (.ref D) (upd H D (.lst (xs.map f)))):dB (tY K a) g l8 te σ0 Q H :=
 mE f hn (fun i hi=>⟨xs,xs[i],ha,by simp[hi]⟩) ⟨xs,ha,le_refl _⟩ (fun i x H' y=>⟨y.1,y.2 xs ha⟩) hs hq
theorem tQ {K:Frag}{a:Addr}{xs:List V}{g:TG}{te:TE}{σ0:St}{H:Hp}{Q:VK}(f:V->V)(hn:xs.length < sizeLine)(ha:yD K H a xs)(hs:∀ (x:V) (N:V->Hp->Prop),x ∈ xs->N (f x) H->g x σ0 H fun σ2 H2=>te σ2 H2 N)
  (hq:∀ D,H D=none->Q (.ref D) (upd H D (.lst (xs.map f)))):dB (Mu K a) g l8 te σ0 Q H :=
 mE f hn (fun i hi=>⟨xs,xs[i],ha,by simp[hi]⟩) ⟨xs,ha,le_refl _⟩ (fun i x H' y=>⟨y.1,y.2 xs ha⟩) hs hq
theorem OU:ap ["land", "rooms"] ["land", "rooms"] (aj fF):=L2.yW
theorem OV:zP ["land", "rooms"] (aj fF) (xZ ((aM fF).getD 0 (.Pass ⟨0,0,0,0⟩))) [] []:=L2.AN
theorem OW:zP ["land", "rooms"] (aj fF) (wZ ((aM fF).getD 1 (.Pass ⟨0,0,0,0⟩))) [] []:=L2.AN
theorem OX:(["lane"]:List Str).Nodup:=by decide +kernel
theorem JC:(["room"]:List Str).Nodup:=by decide +kernel
theorem su {c:Cs}{f fw:Addr}{fd dw:FuncData}{t1:Tok}(F:yS K "rooms_of" "rooms_of" fF f fd)(T:dJ mg)(L:qL K c)
  (mw:mg "is_within" = some (.ref fw)) (kw:keepIn K (.ref fw)=true) (bw:Binds K dw ["value", "least", "most"] []) (Gw:y2 P w K mg base az 2 fw dw ["value", "least", "most"] eH) (mp:mg "MOST_ROOM" = some (.int 60 t1)) :
  y2 P w K mg base az 3 f fd ["land", "rooms"] (oJ K c):=by
 refine F.ok OU (fun _ _ _ _ h=>?_) (fun _ _ _ s H _ Q E hr h=>?_)
 ·obtain⟨lx,zb,lt,n,yH,ps,rv,rfl,_⟩:=h
  rfl
 ·obtain⟨lx,zb,lt,n,yH,ps,rv,rfl,hL,Bq,hh⟩:=h
  refine⟨_,ae (aP (ax jc (pv 1) bS (aB _)) (ah (ar (aJ aT rfl T.tuple PySem.Pv.boot_tuple (aa (bH (own:=["lane"]) (capN:=[]) (cap:=[]) OV rfl (kN (al (pv 0) rfl))
     (fun C s' H' fp=>⟨ay (i:=0) OX rfl (Or.inl rfl),ci,ai⟩)) ad)))) aD)
   (ae (aP (ga (PW.pt (iT (ax oW (au aq rfl T.len PySem.boot_len (aa (pv 1) ad)) (au aq rfl T.len PySem.boot_len (aa (al (pv 0) rfl) ad)) (aB _))
     (fH (ck (bD (au (jr rfl) rfl T.all PyProof.Rows.boot_all (aa (bH (own:=["room"]) (capN:=[]) (cap:=[]) OW rfl (JB (bz (pv 1)) (kN (pv 1)))
      (fun C s' H' fp=>⟨ay (i:=0) JC rfl (Or.inl rfl),ci,av Gw hr rfl mw kw bw .nil ao (aa (pv 0) (aa ai (aa (eN (v := .int 60) rfl mp ⟨_,rfl⟩) ad)))⟩)) ad))))))))
    (ah bJ) aD)
   (ah (ar (aJ aT rfl T.tuple PySem.Pv.boot_tuple (aa (pv 1) ad))))),?_⟩
  have As:yH.length=ps.length:=Paired.length hL.2.2
  refine⟨_,rfl,rfl,_,rfl,?_⟩
  rcases hh with ⟨rfl,q⟩ | ⟨ra,yM,rfl,hR,Cy,JD,qE,q⟩
  ·refine aK ⟨_,rfl,lx,c.land,zb,_,_,rfl,hL.1,L.cl,L.nl,rfl,lt,rfl,⟨_,yD.of hL.2.1⟩,?_⟩
   refine tQ (fun _ => .int 1) (by rw[sizeLine_eq];omega) (yD.of hL.2.1) (fun x N hx h=>h) (fun D hD=>?_)
   have s1:=(y1.refl H).new (o := .lst (yH.map fun _=>V.int 1)) hD
   refine⟨D,_,rfl, .inl ⟨y6.of ac,fun t ht=>q t _ (s1.new ht) ?_⟩⟩
   rw[ac,List.map_const',As]
  ·refine aF ?_
   have len1:∀ {H:Hp},Sq K H ra yM->(y6 K H ra yM∨yD K H ra yM):=fun h=>h
   refine⟨fun b H'=>y1 H H'/\b = !jd ps.length yM,?_,?_⟩
   ·refine⟨_,rfl,ra,yM,rfl,hR,_,rfl,lx,c.land,zb,_,_,rfl,hL.1,L.cl,L.nl,rfl,lt,_,rfl, .inr (yD.of hL.2.1),rfl,_,rfl,?_⟩
    rw[bO,As]
    by_cases MK:yM.length=ps.length
    rotate_left
    ·rw[decide_eq_false (show ¬ ((yM.length:Nat):Int)=(ps.length:Nat) by omega)]
     refine aK ⟨y1.refl H,?_⟩
     unfold jd
     rw[decide_eq_false MK];rfl
    rw[decide_eq_true (show((yM.length:Nat):Int)=(ps.length:Nat) by omega)]
    have step:∀ (x:V)(N:V->Hp->Prop),x ∈ yM->N (.bl (jE x 1 60)) H->qG x:=fun x _ hx _=>JD x hx
    have fin:∀ D,H D=none->∃ (p:Addr)(bs:List Bool),[V.ref D]=[.ref p]/\y6 K (upd H D (.lst (yM.map fun v=>V.bl (jE v 1 60)))) p (bs.map V.bl)/\∃ cc,V.bl (bs.all id) = .bl cc/\(y1 H (upd H D (.lst (yM.map fun v=>V.bl (jE v 1 60))))/\(!cc) = !jd ps.length yM):=fun D hD=>by
     refine⟨D,yM.map fun v=>jE v 1 60,rfl,y6.of (by rw[ac,map_map];rfl),_,rfl,(y1.refl H).new hD,?_⟩
     unfold jd
     rw[decide_eq_true MK,Bool.true_and,all_map];rfl
    refine aF ?_
    rcases hR with hR | hR
    ·refine .inl ⟨_,rfl,ra,rfl,⟨_,hR⟩,?_⟩
     exact yi (fun v => .bl (jE v 1 60)) (by rw[sizeLine_eq];omega) hR (fun x N hx h=>⟨_,rfl,x,1,60,rfl,JD x hx,h⟩) fin
    ·refine .inr ⟨_,rfl,ra,rfl,⟨_,hR⟩,?_⟩
     exact tQ (fun v => .bl (jE v 1 60)) (by rw[sizeLine_eq];omega) hR (fun x N hx h=>⟨_,rfl,x,1,60,rfl,JD x hx,h⟩) fin
   rintro b H' ⟨s',rfl⟩
   cases yE:jd ps.length yM with
   | false=>exact aK (qE yE)
   | true =>
    refine aF ⟨_,rfl,ra,yM,rfl,?_⟩
    rcases hR with hR | hR
    ·exact .inl ⟨s'.seq hR,fun t ht=>q yE t _ (s'.new ht) (yD.of ac)⟩
    ·exact .inr ⟨b6 s' hR,q yE ra _ s' (b6 s' hR)⟩
theorem OY:ap ["word"] ["word"] (aj rD):=L2.yW
theorem u7 {f fh:Addr}{fd dh:FuncData}(F:yS K "is_word" "is_word" rD f fd)(T:dJ mg)(mh:mg "is_whole" = some (.ref fh))(kh:keepIn K (.ref fh)=true)(bh:Binds K dh ["value"] [])(G:y2 P w K mg base az 1 fh dh ["value"] fP) :
  y2 P w K mg base az 2 f fd ["word"] qX:=by
 refine F.ok OY (fun _ _ _ _ h=>?_) (fun _ _ _ s H _ Q E hr h=>?_)
 ·obtain⟨v,rfl,_⟩:=h
  rfl
 ·obtain⟨v,rfl,hv,q⟩:=h
  refine⟨_,ah (ar (cG (av G hr rfl mh kh bh .nil ao (aa (pv 0) ad)) (cF (c8 jD (au tR rfl T.abs PyProof.Rows.boot_abs (aa (pv 0) ad)) (aA nN ai ai) (aB _))))),?_⟩
  cases hv with
  | int i=>exact⟨_,rfl,_,rfl, .int i,true,rfl,aK ⟨_,rfl,i,rfl,_,_,rfl,rfl,⟨by decide,by decide,by decide⟩,_,_,rfl,rfl,q⟩⟩
  | bl b=>exact⟨_,rfl,_,rfl, .bl b,false,rfl,aF q⟩
  | yK=>exact⟨_,rfl,_,rfl, .yK,false,rfl,aF q⟩
abbrev Wf:=Nat->Nat->Option Nat->List Nat
abbrev TJ:=Hp->Addr->Nat->Wf->Prop
noncomputable def NL:HO->Prop
 | .lst _=>False
 | .ins _ _ []=>False
 | .E3 _=>False
 | _=>True
noncomputable def yX (H H':Hp):Prop:=∀ b o,H b=some o->NL o->H' b=some o
theorem y1.yF {H H':Hp}(s:y1 H H'):yX H H':=fun b o e _=>s b o e
theorem yX.trans {H H1 H2:Hp}(a:yX H H1)(b:yX H1 H2):yX H H2:=fun x o e n=>b x o (a x o e n) n
theorem yX.CB {H H':Hp}(k:yX H H'){vs:List V}{ps:List (Int × Int)}(h:yT H vs ps):yT H' vs ps:=yT.imp (fun _ _ ⟨t,e,q⟩=>⟨t,e,k _ _ q True.intro⟩) h
structure zj (c:Cs)(C:Addr)(J:TJ)(H:Hp)(x lx zb lt:Addr)(n:Nat)(yH:List V)(ps:List (Int × Int))(wy:Wf):Prop where
 j:J H x n wy
 i:∃ dx fs,H x=some (.ins C dx fs)/\fs.lookup ("land":Str)=some (.ref lx)/\fs.lookup ("ways":Str)=none
 l:dX H c lx zb lt (n:Int) yH ps
 Hv:n <= 12
 zl:ps.length <= 40
 ok:∀ p g k,p < n->g < n->∀ z ∈ wy p g k,z < ps.length
structure Wy (K:Frag)(C fw:Addr)(dw:FuncData)(J:TJ):Prop where
 cl:Bd K C
 nl:yI K C "land"
 m:bB K C "ways" fw
 b:Binds K dw ["self", "place", "goal", "came"] []
 Af:∀ H H' x n wy,J H x n wy->yX H H'->J H' x n wy
theorem zj.keep {K:Frag}{c:Cs}{C fw:Addr}{dw:FuncData}{J:TJ}{H H':Hp}{x lx zb lt:Addr}{n:Nat}{yH:List V}{ps:List (Int × Int)}{wy:Wf}(W:Wy K C fw dw J)(h:zj c C J H x lx zb lt n yH ps wy)(k:yX H H'):zj c C J H' x lx zb lt n yH ps wy :=
 ⟨W.Af _ _ _ _ _ h.j k,let ⟨dx,fs,h1,h2⟩:=h.i; ⟨dx,fs,k _ _ h1 (by cases fs with | nil=>cases h2.1 | cons _ _=>exact True.intro),h2⟩,⟨k _ _ h.l.1 True.intro,k _ _ h.l.2.1 True.intro,k.CB h.l.2.2⟩,h.Hv,h.zl,h.ok⟩
noncomputable def fQ (J:TJ):Sp:=fun vs H Q _=>∃ (x:Addr)(n:Nat)(wy:Wf)(p g:Nat)(k:Option Nat),vs=[.ref x, .int p, .int g,cV k]/\J H x n wy/\p < n/\g < n/\∀ (D:Addr)(H':Hp),y1 H H'->H D=none->H' D=some (.lst (nV (wy p g k)))->Q (.ref D) H'
structure cy where
 r:Int
 b:Int
 h:Option Int
 qs:List (Int × Int)
structure cp where
 start:Int
 goal:Int
 len:Int
 word:Int
 gone:Int
 way:List Nat
structure YS where
 rooms:List V
 lanes:List cy
 U:List cp
 lies:List (List (Int × Int))
 done:List (List V)
structure Ys where
 y3:Addr
 yO:Addr
 y4:Addr
 ex:List Addr
noncomputable def AB (H:Hp)(C:Addr)(ex:List Addr)(v:V)(s:cy):Prop:=∃ x dx pa yJ,v = .ref x/\yP H C x dx pa s.r s.b s.h yJ s.qs/\pa ∉ ex
noncomputable def nU (s:cp)(wa:Addr):Fs:=[("start", .int s.start),("goal", .int s.goal),("length", .int s.len),("word", .int s.word),("gone", .int s.gone),("way", .ref wa)]
noncomputable def Bj (H:Hp)(C:Addr)(ex:List Addr)(v:V)(s:cp):Prop:=∃ x dx wa,v = .ref x/\H x=some (.ins C dx (nU s wa))/\H wa=some (.lst (nV s.way))/\wa ∉ ex
noncomputable def zW (H:Hp)(v:V)(qs:List (Int × Int)):Prop:=∃ t vs,v = .ref t/\H t=some (.tup vs)/\yT H vs qs
noncomputable def zu (H:Hp)(v:V)(m:List V):Prop:=∃ t,v = .ref t/\H t=some (.tup m)
theorem Paired.mono {α β:Type}{R R':α->β->Prop}(h:∀ a b,R a b->R' a b):∀ {as:List α}{bs:List β},Paired R as bs->Paired R' as bs:=fun y8=>by
 induction y8 with
 | nil=>exact .nil
 | cons x r ih=>exact .cons (h _ _ x) ih
theorem Paired.snoc {α β:Type}{R:α->β->Prop}{a:α}{b:β}(h:R a b):∀ {as:List α}{bs:List β},Paired R as bs->Paired R (as ++ [a]) (bs ++ [b]):=fun y8=>by
 induction y8 with
 | nil=>exact .cons h .nil
 | cons x r ih=>exact .cons x ih
theorem Paired.at {α β:Type}{R:α->β->Prop}:∀ {as:List α}{bs:List β}{i:Nat}{a:α},Paired R as bs->as[i]? = some a->∃ b,bs[i]? = some b/\R a b:=by
 intro _ _ i _ y8
 induction y8 generalizing i with
 | nil=>intro h;cases h
 | cons x r ih =>
  intro h
  cases i with
  | zero=>cases h;exact⟨_,rfl,x⟩
  | succ i=>exact ih (i:=i) h
theorem Paired.at2 {α β:Type}{R:α->β->Prop}:∀ {as:List α}{bs:List β}{i:Nat}{b:β},Paired R as bs->bs[i]? = some b->∃ a,as[i]? = some a/\R a b:=by
 intro _ _ i _ y8
 induction y8 generalizing i with
 | nil=>intro h;cases h
 | cons x r ih =>
  intro h
  cases i with
  | zero=>cases h;exact⟨_,rfl,x⟩
  | succ i=>exact ih (i:=i) h
noncomputable def yG (ex:List Addr)(H H':Hp):Prop:=∀ b o,b ∉ ex->H b=some o->H' b=some o
theorem y1.ze {ex:List Addr}{H H':Hp}(s:y1 H H'):yG ex H H':=fun b o _ e=>s b o e
theorem yG.trans {ex:List Addr}{H H1 H2:Hp}(a:yG ex H H1)(b:yG ex H1 H2):yG ex H H2:=fun x o n e=>b x o n (a x o n e)
theorem yT.ze {ex:List Addr}{H H':Hp}(hx:∀ b ∈ ex,∃ xs,H b=some (.lst xs))(o:yG ex H H'){vs:List V}{ps:List (Int × Int)}(h:yT H vs ps):yT H' vs ps :=
 yT.imp (fun _ _ y8=>by obtain⟨t,e,q⟩:=y8;exact⟨t,e,o _ _ (fun z=>by obtain⟨xs,hz⟩:=hx _ z;rw[q]at hz;cases hz) q⟩) h
theorem yG.EC {ex:List Addr}{H H':Hp}(hx:∀ b ∈ ex,∃ o,H b=some o/\¬ NL o)(o:yG ex H H'):yX H H':=fun b u e n=>o b u (fun z=>by obtain⟨o',hz,hn⟩:=hx _ z;rw[e]at hz;cases hz;exact hn n) e
theorem yG.yF {ex:List Addr}{H H':Hp}(hx:∀ b ∈ ex,∃ xs,H b=some (.lst xs))(o:yG ex H H'):yX H H':=o.EC fun b hb=>let ⟨xs,hz⟩:=hx b hb; ⟨_,hz,id⟩
theorem AB.ze {ex:List Addr}{H H':Hp}{C:Addr}{v:V}{s:cy}(hx:∀ b ∈ ex,∃ xs,H b=some (.lst xs))(o:yG ex H H')(h:AB H C ex v s):AB H' C ex v s:=by
 obtain⟨x,dx,pa,yJ,e,L,n⟩:=h
 have k:=o.yF hx
 exact⟨x,dx,pa,yJ,e,⟨k _ _ L.ins True.intro,o _ _ n L.lst,yT.ze hx o L.zw⟩,n⟩
theorem Bj.ze {ex:List Addr}{H H':Hp}{C:Addr}{v:V}{s:cp}(hx:∀ b ∈ ex,∃ xs,H b=some (.lst xs))(o:yG ex H H')(h:Bj H C ex v s):Bj H' C ex v s:=by
 obtain⟨x,dx,wa,e,h1,h2,n⟩:=h
 exact⟨x,dx,wa,e,o.yF hx _ _ h1 True.intro,o _ _ n h2,n⟩
theorem zW.keep {H H':Hp}{v:V}{qs:List (Int × Int)}(k:yX H H')(h:zW H v qs):zW H' v qs:=by
 obtain⟨t,vs,e,h1,h2⟩:=h
 exact⟨t,vs,e,k _ _ h1 True.intro,k.CB h2⟩
theorem zu.keep {H H':Hp}{v:V}{m:List V}(k:yX H H')(h:zu H v m):zu H' v m:=by
 obtain⟨t,e,h1⟩:=h
 exact⟨t,e,k _ _ h1 True.intro⟩
noncomputable def oE (tb ro la le li dn:Addr):Fs:=[("table", .ref tb),("rooms", .ref ro),("lanes", .ref la),("letters", .ref le),("lies", .ref li),("done", .ref dn)]
structure yA (K:Frag)(ys:Ys)(H:Hp)(y dy tb ro la le li dn:Addr)(s:YS):Prop where
 ins:H y=some (.ins ys.y3 dy (oE tb ro la le li dn))
 ED:yD K H ro s.rooms
 zx:∃ vs,H la=some (.lst vs)/\Paired (AB H ys.yO (la :: le :: li :: dn :: ys.ex)) vs s.lanes
 hle:∃ vs,H le=some (.lst vs)/\Paired (Bj H ys.y4 (la :: le :: li :: dn :: ys.ex)) vs s.U
 Ai:∃ vs,H li=some (.lst vs)/\Paired (zW H) vs s.lies
 zD:∃ vs,H dn=some (.lst vs)/\Paired (zu H) vs s.done
 ne:[la,le,li,dn].Nodup
 hex:∀ b ∈ ys.ex,∃ xs,H b=some (.lst xs)
theorem yA.AD {K:Frag}{ys:Ys}{H:Hp}{y dy tb ro la le li dn:Addr}{s:YS}(h:yA K ys H y dy tb ro la le li dn s):∀ b ∈ [la,le,li,dn],∃ xs,H b=some (.lst xs):=by
 intro b hb
 obtain⟨v1,h1,_⟩:=h.zx
 obtain⟨v2,h2,_⟩:=h.hle
 obtain⟨v3,h3,_⟩:=h.Ai
 obtain⟨v4,h4,_⟩:=h.zD
 simp only[mem_cons,not_mem_nil,or_false]at hb
 rcases hb with rfl | rfl | rfl | rfl
 ·exact⟨_,h1⟩
 ·exact⟨_,h2⟩
 ·exact⟨_,h3⟩
 ·exact⟨_,h4⟩
theorem yA.B5 {K:Frag}{ys:Ys}{H:Hp}{y dy tb ro la le li dn:Addr}{s:YS}(h:yA K ys H y dy tb ro la le li dn s):∀ b ∈ la :: le :: li :: dn :: ys.ex,∃ xs,H b=some (.lst xs):=by
 intro b hb
 have e:la :: le :: li :: dn :: ys.ex=[la,le,li,dn] ++ ys.ex:=rfl
 rw[e]at hb
 rcases mem_append.mp hb with hb | hb
 ·exact h.AD b hb
 ·exact h.hex b hb
theorem yA.same {K:Frag}{ys:Ys}{H H':Hp}{y dy tb ro la le li dn:Addr}{s:YS}(h:yA K ys H y dy tb ro la le li dn s)(e:y1 H H'):yA K ys H' y dy tb ro la le li dn s:=by
 have hx:=h.B5
 obtain⟨v1,h1,p1⟩:=h.zx
 obtain⟨v2,h2,p2⟩:=h.hle
 obtain⟨v3,h3,p3⟩:=h.Ai
 obtain⟨v4,h4,p4⟩:=h.zD
 have o:yG (la :: le :: li :: dn :: ys.ex) H H':=y1.ze e
 exact⟨e _ _ h.ins,b6 e h.ED,⟨v1,e _ _ h1,Paired.mono (fun _ _ z=>z.ze hx o) p1⟩,⟨v2,e _ _ h2,Paired.mono (fun _ _ z=>z.ze hx o) p2⟩,⟨v3,e _ _ h3,Paired.mono (fun _ _ z=>z.keep (y1.yF e)) p3⟩,⟨v4,e _ _ h4,Paired.mono (fun _ _ z=>z.keep (y1.yF e)) p4⟩,h.ne,fun b hb=>let ⟨xs,hz⟩:=h.hex b hb; ⟨xs,e _ _ hz⟩⟩
structure eU (K:Frag)(ys:Ys):Prop where
 cl:Bd K ys.y3
 n1:yI K ys.y3 "table"
 n2:yI K ys.y3 "rooms"
 n3:yI K ys.y3 "lanes"
 n4:yI K ys.y3 "letters"
 n5:yI K ys.y3 "lies"
 n6:yI K ys.y3 "done"
 ct:Bd K ys.y4
 t1:yI K ys.y4 "start"
 t2:yI K ys.y4 "goal"
 t3:yI K ys.y4 "length"
 t4:yI K ys.y4 "word"
 t5:yI K ys.y4 "gone"
 t6:yI K ys.y4 "way"
 L:v9 K ys.yO
noncomputable def rj (C:Addr):Sp:=fun vs H Q _=>∃ (x dx:Addr)(a b l u:Int),vs=[.ref x, .int a, .int b, .int l, .int u]/\H x=some (.ins C dx [])/\∀ (wa:Addr)(H':Hp),H wa=none->(∀ z o,z ≠ x->H z=some o->H' z=some o)->H' x=some (.ins C dx (nU ⟨a,b,l,u,0,[]⟩ wa))->H' wa=some (.lst (nV []))->Q .yK H'
theorem JE:ap ["self", "start", "goal", "length", "word"] ["self", "start", "goal", "length", "word"] (aj rR):=L2.yW
theorem xt {ys:Ys}{f:Addr}{fd:FuncData}(F:yS K "__init__" "Letter.__init__" rR f fd)(Y:eU K ys):y2 P w K mg base az 1 f fd ["self", "start", "goal", "length", "word"] (rj ys.y4):=by
 refine F.ok JE (fun _ _ _ _ h=>?_) (fun _ _ _ s H _ Q E hr h=>?_)
 ·obtain⟨x,dx,a,b,l,u,rfl,_⟩:=h
  rfl
 ·obtain⟨x,dx,a,b,l,u,rfl,hx,q⟩:=h
  refine⟨_,ae (bj (pv 0) (pv 1) rfl) (ae (bj (pv 0) (pv 2) rfl) (ae (bj (pv 0) (pv 3) rfl) (ae (bj (pv 0) (pv 4) rfl) (ae (bj (pv 0) ai rfl) (ah (bj (pv 0) (aU ad) rfl)))))),?_⟩
  refine⟨_,rfl,_,rfl,x,ys.y4,dx,_,rfl,hx,Y.ct,Y.t1,by show 0 < 1000;decide,?_⟩
  refine⟨_,rfl,_,rfl,x,ys.y4,dx,_,rfl,ac,Y.ct,Y.t2,by show 1 < 1000;decide,?_⟩
  refine⟨_,rfl,_,rfl,x,ys.y4,dx,_,rfl,ac,Y.ct,Y.t3,by show 2 < 1000;decide,?_⟩
  refine⟨_,rfl,_,rfl,x,ys.y4,dx,_,rfl,ac,Y.ct,Y.t4,by show 3 < 1000;decide,?_⟩
  refine⟨_,rfl,x,ys.y4,dx,_,rfl,ac,Y.ct,Y.t5,by show 4 < 1000;decide,?_⟩
  refine⟨zero_le _,fun wa Cz=>?_⟩
  have Ea:x ≠ wa:=ag ac Cz
  refine⟨_,rfl,x,ys.y4,dx,_,rfl,by rw[af Ea];exact ac,Y.ct,Y.t6,by show 5 < 1000;decide,?_⟩
  have JF:H wa=none:=by
   rw[af (Ne.symm Ea),af (Ne.symm Ea),af (Ne.symm Ea),af (Ne.symm Ea),af (Ne.symm Ea)]at Cz
   exact Cz
  refine q wa _ JF (fun z o nz e=>?_) ac (by rw[af (Ne.symm Ea)];exact ac)
  have nzw:z ≠ wa:=ag e JF
  rw[af nz,af nzw,af nz,af nz,af nz,af nz,af nz]
  exact e
noncomputable def vI:V->Int
 | .int i=>i
 | _=>0
noncomputable def qt (v:V):cy:=⟨vI v,0,none,[]⟩
noncomputable def Y0 (rooms:List V)(n:Nat):YS:=⟨rooms,rooms.map qt,[],List.replicate n [],[]⟩
noncomputable def Ao (H0 H:Hp)(C:Addr)(v:V)(s:cy):Prop:=∃ x dx pa,v = .ref x/\yP H C x dx pa s.r s.b s.h [] []/\s.qs=[]/\H0 x=none/\H0 pa=none
theorem Ao.same {H0 H H':Hp}{C:Addr}{v:V}{s:cy}(h:Ao H0 H C v s)(e:y1 H H'):Ao H0 H' C v s:=by
 obtain⟨x,dx,pa,h1,h2,h3⟩:=h
 exact⟨x,dx,pa,h1,h2.same e,h3⟩
noncomputable def zc (y:Addr)(ex:List Addr)(H:Hp)(C:Addr)(v:V)(s:cy):Prop:=∃ x dx pa,v = .ref x/\yP H C x dx pa s.r s.b s.h [] []/\s.qs=[]/\x ≠ y/\pa ≠ y/\pa ∉ ex
theorem Ao.JG {H0 H:Hp}{C y:Addr}{v:V}{s:cy}{u:HO}(h:Ao H0 H C v s){ex:List Addr}(hy:H0 y=some u)(hx:∀ b ∈ ex,∃ o,H0 b=some o):zc y ex H C v s:=by
 obtain⟨x,dx,pa,h1,h2,h3,h4,h5⟩:=h
 exact⟨x,dx,pa,h1,h2,h3,(fun z=>by rw[z,hy]at h4;cases h4),(fun z=>by rw[z,hy]at h5;cases h5),fun z=>by obtain⟨o,ho⟩:=hx _ z;rw[h5]at ho;cases ho⟩
theorem zc.same {y:Addr}{ex:List Addr}{H H':Hp}{C:Addr}{v:V}{s:cy}(h:zc y ex H C v s)(e:y1 H H'):zc y ex H' C v s:=by
 obtain⟨x,dx,pa,h1,h2,h3⟩:=h
 exact⟨x,dx,pa,h1,h2.same e,h3⟩
theorem zc.upd {y:Addr}{ex:List Addr}{H:Hp}{C:Addr}{v:V}{s:cy}{o:HO}(h:zc y ex H C v s):zc y ex (upd H y o) C v s:=by
 obtain⟨x,dx,pa,h1,h2,h3,h4,h5,h6⟩:=h
 exact⟨x,dx,pa,h1,⟨by rw[af h4];exact h2.ins,by rw[af h5];exact h2.lst, .nil⟩,h3,h4,h5,h6⟩
theorem zc.new {y a:Addr}{ex:List Addr}{H:Hp}{C:Addr}{v:V}{s:cy}{o:HO}(h:zc y ex H C v s)(ha:H a=none):zc y (a :: ex) (L2.upd H a o) C v s:=by
 obtain⟨x,dx,pa,h1,h2,h3,h4,h5,h6⟩:=h
 exact⟨x,dx,pa,h1,h2.same ((y1.refl H).new ha),h3,h4,h5,fun z=>(mem_cons.mp z).elim (fun z=>by rw[z]at h2;rw[h2.lst]at ha;cases ha) h6⟩
theorem zc.JH {y:Addr}{ex Hh:List Addr}{H:Hp}{C:Addr}{v:V}{s:cy}(h:zc y ex H C v s)(hs:∀ a ∈ Hh,a ∈ ex):AB H C Hh v s:=by
 obtain⟨x,dx,pa,h1,h2,h3,h4,h5,h6⟩:=h
 exact⟨x,dx,pa,[],h1,by rw[h3];exact h2,fun z=>h6 (hs _ z)⟩
theorem oz {K:Frag}{ro C:Addr}{yM:List V}{g:TG}{te:TE}{σ0:St}{H:Hp}{Q:VK}(hn:yM.length < sizeLine)(ha:yD K H ro yM)(hint:∀ v ∈ yM,∃ r,v = .int r)
  (hs:∀ (r:Int)(H1:Hp)(N:V->Hp->Prop),y1 H H1->(∀ x dx pa H2,H1 x=none->H1 pa=none->y1 H1 H2->yP H2 C x dx pa r 0 none [] []->N (.ref x) H2)->g (.int r) σ0 H1 fun σ2 H2=>te σ2 H2 N)
  (hq:∀ D vs H1,y1 H H1->H1 D=none->Paired (Ao H H1 C) vs (yM.map qt)->Q (.ref D) (upd H1 D (.lst vs))):dB (Mu K ro) g l8 te σ0 Q H:=by
 refine bZ yM.length hn (fun i acc H'=>y1 H H'/\Paired (Ao H H' C) acc ((yM.take i).map qt)) ⟨y1.refl _, .nil⟩ (fun i acc H' h=>by have:=Paired.length h.2;rw[this,length_map];exact length_take_le _ _) (fun i acc H' hi h=>?_) (fun acc H' h=>?_)
 ·obtain⟨s,hL⟩:=h
  refine⟨⟨yM,yM[i],b6 s ha,by simp[hi]⟩,fun v H2 y=>?_⟩
  obtain⟨e,y⟩:=y
  subst e
  have hv:=y _ (b6 s ha)
  obtain⟨r,rfl⟩:=hint v (mem_of_getElem? hv)
  refine hs r H2 (fun y H4=>y1 H H4/\Paired (Ao H H4 C) (acc ++ [y]) ((yM.take (i + 1)).map qt)) s fun x dx pa H3 nx Eb s3 De=>⟨s.trans s3,?_⟩
  rw[take_succ,hv,Option.toList_some,map_append]
  exact Paired.snoc (b:=qt (.int r)) ⟨x,dx,pa,rfl,De,rfl,s.free nx,s.free Eb⟩ (Paired.mono (fun _ _ z=>z.same s3) hL)
 ·obtain⟨s,hL⟩:=h
  rw[take_length]at hL
  exact⟨⟨yM,b6 s ha,le_refl _⟩,fun D hD=>hq D acc H' s hD hL⟩
theorem qF {n:Nat}{g:TG}{te:TE}{σ0:St}{H:Hp}{Q:VK}(hn:n <= 1000)
  (hs:∀ (i:Nat)(H1:Hp)(N:V->Hp->Prop),y1 H H1->(∀ t,H1 t=none->N (.ref t) (upd H1 t (.tup [])))->g (.int (0 + i)) σ0 H1 fun σ2 H2=>te σ2 H2 N)
  (hq:∀ D vs H1,y1 H H1->H1 D=none->Paired (zW H1) vs (List.replicate n [])->Q (.ref D) (upd H1 D (.lst vs))):dB (vB 0 n) g l8 te σ0 Q H:=by
 refine bZ n (by rw[sizeLine_eq];omega) (fun i acc H'=>y1 H H'/\Paired (zW H') acc (List.replicate i [])) ⟨y1.refl _, .nil⟩ (fun i acc H' h=>by have:=Paired.length h.2;rw[this,length_replicate];exact le_refl _) (fun i acc H' hi h=>?_) (fun acc H' h=>?_)
 ·obtain⟨s,hL⟩:=h
  refine⟨hi,fun v H2 y=>?_⟩
  obtain⟨e1,e2⟩:=y
  subst e1 e2
  refine hs i H2 (fun y H4=>y1 H H4/\Paired (zW H4) (acc ++ [y]) (List.replicate (i + 1) [])) s fun t ht=>⟨s.new ht,?_⟩
  rw[List.replicate_succ']
  exact Paired.snoc ⟨t,[],rfl,ac, .nil⟩ (Paired.mono (fun _ _ z=>z.keep (y1.yF ((y1.refl H2).new ht))) hL)
 ·obtain⟨s,hL⟩:=h
  exact⟨le_refl n,fun D hD=>hq D acc H' s hD hL⟩
theorem dN {K:Frag}{H:Hp}{a y C d:Addr}{fs:Fs}{o:HO}{xs:List V}(hy:H y=some (.ins C d fs))(h:yD K H a xs):yD K (upd H y o) a xs:=by
 rcases h with h | h
 ·refine .inl ?_
  rcases h with h | ⟨u,h⟩
  ·exact .inl (by rw[af (aR h hy (by intro z;cases z))];exact h)
  ·exact .inr ⟨u,by rw[af (aR h hy (by intro z;cases z))];exact h⟩
 ·exact .inr h
theorem ud {K:Frag}{H:Hp}{a y C d:Addr}{fs:Fs}{o:HO}{xs:List V}(hy:H y=some (.ins C d fs))(h:y6 K H a xs):y6 K (upd H y o) a xs:=by
 rcases h with h | h
 ·refine .inl ?_
  rcases h with h | ⟨u,h⟩
  ·exact .inl (by rw[af (aR h hy (by intro z;cases z))];exact h)
  ·exact .inr ⟨u,by rw[af (aR h hy (by intro z;cases z))];exact h⟩
 ·exact .inr h
noncomputable def iE (K:Frag)(c:Cs)(TC:Addr)(J:TJ)(ys:Ys):Sp:=fun vs H Q _=>∃ (y dy tb lx zb lt:Addr)(n:Nat)(yH:List V)(ps:List (Int × Int))(wy:Wf)(rv:V)(yM:List V),vs=[.ref y, .ref tb,rv]/\H y=some (.ins ys.y3 dy [])/\zj c TC J H tb lx zb lt n yH ps wy/\(∀ b ∈ ys.ex,∃ xs,H b=some (.lst xs)) /\
 ((rv = .yK/\yM=List.replicate ps.length (.int 1))∨(∃ ra,rv = .ref ra/\Sq K H ra yM/\yM.length <= 1000/\(∀ v ∈ yM,qG v)/\(jd ps.length yM=false->False))) /\
 (jd ps.length yM=true->∀ (ro la le li dn:Addr)(H':Hp),yG [y] H H'->H la=none->H le=none->H li=none->H dn=none->yA K ys H' y dy tb ro la le li dn (Y0 yM n)->Q .yK H')
noncomputable def JI (s:Stmt):Scope:=match s with
 | .Assign _ (.ListComp _ _ sc _) _=>sc
 | _=>zQ0
theorem gc {v:V}{a b:Int}(h:jE v a b=true):∃ r,v = .int r:=by
 cases v<;>first | exact⟨_,rfl⟩ | cases h
theorem OZ:ap ["self", "table", "rooms"] ["self", "table", "rooms"] (aj gx):=L2.yW
theorem JJ:zP ["self", "table", "rooms"] (aj gx) (JI ((aM gx).getD 2 (.Pass ⟨0,0,0,0⟩))) [] []:=L2.AN
theorem JK:zP ["self", "table", "rooms"] (aj gx) (JI ((aM gx).getD 4 (.Pass ⟨0,0,0,0⟩))) [] []:=L2.AN
theorem JL:(["place"]:List Str).Nodup:=by decide +kernel
theorem xg {c:Cs}{ys:Ys}{J:TJ}{TC f EE fr fl:Addr}{fd EF dr dl:FuncData}(F:Cu K "__init__" "Yard.__init__" gx f fd)(T:dJ mg)(L:qL K c)(Y:eU K ys)(W:Wy K TC EE EF J)
  (mr:mg "rooms_of" = some (.ref fr)) (kr:keepIn K (.ref fr)=true) (br:Binds K dr ["land", "rooms"] []) (Gr:y2 P w K mg base az 3 fr dr ["land", "rooms"] (oJ K c))
  (ml:mg "Lane" = some (.ref ys.yO)) (Ml:Mk K ys.yO fl) (bl:Binds K dl ["self", "room"] []) (Gl:y2 P w K mg base az 1 fl dl ["self", "room"] (rk ys.yO)) :
  y2 P w K mg base az 4 f fd ["self", "table", "rooms"] (iE K c TC J ys):=by
 refine F.ok OZ (fun _ _ _ _ h=>?_) (fun _ _ _ s H _ Q E hr h=>?_)
 ·obtain⟨y,dy,tb,lx,zb,lt,n,yH,ps,wy,rv,yM,rfl,_⟩:=h
  rfl
 ·obtain⟨y,dy,tb,lx,zb,lt,n,yH,ps,wy,rv,yM,rfl,hy,hT,hex,hrv,q⟩:=h
  have EG:∀ b ∈ ys.ex,b ∉ [y]:=fun b hb z=>by obtain⟨xs,hz⟩:=hex b hb;rw[mem_singleton.mp z,hy]at hz;cases hz
  have zV:yC 2 _:=hr.mono (by decide)
  refine⟨_,ae (bj (pv 0) (pv 1) rfl)
   (ae (bj (pv 0) (kO (av Gr hr rfl mr kr br .nil ao (aa (al (pv 1) rfl) (aa (pv 2) ad)))) rfl)
   (ae (bj (pv 0) (bH (own:=["room"]) (capN:=[]) (cap:=[]) JJ rfl (kN (al (pv 0) rfl)) (fun C s' H' fp=>⟨ay (i:=0) JC rfl (Or.inl rfl),ci,dz Ml Gl zV rfl ml bl .nil ao (aa (pv 0) ad)⟩)) rfl)
   (ae (bj (pv 0) (aU ad) rfl)
   (ae (bj (pv 0) (bH (own:=["place"]) (capN:=[]) (cap:=[]) JK rfl (bE rfl T.range (aa (al (al (pv 1) rfl) rfl) ad)) (fun C s' H' fp=>⟨ay (i:=0) JL rfl (Or.inl rfl),ci,aW ad⟩)) rfl)
   (ah (bj (pv 0) (aU ad) rfl)))))),?_⟩
  have hm40:=hT.zl
  have Pa:=hT.Hv
  obtain⟨C0,fst,Cg,zA,_⟩:=hT.i
  have kp:∀ {H':Hp},yG [y] H H'->yX H H':=fun o=>o.EC fun b hb=>by rw[mem_singleton.mp hb];exact⟨_,hy,id⟩
  have Pb:tb ≠ y:=aR Cg hy (fun z=>by injection z with _ _ z3;rw[z3]at zA;cases zA)
  refine⟨_,rfl,_,rfl,y,ys.y3,dy,_,rfl,hy,Y.cl,Y.n1,by show 0 < 1000;decide,?_⟩
  have o1:yG [y] H (upd H y (.ins ys.y3 dy (aN "table" (.ref tb) []))):=fun b o nb e=>by rw[af (fun z=>nb (by rw[z];exact mem_singleton.mpr rfl))];exact e
  have g1:(upd H y (.ins ys.y3 dy (aN "table" (.ref tb) []))) y=some (.ins ys.y3 dy [("table", .ref tb)]):=ac
  have TY:∀ ra,Sq K H ra yM->Sq K (upd H y (.ins ys.y3 dy (aN "table" (.ref tb) []))) ra yM:=fun ra h=>h.elim (fun h => .inl (ud hy h)) fun h => .inr (dN hy h)
  show _
  generalize upd H y (.ins ys.y3 dy (aN "table" (.ref tb) []))=A1 at o1 g1 TY ⊢
  have hT1:=hT.keep W (kp o1)
  have Hw:∀ {Ha Hb:Hp}{o:HO},yG [y] Ha Hb->yG [y] Ha (upd Hb y o):=fun {Ha Hb o} h b u nb e=>by rw[af (fun z=>nb (by rw[z];exact mem_singleton.mpr rfl))];exact h b u nb e
  refine⟨fun v A2=>∃ ro,v = .ref ro/\y1 A1 A2/\yD K A2 ro yM/\jd ps.length yM=true,?_,?_⟩
  ·refine⟨_,rfl,tb,TC,C0,fst,_,rfl,o1 _ _ (fun z=>Pb (mem_singleton.mp z)) Cg,W.cl,W.nl,zA,_,rfl,lx,zb,lt,(n:Int),yH,ps,rv,rfl,hT1.l,by omega,?_⟩
   rcases hrv with ⟨rfl,rfl⟩ | ⟨ra,rfl,hR,Cy,JD,qE⟩
   ·refine .inl ⟨rfl,fun t A2 s2 ht=>⟨t,rfl,s2,yD.of ht,?_⟩⟩
    unfold jd
    rw[length_replicate,decide_eq_true rfl,Bool.true_and,all_eq_true]
    intro v hv
    rw[eq_of_mem_replicate hv];rfl
   ·have hR1:Sq K A1 ra yM:=TY ra hR
    exact .inr ⟨ra,yM,rfl,hR1,Cy,JD,qE,fun yE t A2 s2 ht=>⟨t,rfl,s2,ht,yE⟩⟩
  rintro v A2 ⟨ro,rfl,s2,ED,yE⟩
  have Az:yM.length=ps.length/\∀ v ∈ yM,∃ r,v = .int r:=by
   unfold jd at yE
   rw[Bool.and_eq_true,decide_eq_true_eq,all_eq_true]at yE
   exact⟨yE.1,fun v hv=>gc (yE.2 v hv)⟩
  have o2:yG [y] H A2:=o1.trans (y1.ze s2)
  have g2:=s2 _ _ g1
  refine⟨_,rfl,y,ys.y3,dy,_,rfl,g2,Y.cl,Y.n2,by show 1 < 1000;decide,?_⟩
  have o3:=Hw (o := .ins ys.y3 dy (aN "rooms" (.ref ro) [("table", .ref tb)])) o2
  have g3:(upd A2 y (.ins ys.y3 dy (aN "rooms" (.ref ro) [("table", .ref tb)]))) y=some (.ins ys.y3 dy [("table", .ref tb),("rooms", .ref ro)]):=ac
  have Ec:yD K (upd A2 y (.ins ys.y3 dy (aN "rooms" (.ref ro) [("table", .ref tb)]))) ro yM:=dN g2 ED
  show _
  generalize upd A2 y (.ins ys.y3 dy (aN "rooms" (.ref ro) [("table", .ref tb)]))=A3 at o3 g3 Ec ⊢
  have Pc:∀ b ∈ ys.ex,∃ o,A3 b=some o:=fun b hb=>let ⟨xs,hz⟩:=hex b hb; ⟨_,o3 b _ (EG b hb) hz⟩
  refine⟨_,rfl,y,ys.y3,dy,_,_,rfl,g3,Y.cl,Y.n2,rfl,ro,rfl,⟨_,Ec⟩,?_⟩
  refine oz (C:=ys.yO) (by rw[sizeLine_eq];omega) Ec Az.2 (fun r B N sB hN=>?_) (fun la yB A4 s4 zx BS=>?_)
  ·refine⟨_,rfl,fun x dx nx JM EG=>⟨x,dx,r,rfl,ac,fun pa B2 Cw off hL=>⟨rfl,?_⟩⟩⟩
   have B4:B pa=none:=by
    by_cases e1:pa=x
    ·rw[e1,ac]at Cw;cases Cw
    ·by_cases e2:pa=dx
     ·rw[e2,af EG,ac]at Cw;cases Cw
     ·rw[af e1,af e2]at Cw;exact Cw
   refine hN x dx pa B2 nx B4 (fun b o e=>off b o (ag e nx) ?_) hL
   rw[af (ag e nx),af (ag e JM)]
   exact e
  have o4:yG [y] H A4:=o3.trans (y1.ze s4)
  have g4:=s4 _ _ g3
  have Ed:la ≠ y:=Ne.symm (ag g4 zx)
  have Pe:H la=none:=by
   cases e:H la with
   | none=>rfl
   | some u=>rw[o4 _ _ (fun z=>Ed (mem_singleton.mp z)) e]at zx;cases zx
  have TZ:Paired (zc y (la :: ys.ex) (upd A4 la (.lst yB)) ys.yO) yB (yM.map qt):=Paired.mono (fun _ _ z=>(z.JG g3 Pc).new zx) BS
  have o5:yG [y] H (upd A4 la (.lst yB)):=o4.trans (y1.ze ((y1.refl A4).new zx))
  have g5:(upd A4 la (.lst yB)) y=some (.ins ys.y3 dy [("table", .ref tb),("rooms", .ref ro)]):=by rw[af (Ne.symm Ed)];exact g4
  have JN:(upd A4 la (.lst yB)) la=some (.lst yB):=ac
  have JO:yD K (upd A4 la (.lst yB)) ro yM:=b6 ((y1.refl A4).new zx) (b6 s4 Ec)
  refine⟨_,rfl,y,ys.y3,dy,_,rfl,g5,Y.cl,Y.n3,by show 2 < 1000;decide,?_⟩
  generalize upd A4 la (.lst yB)=A5 at TZ o5 g5 JN JO ⊢
  have Ua:Paired (zc y (la :: ys.ex) (upd A5 y (.ins ys.y3 dy (aN "lanes" (.ref la) [("table", .ref tb),("rooms", .ref ro)]))) ys.yO) yB (yM.map qt):=Paired.mono (fun _ _ z=>z.upd) TZ
  have o6:=Hw (o := .ins ys.y3 dy (aN "lanes" (.ref la) [("table", .ref tb),("rooms", .ref ro)])) o5
  have g6:(upd A5 y (.ins ys.y3 dy (aN "lanes" (.ref la) [("table", .ref tb),("rooms", .ref ro)]))) y=some (.ins ys.y3 dy [("table", .ref tb),("rooms", .ref ro),("lanes", .ref la)]):=ac
  have F9:(upd A5 y (.ins ys.y3 dy (aN "lanes" (.ref la) [("table", .ref tb),("rooms", .ref ro)]))) la=some (.lst yB):=by rw[af Ed];exact JN
  have JP:=dN (o := .ins ys.y3 dy (aN "lanes" (.ref la) [("table", .ref tb),("rooms", .ref ro)])) g5 JO
  generalize upd A5 y (.ins ys.y3 dy (aN "lanes" (.ref la) [("table", .ref tb),("rooms", .ref ro)]))=A6 at Ua o6 g6 F9 JP ⊢
  refine⟨zero_le _,fun le hle=>?_⟩
  have EH:le ≠ y:=Ne.symm (ag g6 hle)
  have EI:la ≠ le:=ag F9 hle
  have JQ:H le=none:=by
   cases e:H le with
   | none=>rfl
   | some u=>rw[o6 _ _ (fun z=>EH (mem_singleton.mp z)) e]at hle;cases hle
  have Ub:Paired (zc y (le :: la :: ys.ex) (upd A6 le (.lst [])) ys.yO) yB (yM.map qt):=Paired.mono (fun _ _ z=>z.new hle) Ua
  have o7:yG [y] H (upd A6 le (.lst [])):=o6.trans (y1.ze ((y1.refl A6).new hle))
  have g7:(upd A6 le (.lst [])) y=some (.ins ys.y3 dy [("table", .ref tb),("rooms", .ref ro),("lanes", .ref la)]):=by rw[af (Ne.symm EH)];exact g6
  have JR:(upd A6 le (.lst [])) la=some (.lst yB):=by rw[af EI];exact F9
  have JS:(upd A6 le (.lst [])) le=some (.lst []):=ac
  have JT:yD K (upd A6 le (.lst [])) ro yM:=b6 ((y1.refl A6).new hle) JP
  refine⟨_,rfl,y,ys.y3,dy,_,rfl,g7,Y.cl,Y.n4,by show 3 < 1000;decide,?_⟩
  generalize upd A6 le (.lst [])=A7 at Ub o7 g7 JR JS JT ⊢
  have Uc:Paired (zc y (le :: la :: ys.ex) (upd A7 y (.ins ys.y3 dy (aN "letters" (.ref le) [("table", .ref tb),("rooms", .ref ro),("lanes", .ref la)]))) ys.yO) yB (yM.map qt):=Paired.mono (fun _ _ z=>z.upd) Ub
  have o8:=Hw (o := .ins ys.y3 dy (aN "letters" (.ref le) [("table", .ref tb),("rooms", .ref ro),("lanes", .ref la)])) o7
  have g8:(upd A7 y (.ins ys.y3 dy (aN "letters" (.ref le) [("table", .ref tb),("rooms", .ref ro),("lanes", .ref la)]))) y=some (.ins ys.y3 dy [("table", .ref tb),("rooms", .ref ro),("lanes", .ref la),("letters", .ref le)]):=ac
  have FA:(upd A7 y (.ins ys.y3 dy (aN "letters" (.ref le) [("table", .ref tb),("rooms", .ref ro),("lanes", .ref la)]))) la=some (.lst yB):=by rw[af Ed];exact JR
  have FC:(upd A7 y (.ins ys.y3 dy (aN "letters" (.ref le) [("table", .ref tb),("rooms", .ref ro),("lanes", .ref la)]))) le=some (.lst []):=by rw[af EH];exact JS
  have JU:=dN (o := .ins ys.y3 dy (aN "letters" (.ref le) [("table", .ref tb),("rooms", .ref ro),("lanes", .ref la)])) g7 JT
  generalize upd A7 y (.ins ys.y3 dy (aN "letters" (.ref le) [("table", .ref tb),("rooms", .ref ro),("lanes", .ref la)]))=A8 at Uc o8 g8 FA FC JU ⊢
  have hT8:=hT.keep W (kp o8)
  refine⟨_,rfl,tb,TC,C0,fst,_,rfl,o8 _ _ (fun z=>Pb (mem_singleton.mp z)) Cg,W.cl,W.nl,zA,lx,c.land,zb,_,_,rfl,hT8.l.1,L.cl,L.np,rfl,(n:Int),rfl,by omega,by omega,?_⟩
  rw[toNat_natCast]
  refine qF (by omega) (fun i B N sB hN=>⟨zero_le _,fun t ht=>hN t ht⟩) (fun li Aj A9 s9 Ai ML=>?_)
  have g9:=s9 _ _ g8
  have o9:yG [y] H A9:=o8.trans (y1.ze s9)
  have Hx:li ≠ y:=Ne.symm (ag g9 Ai)
  have JV:la ≠ li:=ag (s9 _ _ FA) Ai
  have JW:le ≠ li:=ag (s9 _ _ FC) Ai
  have FD:H li=none:=by
   cases e:H li with
   | none=>rfl
   | some u=>rw[o9 _ _ (fun z=>Hx (mem_singleton.mp z)) e]at Ai;cases Ai
  have Hy:=(y1.refl A9).new (o := .lst Aj) Ai
  have JX:Paired (zc y (li :: le :: la :: ys.ex) (upd A9 li (.lst Aj)) ys.yO) yB (yM.map qt):=Paired.mono (fun _ _ z=>(z.same s9).new Ai) Uc
  have EJ:Paired (zW (upd A9 li (.lst Aj))) Aj (List.replicate n []):=Paired.mono (fun _ _ z=>z.keep (y1.yF Hy)) ML
  have EK:(upd A9 li (.lst Aj)) li=some (.lst Aj):=ac
  have Ud:yG [y] H (upd A9 li (.lst Aj)):=o9.trans (y1.ze Hy)
  have MN:=Hy _ _ g9
  have EL:=Hy _ _ (s9 _ _ FA)
  have EM:=Hy _ _ (s9 _ _ FC)
  have EN:=b6 Hy (b6 s9 JU)
  refine⟨_,rfl,y,ys.y3,dy,_,rfl,MN,Y.cl,Y.n5,by show 4 < 1000;decide,?_⟩
  generalize upd A9 li (.lst Aj)=FE at JX EJ EK Ud MN EL EM EN ⊢
  have JY:∀ {B:Hp}{o:HO}{C d:Addr}{fs:Fs}{v:V}{qs:List (Int × Int)},B y=some (.ins C d fs)->zW B v qs->zW (upd B y o) v qs:=fun {B o C d fs v qs} hB h=>by
   obtain⟨t,ws,e,h1,h2⟩:=h
   exact⟨t,ws,e,by rw[af (aR h1 hB (by intro z;cases z))];exact h1,yT.imp (fun _ _ y8=>by obtain⟨t',e',q'⟩:=y8;exact⟨t',e',by rw[af (aR q' hB (by intro z;cases z))];exact q'⟩) h2⟩
  have JZ:Paired (zc y (li :: le :: la :: ys.ex) (upd FE y (.ins ys.y3 dy (aN "lies" (.ref li) [("table", .ref tb),("rooms", .ref ro),("lanes", .ref la),("letters", .ref le)]))) ys.yO) yB (yM.map qt):=Paired.mono (fun _ _ z=>z.upd) JX
  have EO:Paired (zW (upd FE y (.ins ys.y3 dy (aN "lies" (.ref li) [("table", .ref tb),("rooms", .ref ro),("lanes", .ref la),("letters", .ref le)])))) Aj (List.replicate n []):=Paired.mono (fun _ _ z=>JY MN z) EJ
  have MO:=Hw (o := .ins ys.y3 dy (aN "lies" (.ref li) [("table", .ref tb),("rooms", .ref ro),("lanes", .ref la),("letters", .ref le)])) Ud
  have Pf:(upd FE y (.ins ys.y3 dy (aN "lies" (.ref li) [("table", .ref tb),("rooms", .ref ro),("lanes", .ref la),("letters", .ref le)]))) y=some (.ins ys.y3 dy [("table", .ref tb),("rooms", .ref ro),("lanes", .ref la),("letters", .ref le),("lies", .ref li)]):=ac
  have Df:(upd FE y (.ins ys.y3 dy (aN "lies" (.ref li) [("table", .ref tb),("rooms", .ref ro),("lanes", .ref la),("letters", .ref le)]))) la=some (.lst yB):=by rw[af Ed];exact EL
  have Dg:(upd FE y (.ins ys.y3 dy (aN "lies" (.ref li) [("table", .ref tb),("rooms", .ref ro),("lanes", .ref la),("letters", .ref le)]))) le=some (.lst []):=by rw[af EH];exact EM
  have Dh:(upd FE y (.ins ys.y3 dy (aN "lies" (.ref li) [("table", .ref tb),("rooms", .ref ro),("lanes", .ref la),("letters", .ref le)]))) li=some (.lst Aj):=by rw[af Hx];exact EK
  have ER:=dN (o := .ins ys.y3 dy (aN "lies" (.ref li) [("table", .ref tb),("rooms", .ref ro),("lanes", .ref la),("letters", .ref le)])) MN EN
  generalize upd FE y (.ins ys.y3 dy (aN "lies" (.ref li) [("table", .ref tb),("rooms", .ref ro),("lanes", .ref la),("letters", .ref le)]))=A11 at JZ EO MO Pf Df Dg Dh ER ⊢
  refine⟨zero_le _,fun dn zD=>?_⟩
  have Hz:dn ≠ y:=Ne.symm (ag Pf zD)
  have Ka:la ≠ dn:=ag Df zD
  have Kb:le ≠ dn:=ag Dg zD
  have Kc:li ≠ dn:=ag Dh zD
  have Pg:H dn=none:=by
   cases e:H dn with
   | none=>rfl
   | some u=>rw[MO _ _ (fun z=>Hz (mem_singleton.mp z)) e]at zD;cases zD
  have ES:=(y1.refl A11).new (o := .lst []) zD
  have Ph:=ES _ _ Pf
  refine⟨_,rfl,y,ys.y3,dy,_,rfl,Ph,Y.cl,Y.n6,by show 5 < 1000;decide,?_⟩
  refine q yE ro la le li dn _ (Hw (MO.trans (y1.ze ES))) Pe JQ FD Pg ⟨ac,dN Ph (b6 ES ER),⟨yB,by rw[af Ed];exact ES _ _ Df,?_⟩,⟨[],by rw[af EH];exact ES _ _ Dg, .nil⟩,⟨Aj,by rw[af Hx];exact ES _ _ Dh,Paired.mono (fun _ _ z=>JY Ph (z.keep (y1.yF ES))) EO⟩,⟨[],by rw[af Hz];exact ac, .nil⟩,?_,(fun b hb=>let ⟨xs,hz⟩:=hex b hb; ⟨xs,(Hw (MO.trans (y1.ze ES))) b _ (EG b hb) hz⟩)⟩
  ·refine Paired.mono (fun _ _ z=>((z.new zD).upd).JH fun a ha=>?_) JZ
   simp only[mem_cons]at ha ⊢
   rcases ha with rfl | rfl | rfl | rfl | h
   ·exact .inr (.inr (.inr (.inl rfl)))
   ·exact .inr (.inr (.inl rfl))
   ·exact .inr (.inl rfl)
   ·exact .inl rfl
   ·exact .inr (.inr (.inr (.inr h)))
  ·simp only[nodup_cons,mem_cons,not_mem_nil,or_false,not_or,not_false_eq_true,and_true,nodup_nil]
   exact⟨⟨EI,JV,Ka⟩,⟨JW,Kb⟩,Kc⟩
theorem yA.off {K:Frag}{ys:Ys}{H H':Hp}{y dy tb ro la le li dn:Addr}{s:YS}(h:yA K ys H y dy tb ro la le li dn s)(o:yG (la :: le :: li :: dn :: ys.ex) H H'):H' y=some (.ins ys.y3 dy (oE tb ro la le li dn))/\yD K H' ro s.rooms/\(∀ vs ss,Paired (AB H ys.yO (la :: le :: li :: dn :: ys.ex)) vs ss->Paired (AB H' ys.yO (la :: le :: li :: dn :: ys.ex)) vs ss)/\(∀ vs ss,Paired (Bj H ys.y4 (la :: le :: li :: dn :: ys.ex)) vs ss->Paired (Bj H' ys.y4 (la :: le :: li :: dn :: ys.ex)) vs ss)/\(∀ vs ss,Paired (zW H) vs ss->Paired (zW H') vs ss)/\∀ vs ss,Paired (zu H) vs ss->Paired (zu H') vs ss:=by
 have hx:=h.B5
 have k:=o.yF hx
 refine⟨k _ _ h.ins True.intro,?_,fun vs ss=>Paired.mono fun _ _ z=>z.ze hx o,fun vs ss=>Paired.mono fun _ _ z=>z.ze hx o,fun vs ss=>Paired.mono fun _ _ z=>z.keep k,fun vs ss=>Paired.mono fun _ _ z=>z.keep k⟩
 rcases h.ED with r | r
 ·refine .inl ?_
  rcases r with r | ⟨u,r⟩
  ·exact .inl (k _ _ r True.intro)
  ·exact .inr ⟨u,k _ _ r True.intro⟩
 ·exact .inr r
theorem c7 {ex:List Addr}{a:Addr}{H:Hp}{o:HO}(ha:a ∈ ex):yG ex H (upd H a o):=fun b u nb e=>by rw[af (fun z=>nb (by rw[z];exact ha))];exact e
theorem p9 {H:Hp}{x b:Addr}{zs:List V}(h:∃ xs,H b=some (.lst xs)):∃ xs,(upd H x (.lst zs)) b=some (.lst xs):=by
 by_cases e:b=x
 ·exact⟨zs,by rw[e,ac]⟩
 ·obtain⟨xs,hz⟩:=h
  exact⟨xs,by rw[af e];exact hz⟩
theorem yA.Kd {K:Frag}{ys:Ys}{H:Hp}{y dy tb ro la le li dn:Addr}{s:YS}(h:yA K ys H y dy tb ro la le li dn s){vs:List V}{v:V}{t:cp}(hv:H le=some (.lst vs))(hL:Bj H ys.y4 (la :: le :: li :: dn :: ys.ex) v t):yA K ys (upd H le (.lst (vs ++ [v]))) y dy tb ro la le li dn { s with U:=s.U ++ [t] }:=by
 obtain⟨h1,h2,f1,f2,f3,f4⟩:=h.off (c7 (a:=le) (o := .lst (vs ++ [v])) (by simp))
 obtain⟨v1,a1,p1⟩:=h.zx
 obtain⟨v2,a2,p2⟩:=h.hle
 obtain⟨v3,a3,p3⟩:=h.Ai
 obtain⟨v4,a4,p4⟩:=h.zD
 rw[hv]at a2
 cases a2
 have ne:=h.ne
 simp only[nodup_cons,mem_cons,not_mem_nil,or_false,not_or,not_false_eq_true,and_true,nodup_nil]at ne
 have Pj:Paired (Bj (upd H le (.lst (vs ++ [v]))) ys.y4 (la :: le :: li :: dn :: ys.ex)) [v] [t]:=f2 [v] [t] (.cons hL .nil)
 exact⟨h1,h2,⟨v1,by rw[af ne.1.1];exact a1,f1 _ _ p1⟩,⟨vs ++ [v],ac,Paired.snoc (by cases Pj with | cons z _=>exact z) (f2 _ _ p2)⟩,⟨v3,by rw[af (Ne.symm ne.2.1.1)];exact a3,f3 _ _ p3⟩,⟨v4,by rw[af (Ne.symm ne.2.1.2)];exact a4,f4 _ _ p4⟩,h.ne,fun b hb=>p9 (h.hex b hb)⟩
theorem yA.ET {K:Frag}{ys:Ys}{H:Hp}{y dy tb ro la le li dn:Addr}{s:YS}(h:yA K ys H y dy tb ro la le li dn s){vs:List V}{v:V}{t:List V}(hv:H dn=some (.lst vs))(hL:zu H v t):yA K ys (upd H dn (.lst (vs ++ [v]))) y dy tb ro la le li dn { s with done:=s.done ++ [t] }:=by
 obtain⟨h1,h2,f1,f2,f3,f4⟩:=h.off (c7 (a:=dn) (o := .lst (vs ++ [v])) (by simp))
 obtain⟨v1,a1,p1⟩:=h.zx
 obtain⟨v2,a2,p2⟩:=h.hle
 obtain⟨v3,a3,p3⟩:=h.Ai
 obtain⟨v4,a4,p4⟩:=h.zD
 rw[hv]at a4
 cases a4
 have ne:=h.ne
 simp only[nodup_cons,mem_cons,not_mem_nil,or_false,not_or,not_false_eq_true,and_true,nodup_nil]at ne
 have Pj:Paired (zu (upd H dn (.lst (vs ++ [v])))) [v] [t]:=f4 [v] [t] (.cons hL .nil)
 exact⟨h1,h2,⟨v1,by rw[af ne.1.2.2];exact a1,f1 _ _ p1⟩,⟨v2,by rw[af ne.2.1.2];exact a2,f2 _ _ p2⟩,⟨v3,by rw[af ne.2.2];exact a3,f3 _ _ p3⟩,⟨vs ++ [v],ac,Paired.snoc (by cases Pj with | cons z _=>exact z) (f4 _ _ p4)⟩,h.ne,fun b hb=>p9 (h.hex b hb)⟩
inductive Pd
 | place | length | word | way | full | good
noncomputable def kQ (n:Nat)(wy:Wf)(m:Nat)(sv gv lv wv:V):Pd :=
 if (jE sv 0 ((n:Int) - 1) && jE gv 0 ((n:Int) - 1))=false then .place else if jE lv 1 60=false then .length else if Hu wv=false then .word
 else if vI sv=vI gv∨wy (vI sv).toNat (vI gv).toNat none=[] then .way else if 60 <= m then .full else .good
noncomputable def jC (s:YS)(a b l u:Int):YS:={ s with U:=s.U ++ [⟨a,b,l,u,0,[]⟩],done:=s.done ++ [[.str "post", .int a, .int b, .int l, .int u]] }
noncomputable def nj (K:Frag)(c:Cs)(TC:Addr)(J:TJ)(ys:Ys):Sp:=fun vs H Q _=>∃ (y dy tb ro la le li dn lx zb lt:Addr)(n:Nat)(yH:List V)(ps:List (Int × Int))(wy:Wf)(s:YS)(sv gv lv wv:V),vs=[.ref y,sv,gv,lv,wv]/\yA K ys H y dy tb ro la le li dn s/\zj c TC J H tb lx zb lt n yH ps wy/\qG sv/\qG gv/\qG lv/\qG wv/\s.U.length <= 900/\s.done.length <= 10000 /\
 (kQ n wy s.U.length sv gv lv wv = .place->False) /\
 (kQ n wy s.U.length sv gv lv wv = .length->False) /\
 (kQ n wy s.U.length sv gv lv wv = .word->False) /\
 (kQ n wy s.U.length sv gv lv wv = .way->False) /\
 (kQ n wy s.U.length sv gv lv wv = .full->False) /\
 (kQ n wy s.U.length sv gv lv wv = .good->∀ H',yG [le,dn] H H'->yA K ys H' y dy tb ro la le li dn (jC s (vI sv) (vI gv) (vI lv) (vI wv))->Q (.int s.U.length) H')
abbrev NPo:List Str:=["self", "start", "goal", "length", "word", "last_place"]
abbrev Ke:List Str:=["self", "start", "goal", "length", "word"]
theorem Kf:ap NPo Ke (aj fV):=L2.yW
theorem uD {c:Cs}{ys:Ys}{J:TJ}{TC f EE fw Pk fl:Addr}{fd EF dw Ue dl:FuncData}{t1 t2:Tok}(F:Cu K "post" "Yard.post" fV f fd)(T:dJ mg)(L:qL K c)(Y:eU K ys)(W:Wy K TC EE EF J)(FF:y2 P w K mg base az 3 EE EF ["self", "place", "goal", "came"] (fQ J))
  (mw:mg "is_within" = some (.ref fw)) (kw:keepIn K (.ref fw)=true) (bw:Binds K dw ["value", "least", "most"] []) (Gw:y2 P w K mg base az 2 fw dw ["value", "least", "most"] eH)
  (mwo:mg "is_word" = some (.ref Pk)) (kwo:keepIn K (.ref Pk)=true) (bwo:Binds K Ue ["word"] []) (Pl:y2 P w K mg base az 2 Pk Ue ["word"] qX)
  (ml:mg "Letter" = some (.ref ys.y4)) (Ml:Mk K ys.y4 fl) (bl:Binds K dl ["self", "start", "goal", "length", "word"] []) (Gl:y2 P w K mg base az 1 fl dl ["self", "start", "goal", "length", "word"] (rj ys.y4))
  (mL:mg "MOST_LENGTH" = some (.int 60 t1)) (mM:mg "MOST_LETTERS" = some (.int 60 t2)) :
  y2 P w K mg base az 4 f fd Ke (nj K c TC J ys):=by
 refine F.ok Kf (fun _ _ _ _ h=>?_) (fun _ _ _ s H _ Q E hr h=>?_)
 ·obtain⟨y,dy,tb,ro,la,le,li,dn,lx,zb,lt,n,yH,ps,wy,s,sv,gv,lv,wv,rfl,_⟩:=h
  rfl
 ·obtain⟨y,dy,tb,ro,la,le,li,dn,lx,zb,lt,n,yH,ps,wy,st,sv,gv,lv,wv,rfl,hY,hT,cs,cg,cl,cw,hl9,hd9,e1,e2,e3,e4,e5,q⟩:=h
  have zV:yC 2 _:=hr.mono (by decide)
  refine⟨_,ae (aw (i:=5) Kf.nd rfl (Or.inl rfl) (aA cT (al (al (al (pv 0) rfl) rfl) rfl) ai))
   (ae (aP (PW.pt (iT (ck (bD (av Gw zV rfl mw kw bw .nil ao (aa (pv 1) (aa ai (aa (pv 5) ad)))))) (fH (ck (bD (av Gw zV rfl mw kw bw .nil ao (aa (pv 2) (aa ai (aa (pv 5) ad)))))))))
    (ah bJ) aD)
   (ae (aP (ck (bD (av Gw zV rfl mw kw bw .nil ao (aa (pv 3) (aa ai (aa (eN (v := .int 60) rfl mL ⟨_,rfl⟩) ad))))))
    (ah bJ) aD)
   (ae (aP (ck (bD (av Pl zV rfl mwo kwo bwo .nil ao (aa (pv 4) ad))))
    (ah bJ) aD)
   (ae (aP (ga (PW.pt (iT (ax bN (pv 1) (pv 2) (aB _)) (fH (ck (iV (aH (al (pv 0) rfl) W.cl W.m FF hr W.b .nil ao (aa (pv 1) (aa (pv 2) (aa bS ad)))) (fun _=>rfl)))))))
    (ah bJ) aD)
   (ae (aP (ax oY (au aq rfl T.len PySem.boot_len (aa (al (pv 0) rfl) ad)) (eN (v := .int 60) rfl mM ⟨_,rfl⟩) (aB _))
    (ah bJ) aD)
   (ae (aL (bV plainAttrs_list PySem.F.slot_list_append PySem.F.type_list_append aV (al (pv 0) rfl) (aa (dz Ml Gl zV rfl ml bl .nil ao (aa (pv 1) (aa (pv 2) (aa (pv 3) (aa (pv 4) ad))))) ad)))
   (ae (aL (bV plainAttrs_list PySem.F.slot_list_append PySem.F.type_list_append aV (al (pv 0) rfl) (aa (aW (aa bP (aa (pv 1) (aa (pv 2) (aa (pv 3) (aa (pv 4) ad)))))) ad)))
   (ah (ar (aA cT (au aq rfl T.len PySem.boot_len (aa (al (pv 0) rfl) ad)) ai)))))))))),?_⟩
  obtain⟨C0,fst,Cg,zA,AE⟩:=hT.i
  unfold kQ at e1 e2 e3 e4 e5 q
  refine⟨_,rfl,y,ys.y3,dy,_,_,rfl,hY.ins,Y.cl,Y.n1,rfl,tb,TC,C0,fst,_,rfl,Cg,W.cl,W.nl,zA,lx,c.land,zb,_,_,rfl,hT.l.1,L.cl,L.np,rfl,_,_,rfl,rfl,?_⟩
  refine⟨_,rfl,_,rfl,sv,0,(n:Int) - 1,rfl,cs,_,rfl,?_⟩
  cases h1:jE sv 0 ((n:Int) - 1) with
  | false =>
   exact aK (aK (e1 (by rw[h1,Bool.false_and,if_pos rfl])))
  | true =>
  refine aF ⟨_,rfl,_,rfl,gv,0,(n:Int) - 1,rfl,cg,_,rfl,?_⟩
  cases h2:jE gv 0 ((n:Int) - 1) with
  | false =>
   exact aK (e1 (by rw[h1,h2,Bool.and_false,if_pos rfl]))
  | true =>
  rw[h1,h2,Bool.true_and,if_neg (by decide)]at e2 e3 e4 e5 q
  refine aF ⟨_,rfl,lv,1,60,rfl,cl,_,rfl,?_⟩
  cases h3:jE lv 1 60 with
  | false =>
   exact aK (e2 (by rw[h3,if_pos rfl]))
  | true =>
  rw[h3,if_neg (by decide)]at e3 e4 e5 q
  refine aF ⟨_,rfl,wv,rfl,cw,_,rfl,?_⟩
  cases h4:Hu wv with
  | false =>
   exact aK (e3 (by rw[h4,if_pos rfl]))
  | true =>
  rw[h4,if_neg (by decide)]at e4 e5 q
  refine aF ?_
  obtain⟨a,rfl⟩:=gc h1
  obtain⟨b,rfl⟩:=gc h2
  obtain⟨l,rfl⟩:=gc h3
  obtain⟨u,rfl⟩:∃ u,wv = .int u:=by
   cases wv<;>first | exact⟨_,rfl⟩ | cases h4
  have ha:0 <= a/\a <= (n:Int) - 1:=of_decide_eq_true h1
  have hb:0 <= b/\b <= (n:Int) - 1:=of_decide_eq_true h2
  obtain⟨a',rfl⟩:∃ a':Nat,a=(a':Int):=⟨a.toNat,by omega⟩
  obtain⟨b',rfl⟩:∃ b':Nat,b=(b':Int):=⟨b.toNat,by omega⟩
  have ev:∀ z:Int,vI (.int z)=z:=fun _=>rfl
  rw[ev,ev,toNat_natCast,toNat_natCast]at e4 e5 q
  refine⟨fun k H1=>y1 H H1/\k=decide ((a':Int)=(b':Int)∨wy a' b' none=[]),?_,?_⟩
  ·refine⟨_,rfl,_,rfl,rfl,_,rfl,?_⟩
   rw[bO]
   by_cases Dc:(a':Int)=(b':Int)
   ·rw[decide_eq_true Dc]
    exact aK ⟨y1.refl H,by rw[decide_eq_true (Or.inl Dc)]⟩
   ·rw[decide_eq_false Dc]
    refine aF ⟨_,rfl,y,ys.y3,dy,_,_,rfl,hY.ins,Y.cl,Y.n1,rfl,tb,C0,fst,rfl,Cg,AE,_,rfl,_,rfl,tb,n,wy,a',b',none,rfl,hT.j,by omega,by omega,fun D H1 s1 hD gD=>⟨_, .inl ⟨_,y6.of gD,rfl⟩,s1,?_⟩⟩
    cases hw:wy a' b' none with
    | nil=>rw[decide_eq_true (Or.inr rfl)];rfl
    | cons z zs=>rw[decide_eq_false (fun z=>z.elim Dc fun z=>by cases z)];rfl
  rintro k H1 ⟨s1,rfl⟩
  have zM:=hY.same s1
  by_cases Ee:(a':Int)=(b':Int)∨wy a' b' none=[]
  ·rw[decide_eq_true Ee]
   exact aK (e4 (by rw[if_pos Ee]))
  rw[decide_eq_false Ee]
  rw[if_neg Ee]at e5 q
  refine aF ?_
  obtain⟨B6,zB,pl⟩:=zM.hle
  have As:B6.length=st.U.length:=Paired.length pl
  refine⟨_,rfl,y,ys.y3,dy,_,_,rfl,zM.ins,Y.cl,Y.n4,rfl,le,_,rfl, .inl (y6.of zB),_,_,rfl,rfl,_,rfl,?_⟩
  by_cases AX:60 <= st.U.length
  ·rw[decide_eq_true (show (60:Int) <= (B6.length:Nat) by omega)]
   exact aK (e5 (by rw[if_pos AX]))
  rw[decide_eq_false (show ¬ (60:Int) <= (B6.length:Nat) by omega)]
  rw[if_neg AX]at q
  refine aF ?_
  refine⟨_,rfl,y,ys.y3,dy,_,_,rfl,zM.ins,Y.cl,Y.n4,rfl, .inl ⟨rfl,_,y6.of zB⟩,_,rfl,_,rfl,_,rfl,_,rfl,fun xl Au nx JM EG=>⟨xl,Au,(a':Int),(b':Int),l,u,rfl,ac,fun wa H2 Cz off D9 MP=>⟨rfl,?_⟩⟩⟩
  have Ci:y1 H1 H2:=fun z o ez=>off z o (ag ez nx) (by rw[af (ag ez nx),af (ag ez JM)];exact ez)
  have Pm:H1 wa=none:=by
   by_cases z1:wa=xl
   ·rw[z1,ac]at Cz;cases Cz
   ·by_cases z2:wa=Au
    ·rw[z2,af EG,ac]at Cz;cases Cz
    ·rw[af z1,af z2]at Cz;exact Cz
  have Cj:=zM.same Ci
  have Kg:=Ci _ _ zB
  have hlv:Bj H2 ys.y4 (la :: le :: li :: dn :: ys.ex) (.ref xl) ⟨(a':Int),(b':Int),l,u,0,[]⟩:=⟨xl,Au,wa,rfl,D9,MP,fun z=>by obtain⟨xs,hz⟩:=zM.B5 wa z;rw[Pm]at hz;cases hz⟩
  refine⟨le,_,_,rfl,rfl,Kg,by rw[sizeLine_eq];omega,?_⟩
  have AO:=Cj.Kd Kg hlv
  have o3:yG [le,dn] H (upd H2 le (.lst (B6 ++ [.ref xl]))):=(y1.ze (s1.trans Ci)).trans (c7 (by simp))
  generalize upd H2 le (.lst (B6 ++ [.ref xl]))=H3 at AO o3 ⊢
  obtain⟨zH,EU,pd⟩:=AO.zD
  have CU:zH.length=st.done.length:=Paired.length pd
  refine⟨_,rfl,y,ys.y3,dy,_,_,rfl,AO.ins,Y.cl,Y.n6,rfl, .inl ⟨rfl,_,y6.of EU⟩,_,rfl,_,rfl,_,rfl,_,rfl,by show 5 <= sizeLine;decide,fun t ht=>?_⟩
  have MQ:=(y1.refl H3).new (o := .tup [.str "post", .int (a':Int), .int (b':Int), .int l, .int u]) ht
  have Ug:(upd H3 t (.tup [.str "post", .int (a':Int), .int (b':Int), .int l, .int u])) t=some (.tup [.str "post", .int (a':Int), .int (b':Int), .int l, .int u]):=ac
  generalize upd H3 t (.tup [.str "post", .int (a':Int), .int (b':Int), .int l, .int u])=H4 at MQ Ug ⊢
  have hY4:=AO.same MQ
  have Kh:=MQ _ _ EU
  refine⟨dn,_,_,rfl,rfl,Kh,by rw[sizeLine_eq];omega,?_⟩
  have HA:=hY4.ET Kh ⟨t,rfl,Ug⟩
  have o5:yG [le,dn] H (upd H4 dn (.lst (zH ++ [.ref t]))):=(o3.trans (y1.ze MQ)).trans (c7 (by simp))
  generalize upd H4 dn (.lst (zH ++ [.ref t]))=H5 at HA o5 ⊢
  obtain⟨Uh,Pn,pl5⟩:=HA.hle
  have hl5:Uh.length=st.U.length + 1:=by rw[Paired.length pl5,length_append];rfl
  refine⟨_,rfl,y,ys.y3,dy,_,_,rfl,HA.ins,Y.cl,Y.n4,rfl,le,_,rfl, .inl (y6.of Pn),_,_,rfl,rfl,?_⟩
  have er:((Uh.length:Nat):Int) - 1=(st.U.length:Int):=by omega
  dsimp only
  rw[er]
  exact q rfl H5 o5 HA
theorem jR {K:Frag}{a:Addr}{xs:List V}{g:TG}{te:TE}{σ0:St}{H:Hp}{Q:VK}(f:Nat->V)(hn:xs.length < sizeLine)(ha:y6 K H a xs)
  (hs:∀ (i:Nat)(x:V)(N:V->Hp->Prop),xs[i]? = some x->N (f i) H->g x σ0 H fun σ2 H2=>te σ2 H2 N)
  (hq:∀ D,H D=none->Q (.ref D) (upd H D (.lst ((List.range xs.length).map f)))):dB (tY K a) g l8 te σ0 Q H:=by
 refine bZ xs.length hn (fun i acc H'=>H' = H/\acc=(List.range i).map f) ⟨rfl,rfl⟩ (fun i acc H' h=>by rw[h.2,length_map,length_range];exact le_refl _) (fun i acc H' hi h=>?_) (fun acc H' h=>?_)
 ·obtain⟨rfl,rfl⟩:=h
  refine⟨⟨xs,xs[i],ha,by simp[hi]⟩,fun v H2 y=>?_⟩
  obtain⟨e,y⟩:=y
  subst e
  exact hs i v (fun y H4=>H4=H2/\(List.range i).map f ++ [y]=(List.range (i + 1)).map f) (y xs ha) ⟨rfl,by rw[range_succ,map_append];rfl⟩
 ·obtain⟨rfl,rfl⟩:=h
  exact⟨⟨xs,ha,le_refl _⟩,hq⟩
theorem iS {α β:Type}(xs:List α)(d:α)(f:α->β):(List.range xs.length).map (fun i=>f (xs.getD i d))=xs.map f:=by
 refine List.ext_getElem (by simp) fun i h1 h2=>?_
 simp only[getElem_map,List.getElem_range]
 rw[getD_eq_getElem?_getD,getElem?_eq_getElem (by simpa using h2)];rfl
noncomputable def Po (K:Frag):List V->Hp->VK->Prop:=fun xs H Q=>∃ (p:Addr)(ys:List V),xs=[.ref p]/\(y6 K H p ys∨yD K H p ys)/\Q (.int (ys.length:Nat)) H
noncomputable def oQ (K:Frag)(ys:Ys):Sp:=fun vs H Q _=>∃ (y dy tb ro la le li dn:Addr)(s:YS)(k:Nat)(ln:cy),vs=[.ref y, .int k]/\yA K ys H y dy tb ro la le li dn s/\s.lanes[k]? = some ln/\∀ (t ql:Addr)(yJ:List V)(H':Hp),y1 H H'->H ql=none->H' t=some (.tup [.int ln.r, .int ln.b,hV ln.h, .ref ql])->H' ql=some (.lst yJ)->yT H' yJ ln.qs->Q (.ref t) H'
noncomputable def qY (K:Frag)(ys:Ys):Sp:=fun vs H Q _=>∃ (y dy tb ro la le li dn:Addr)(s:YS)(k:Nat)(lt:cp),vs=[.ref y, .int k]/\yA K ys H y dy tb ro la le li dn s/\s.U[k]? = some lt/\∀ (t:Addr)(H':Hp),y1 H H'->H t=none->H' t=some (.lst (nV lt.way))->Q (.ref t) H'
noncomputable def lA (K:Frag)(ys:Ys):Sp:=fun vs H Q _=>∃ (y dy tb ro la le li dn:Addr)(s:YS),vs=[.ref y]/\yA K ys H y dy tb ro la le li dn s/\Q (.int s.U.length) H
noncomputable def r8 (K:Frag)(ys:Ys):Sp:=fun vs H Q _=>∃ (y dy tb ro la le li dn:Addr)(s:YS),vs=[.ref y]/\yA K ys H y dy tb ro la le li dn s/\∀ (t:Addr)(vs:List V)(H':Hp),y1 H H'->H t=none->H' t=some (.lst vs)->Paired (zu H') vs s.done->Q (.ref t) H'
theorem Pp:ap ["self", "lane"] ["self", "lane"] (aj nE):=L2.yW
theorem sE {ys:Ys}{f ft:Addr}{fd dt:FuncData}(F:yS K "lane_told" "Yard.lane_told" nE f fd)(Y:eU K ys)(mt:bB K ys.yO "told" ft)(bt:Binds K dt ["self"] [])(Gt:y2 P w K mg base az 1 ft dt ["self"] (vQ ys.yO)) :
  y2 P w K mg base az 2 f fd ["self", "lane"] (oQ K ys):=by
 refine F.ok Pp (fun _ _ _ _ h=>?_) (fun _ _ _ s H _ Q E hr h=>?_)
 ·obtain⟨y,dy,tb,ro,la,le,li,dn,st,k,ln,rfl,_⟩:=h
  rfl
 ·obtain⟨y,dy,tb,ro,la,le,li,dn,st,k,ln,rfl,hY,hk,q⟩:=h
  refine⟨_,ah (ar (aO (aC aS (al (pv 0) rfl) (pv 1) (fun _ _=>rfl)) Y.L.cl mt Gt hr bt .nil ao)),?_⟩
  obtain⟨yB,zm,pl⟩:=hY.zx
  obtain⟨v,hv,x,dx,pa,yJ,rfl,hL,_⟩:=Paired.at2 pl hk
  refine⟨_,rfl,y,ys.y3,dy,_,_,rfl,hY.ins,Y.cl,Y.n3,rfl,_,rfl,la,yB,(k:Int),_,rfl,rfl,y6.of zm,ak hv,x,dx,_,rfl,hL.ins,rfl,?_⟩
  exact⟨x,dx,pa,ln.r,ln.b,ln.h,yJ,ln.qs,rfl,hL,fun t ql H' s' EB gt Pq=>q t ql yJ H' s' EB gt Pq (yT.same s' hL.zw)⟩
theorem Pr:ap ["self", "number"] ["self", "number"] (aj rE):=L2.yW
theorem uA {ys:Ys}{f:Addr}{fd:FuncData}(F:yS K "way_told" "Yard.way_told" rE f fd)(T:dJ mg)(Y:eU K ys):y2 P w K mg base az 1 f fd ["self", "number"] (qY K ys):=by
 refine F.ok Pr (fun _ _ _ _ h=>?_) (fun _ _ _ s H _ Q E hr h=>?_)
 ·obtain⟨y,dy,tb,ro,la,le,li,dn,st,k,ln,rfl,_⟩:=h
  rfl
 ·obtain⟨y,dy,tb,ro,la,le,li,dn,st,k,lt,rfl,hY,hk,q⟩:=h
  refine⟨_,ah (ar (aJ bx rfl T.list PySem.Pv.boot_list (aa (al (aC aS (al (pv 0) rfl) (pv 1) (fun _ _=>rfl)) rfl) ad))),?_⟩
  obtain⟨yH,zB,pl⟩:=hY.hle
  obtain⟨v,hv,x,dx,wa,rfl,hx,hw,_⟩:=Paired.at2 pl hk
  refine⟨_,rfl,y,ys.y3,dy,_,_,rfl,hY.ins,Y.cl,Y.n4,rfl,_,rfl,le,yH,(k:Int),_,rfl,rfl,y6.of zB,ak hv,x,ys.y4,dx,_,_,rfl,hx,Y.ct,Y.t6,rfl,wa,_,rfl, .inl (y6.of hw),fun t ht=>?_⟩
  exact q t _ ((y1.refl H).new ht) ht ac
theorem Pt:ap ["self"] ["self"] (aj kE):=L2.yW
theorem qh {ys:Ys}{f:Addr}{fd:FuncData}(F:yS K "posted" "Yard.posted" kE f fd)(T:dJ mg)(Y:eU K ys):y2 P w K mg base az 1 f fd ["self"] (lA K ys):=by
 refine F.ok Pt (fun _ _ _ _ h=>?_) (fun _ _ _ s H _ Q E hr h=>?_)
 ·obtain⟨y,dy,tb,ro,la,le,li,dn,st,rfl,_⟩:=h
  rfl
 ·obtain⟨y,dy,tb,ro,la,le,li,dn,st,rfl,hY,q⟩:=h
  refine⟨_,ah (ar (au aq rfl T.len PySem.boot_len (aa (al (pv 0) rfl) ad))),?_⟩
  obtain⟨yH,zB,pl⟩:=hY.hle
  refine⟨_,rfl,y,ys.y3,dy,_,_,rfl,hY.ins,Y.cl,Y.n4,rfl,le,_,rfl, .inl (y6.of zB),?_⟩
  rw[Paired.length pl]
  exact q
theorem Pu:ap ["self"] ["self"] (aj rS):=L2.yW
theorem uR {ys:Ys}{f:Addr}{fd:FuncData}(F:yS K "history" "Yard.history" rS f fd)(T:dJ mg)(Y:eU K ys):y2 P w K mg base az 1 f fd ["self"] (r8 K ys):=by
 refine F.ok Pu (fun _ _ _ _ h=>?_) (fun _ _ _ s H _ Q E hr h=>?_)
 ·obtain⟨y,dy,tb,ro,la,le,li,dn,st,rfl,_⟩:=h
  rfl
 ·obtain⟨y,dy,tb,ro,la,le,li,dn,st,rfl,hY,q⟩:=h
  refine⟨_,ah (ar (aJ bx rfl T.list PySem.Pv.boot_list (aa (al (pv 0) rfl) ad))),?_⟩
  obtain⟨zH,EU,pd⟩:=hY.zD
  refine⟨_,rfl,y,ys.y3,dy,_,_,rfl,hY.ins,Y.cl,Y.n6,rfl,dn,_,rfl, .inl (y6.of EU),fun t ht=>?_⟩
  exact q t zH _ ((y1.refl H).new ht) ht ac (Paired.mono (fun _ _ z=>z.keep (y1.yF ((y1.refl H).new ht))) pd)
theorem oA {K:Frag}{T:Addr}{o:Obj}{n:Nat}{kV doc pm cdv ct:Value}{an:Option Addr}(ho:K.lookup T=some o)(hs:o.data = .seq #[Value.none] n) :
  Binds K (fnOf "__init__" "Yard.__init__" (bU gx) (aM gx) (aj gx) (.ref T) kV doc pm an cdv ct) ["self", "table", "rooms"] []:=fun s us Dx hl=>by
 have hl:us.length=3:=by rw[append_nil]at hl;exact hl
 obtain⟨a,us0,rfl,MR⟩:=L2.E2 hl
 obtain⟨b,us1,rfl,HB⟩:=L2.E2 MR
 obtain⟨c,us2,rfl,C9⟩:=L2.E2 HB
 obtain rfl:=List.eq_nil_of_length_eq_zero C9
 exact BindsTo.of_defaults rfl (Dx _ _ ho) hs rfl rfl
theorem mO {K:Frag}{T:Addr}{o:Obj}{n:Nat}{tk:Tok}{kV doc pm cdv ct:Value}{an:Option Addr}(ho:K.lookup T=some o)(hs:o.data = .seq #[Value.int 0 tk] n) :
  Binds K (fnOf "post" "Yard.post" (bU fV) (aM fV) (aj fV) (.ref T) kV doc pm an cdv ct) Ke []:=fun s us Dx hl=>by
 have hl:us.length=5:=by rw[append_nil]at hl;exact hl
 obtain⟨a,us0,rfl,MR⟩:=L2.E2 hl
 obtain⟨b,us1,rfl,HB⟩:=L2.E2 MR
 obtain⟨c,us2,rfl,C9⟩:=L2.E2 HB
 obtain⟨d,us3,rfl,Ui⟩:=L2.E2 C9
 obtain⟨e,us4,rfl,hl4⟩:=L2.E2 Ui
 obtain rfl:=List.eq_nil_of_length_eq_zero hl4
 exact BindsTo.of_defaults rfl (Dx _ _ ho) hs rfl rfl
noncomputable def vP (C:Addr):Sp:=fun vs H Q _=>∃ (x dx pa:Addr)(r b:Int)(h:Option Int)(yJ:List V)(qs:List (Int × Int)),vs=[.ref x]/\yP H C x dx pa r b h yJ qs/\∀ (x' Cq CC:Addr)(H':Hp),y1 H H'->H x' = none->H CC = none->yP H' C x' Cq CC r b h yJ qs->Q (.ref x') H'
noncomputable def vO (C:Addr):Sp:=fun vs H Q _=>∃ (x dx wa:Addr)(s:cp),vs=[.ref x]/\H x=some (.ins C dx (nU s wa))/\H wa=some (.lst (nV s.way))/\∀ (x' Cq Ck:Addr)(H':Hp),y1 H H'->H x' = none->H Ck = none->H' x' = some (.ins C Cq (nU s Ck))->H' Ck = some (.lst (nV s.way))->Q (.ref x') H'
theorem EV:ap ["self", "other"] ["self"] (aj wL):=L2.yW
theorem xv {C f fl:Addr}{fd dl:FuncData}(F:yS K "twin" "Lane.twin" wL f fd)(T:dJ mg)(L:v9 K C)(ml:mg "Lane" = some (.ref C))(Ml:Mk K C fl)(bl:Binds K dl ["self", "room"] [])(Gl:y2 P w K mg base az 1 fl dl ["self", "room"] (rk C)) :
  y2 P w K mg base az 3 f fd ["self"] (vP C):=by
 refine F.ok EV (fun _ _ _ _ h=>?_) (fun _ _ _ s H _ Q E hr h=>?_)
 ·obtain⟨x,dx,pa,r,b,h,yJ,qs,rfl,_⟩:=h
  rfl
 ·obtain⟨x,dx,pa,r,b,h,yJ,qs,rfl,hL,q⟩:=h
  refine⟨_,ae (aw (i:=1) EV.nd rfl (Or.inl rfl) (dz Ml Gl hr rfl ml bl .nil ao (aa (al (pv 0) rfl) ad)))
   (ae (bj (pv 1) (al (pv 0) rfl) rfl)
   (ae (bj (pv 1) (al (pv 0) rfl) rfl)
   (ae (bj (pv 1) (aJ bx rfl T.list PySem.Pv.boot_list (aa (al (pv 0) rfl) ad)) rfl)
   (ah (ar (pv 1)))))),?_⟩
  refine⟨_,rfl,x,C,dx,_,_,rfl,hL.ins,L.cl,L.n1,rfl,fun x' d' nx nd ne=>⟨x',d',r,rfl,ac,fun FG H1 DZ off DA=>⟨rfl,?_⟩⟩⟩
  have s1:y1 H H1:=fun z o ez=>off z o (ag ez nx) (by rw[af (ag ez nx),af (ag ez nd)];exact ez)
  have hi1:=DA.ins
  clear DZ off DA
  refine⟨_,rfl,x,C,dx,_,_,rfl,s1 _ _ hL.ins,L.cl,L.n2,rfl,_,rfl,x',C,d',_,rfl,hi1,L.cl,L.n2,by show 4 < 1000;decide,?_⟩
  have o2:∀ o',y1 H (upd H1 x' o'):=fun o' z o ez=>by rw[af (ag ez nx)];exact s1 _ _ ez
  refine⟨_,rfl,x,C,dx,_,_,rfl,o2 _ _ _ hL.ins,L.cl,L.n3,rfl,_,rfl,x',C,d',_,rfl,ac,L.cl,L.n3,by show 4 < 1000;decide,?_⟩
  have o3:∀ o' Uj,y1 H (upd (upd H1 x' o') x' Uj):=fun o' Uj z o ez=>by rw[af (ag ez nx)];exact o2 _ _ _ ez
  have s3:=o3 (.ins C d' (aN "returning" (.int b) (gX r 0 (hV none) FG))) (.ins C d' (aN "holder" (hV h) (aN "returning" (.int b) (gX r 0 (hV none) FG))))
  have FH:(upd (upd H1 x' (.ins C d' (aN "returning" (.int b) (gX r 0 (hV none) FG)))) x' (.ins C d' (aN "holder" (hV h) (aN "returning" (.int b) (gX r 0 (hV none) FG))))) x' = some (.ins C d' (gX r b (hV h) FG)):=ac
  generalize upd (upd H1 x' (.ins C d' (aN "returning" (.int b) (gX r 0 (hV none) FG)))) x' (.ins C d' (aN "holder" (hV h) (aN "returning" (.int b) (gX r 0 (hV none) FG))))=H3 at s3 FH ⊢
  refine⟨_,rfl,x,C,dx,_,_,rfl,s3 _ _ hL.ins,L.cl,L.n4,rfl,pa,_,rfl, .inl (y6.of (s3 _ _ hL.lst)),fun CC FJ=>?_⟩
  have Cw:H CC = none:=by
   cases e:H CC with
   | none=>rfl
   | some o=>rw[s3 _ _ e]at FJ;cases FJ
  have Ki:x' ≠ CC:=ag FH FJ
  refine⟨_,rfl,x',C,d',_,rfl,by rw[af Ki];exact FH,L.cl,L.n4,by show 4 < 1000;decide,_,rfl,?_⟩
  have s4:∀ o',y1 H (upd (upd H3 CC (.lst yJ)) x' o'):=fun o' z o ez=>by rw[af (ag ez nx),af (ag ez Cw)];exact s3 _ _ ez
  exact q x' d' CC _ (s4 _) nx Cw ⟨ac,by rw[af (Ne.symm Ki)];exact ac,yT.same (s4 _) hL.zw⟩
theorem EW:ap ["self", "other"] ["self"] (aj rQ):=L2.yW
theorem xr {ys:Ys}{f fl:Addr}{fd dl:FuncData}(F:yS K "twin" "Letter.twin" rQ f fd)(T:dJ mg)(Y:eU K ys)(ml:mg "Letter" = some (.ref ys.y4))(Ml:Mk K ys.y4 fl)(bl:Binds K dl ["self", "start", "goal", "length", "word"] [])(Gl:y2 P w K mg base az 1 fl dl ["self", "start", "goal", "length", "word"] (rj ys.y4)) :
  y2 P w K mg base az 3 f fd ["self"] (vO ys.y4):=by
 refine F.ok EW (fun _ _ _ _ h=>?_) (fun _ _ _ s H _ Q E hr h=>?_)
 ·obtain⟨x,dx,wa,s,rfl,_⟩:=h
  rfl
 ·obtain⟨x,dx,wa,t,rfl,hx,hw,q⟩:=h
  refine⟨_,ae (aw (i:=1) EW.nd rfl (Or.inl rfl) (dz Ml Gl hr rfl ml bl .nil ao (aa (al (pv 0) rfl) (aa (al (pv 0) rfl) (aa (al (pv 0) rfl) (aa (al (pv 0) rfl) ad))))))
   (ae (bj (pv 1) (al (pv 0) rfl) rfl)
   (ae (bj (pv 1) (aJ bx rfl T.list PySem.Pv.boot_list (aa (al (pv 0) rfl) ad)) rfl)
   (ah (ar (pv 1))))),?_⟩
  refine⟨_,rfl,x,ys.y4,dx,_,_,rfl,hx,Y.ct,Y.t1,rfl,_,rfl,x,ys.y4,dx,_,_,rfl,hx,Y.ct,Y.t2,rfl,_,rfl,x,ys.y4,dx,_,_,rfl,hx,Y.ct,Y.t3,rfl,_,rfl,x,ys.y4,dx,_,_,rfl,hx,Y.ct,Y.t4,rfl,fun x' d' nx nd ne=>⟨x',d',t.start,t.goal,t.len,t.word,rfl,ac,fun w0 H1 hw0 off zY DB=>⟨rfl,?_⟩⟩⟩
  have s1:y1 H H1:=fun z o ez=>off z o (ag ez nx) (by rw[af (ag ez nx),af (ag ez nd)];exact ez)
  clear hw0 off DB
  refine⟨_,rfl,x,ys.y4,dx,_,_,rfl,s1 _ _ hx,Y.ct,Y.t5,rfl,_,rfl,x',ys.y4,d',_,rfl,zY,Y.ct,Y.t5,by show 6 < 1000;decide,?_⟩
  have s3:y1 H (upd H1 x' (.ins ys.y4 d' (aN "gone" (.int t.gone) (nU ⟨t.start,t.goal,t.len,t.word,0,[]⟩ w0)))):=fun z o ez=>by rw[af (ag ez nx)];exact s1 _ _ ez
  have FH:(upd H1 x' (.ins ys.y4 d' (aN "gone" (.int t.gone) (nU ⟨t.start,t.goal,t.len,t.word,0,[]⟩ w0)))) x' = some (.ins ys.y4 d' (nU ⟨t.start,t.goal,t.len,t.word,t.gone,[]⟩ w0)):=ac
  show _
  generalize upd H1 x' (.ins ys.y4 d' (aN "gone" (.int t.gone) (nU ⟨t.start,t.goal,t.len,t.word,0,[]⟩ w0)))=H3 at s3 FH ⊢
  refine⟨_,rfl,x,ys.y4,dx,_,_,rfl,s3 _ _ hx,Y.ct,Y.t6,rfl,wa,_,rfl, .inl (y6.of (s3 _ _ hw)),fun Ck FK=>?_⟩
  have Cz:H Ck = none:=by
   cases e:H Ck with
   | none=>rfl
   | some o=>rw[s3 _ _ e]at FK;cases FK
  have Ki:x' ≠ Ck:=ag FH FK
  refine⟨_,rfl,x',ys.y4,d',_,rfl,by rw[af Ki];exact FH,Y.ct,Y.t6,by show 6 < 1000;decide,_,rfl,?_⟩
  have s4:∀ o',y1 H (upd (upd H3 Ck (.lst (nV t.way))) x' o'):=fun o' z o ez=>by rw[af (ag ez nx),af (ag ez Cz)];exact s3 _ _ ez
  exact q x' d' Ck _ (s4 _) nx Cz ac (by rw[af (Ne.symm Ki)];exact ac)
structure YA where
 y:Addr
 dy:Addr
 tb:Addr
 ro:Addr
 la:Addr
 le:Addr
 li:Addr
 dn:Addr
 lx:Addr
 zb:Addr
 lt:Addr
 n:Nat
 yH:List V
 ps:List (Int × Int)
 wy:Wf
abbrev za (K:Frag)(ys:Ys)(H:Hp)(a:YA)(s:YS):Prop:=yA K ys H a.y a.dy a.tb a.ro a.la a.le a.li a.dn s
abbrev v6 (c:Cs)(TC:Addr)(J:TJ)(H:Hp)(a:YA):Prop:=zj c TC J H a.tb a.lx a.zb a.lt a.n a.yH a.ps a.wy
abbrev YA.four (a:YA):List Addr:=[a.la,a.le,a.li,a.dn]
theorem Paired.set {α β:Type}{R:α->β->Prop}{v:α}{r:β}(h:R v r):∀ {vs:List α}{rs:List β}(i:Nat),Paired R vs rs->Paired R (vs.set i v) (rs.set i r)
 | _,_,_, .nil => .nil
 | _,_,0, .cons _ t => .cons h t
 | _,_,i + 1, .cons x t => .cons x (Paired.set h i t)
theorem yG.mono {ex Hh:List Addr}{H H':Hp}(h:∀ b ∈ ex,b ∈ Hh)(o:yG ex H H'):yG Hh H H':=fun b u nb e=>o b u (fun z=>nb (h b z)) e
theorem sO {K:Frag}{ys:Ys}{H:Hp}{a:YA}{s:YS}(h:za K ys H a s){p:Addr}(hp:H p=none):p ∉ a.four:=fun z=>by obtain⟨xs,hz⟩:=h.AD p z;rw[hp]at hz;cases hz
theorem jH {K:Frag}{ys:Ys}{H:Hp}{a:YA}{s:YS}(h:za K ys H a s){p:Addr}(hp:H p=none):p ∉ a.la :: a.le :: a.li :: a.dn :: ys.ex:=fun z=>by obtain⟨xs,hz⟩:=yA.B5 h p z;rw[hp]at hz;cases hz
theorem lm {H H2:Hp}{x b:Addr}{zs:List V}(o:yG [x] H H2)(hx:H2 x=some (.lst zs))(h:∃ xs,H b=some (.lst xs)):∃ xs,H2 b=some (.lst xs):=by
 by_cases e:b=x
 ·exact⟨zs,by rw[e];exact hx⟩
 ·obtain⟨xs,hz⟩:=h
  exact⟨xs,o _ _ (by simpa using e) hz⟩
theorem za.Bl {K:Frag}{ys:Ys}{H H2:Hp}{a:YA}{s:YS}(h:za K ys H a s){vs:List V}(hv:H a.la=some (.lst vs))(o:yG [a.la] H H2){k:Nat}{x dx pa:Addr}(hl:H2 a.la=some (.lst (vs.set k (.ref x)))){ln:cy}{yJ:List V}
  (L:yP H2 ys.yO x dx pa ln.r ln.b ln.h yJ ln.qs) (np:H pa=none):za K ys H2 a { s with lanes:=s.lanes.set k ln }:=by
 obtain⟨h1,h2,f1,f2,f3,f4⟩:=yA.off h (o.mono (by simp))
 obtain⟨v1,a1,p1⟩:=h.zx
 obtain⟨v2,a2,p2⟩:=h.hle
 obtain⟨v3,a3,p3⟩:=h.Ai
 obtain⟨v4,a4,p4⟩:=h.zD
 rw[hv]at a1
 cases a1
 have ne:=h.ne
 simp only[nodup_cons,mem_cons,not_mem_nil,or_false,not_or,not_false_eq_true,and_true,nodup_nil]at ne
 exact⟨h1,h2,⟨_,hl,Paired.set ⟨x,dx,pa,yJ,rfl,L,jH h np⟩ k (f1 _ _ p1)⟩,⟨v2,o _ _ (by simp;exact Ne.symm ne.1.1) a2,f2 _ _ p2⟩,⟨v3,o _ _ (by simp;exact Ne.symm ne.1.2.1) a3,f3 _ _ p3⟩,⟨v4,o _ _ (by simp;exact Ne.symm ne.1.2.2) a4,f4 _ _ p4⟩,h.ne,fun b hb=>lm o hl (h.hex b hb)⟩
theorem za.Di {K:Frag}{ys:Ys}{H H2:Hp}{a:YA}{s:YS}(h:za K ys H a s){vs:List V}(hv:H a.le=some (.lst vs))(o:yG [a.le] H H2){k:Nat}{x dx wa:Addr}(hl:H2 a.le=some (.lst (vs.set k (.ref x)))){t:cp}
  (hx:H2 x=some (.ins ys.y4 dx (nU t wa))) (hw:H2 wa=some (.lst (nV t.way))) (np:H wa=none):za K ys H2 a { s with U:=s.U.set k t }:=by
 obtain⟨h1,h2,f1,f2,f3,f4⟩:=yA.off h (o.mono (by simp))
 obtain⟨v1,a1,p1⟩:=h.zx
 obtain⟨v2,a2,p2⟩:=h.hle
 obtain⟨v3,a3,p3⟩:=h.Ai
 obtain⟨v4,a4,p4⟩:=h.zD
 rw[hv]at a2
 cases a2
 have ne:=h.ne
 simp only[nodup_cons,mem_cons,not_mem_nil,or_false,not_or,not_false_eq_true,and_true,nodup_nil]at ne
 exact⟨h1,h2,⟨v1,o _ _ (by simp;exact ne.1.1) a1,f1 _ _ p1⟩,⟨_,hl,Paired.set ⟨x,dx,wa,rfl,hx,hw,jH h np⟩ k (f2 _ _ p2)⟩,⟨v3,o _ _ (by simp;exact Ne.symm ne.2.1.1) a3,f3 _ _ p3⟩,⟨v4,o _ _ (by simp;exact Ne.symm ne.2.1.2) a4,f4 _ _ p4⟩,h.ne,fun b hb=>lm o hl (h.hex b hb)⟩
theorem za.FL {K:Frag}{ys:Ys}{H H2:Hp}{a:YA}{s:YS}(h:za K ys H a s){vs:List V}(hv:H a.li=some (.lst vs))(o:yG [a.li] H H2){k:Nat}{v:V}(hl:H2 a.li=some (.lst (vs.set k v))){qs:List (Int × Int)}
  (L:zW H2 v qs):za K ys H2 a { s with lies:=s.lies.set k qs }:=by
 obtain⟨h1,h2,f1,f2,f3,f4⟩:=yA.off h (o.mono (by simp))
 obtain⟨v1,a1,p1⟩:=h.zx
 obtain⟨v2,a2,p2⟩:=h.hle
 obtain⟨v3,a3,p3⟩:=h.Ai
 obtain⟨v4,a4,p4⟩:=h.zD
 rw[hv]at a3
 cases a3
 have ne:=h.ne
 simp only[nodup_cons,mem_cons,not_mem_nil,or_false,not_or,not_false_eq_true,and_true,nodup_nil]at ne
 exact⟨h1,h2,⟨v1,o _ _ (by simp;exact ne.1.2.1) a1,f1 _ _ p1⟩,⟨v2,o _ _ (by simp;exact ne.2.1.1) a2,f2 _ _ p2⟩,⟨_,hl,Paired.set L k (f3 _ _ p3)⟩,⟨v4,o _ _ (by simp;exact Ne.symm ne.2.2) a4,f4 _ _ p4⟩,h.ne,fun b hb=>lm o hl (h.hex b hb)⟩
noncomputable def rf (K:Frag)(ys:Ys):Sp:=fun vs H Q _=>∃ (a:YA)(s:YS)(k:Nat)(ln:cy)(yB:List V),vs=[.ref a.y, .int k]/\za K ys H a s/\s.lanes[k]? = some ln/\H a.la=some (.lst yB) /\
 ∀ (x dx pa:Addr)(yJ:List V)(H':Hp),yG [a.la] H H'->H x=none->H pa=none->H' a.la=some (.lst (yB.set k (.ref x)))->yP H' ys.yO x dx pa ln.r ln.b ln.h yJ ln.qs->Q (.ref x) H'
noncomputable def re (K:Frag)(ys:Ys):Sp:=fun vs H Q _=>∃ (a:YA)(s:YS)(k:Nat)(t:cp)(yH:List V),vs=[.ref a.y, .int k]/\za K ys H a s/\s.U[k]? = some t/\H a.le=some (.lst yH) /\
 ∀ (x dx wa:Addr)(H':Hp),yG [a.le] H H'->H x=none->H wa=none->H' a.le=some (.lst (yH.set k (.ref x)))->H' x=some (.ins ys.y4 dx (nU t wa))->H' wa=some (.lst (nV t.way))->Q (.ref x) H'
noncomputable def vR (K:Frag)(ys:Ys):Sp:=fun vs H Q _=>∃ (a:YA)(s:YS)(v:V)(q:Int × Int)(p:Nat)(qs:List (Int × Int)),vs=[.ref a.y,v, .int p]/\za K ys H a s/\vA H v q/\s.lies[p]? = some qs/\qs.length <= 100000 /\
 ∀ H',yG [a.li] H H'->za K ys H' a { s with lies:=s.lies.set p (qs ++ [q]) }->Q .yK H'
noncomputable def oN (K:Frag)(ys:Ys):Sp:=fun vs H Q _=>∃ (a:YA)(s:YS)(p:Nat)(qs:List (Int × Int)),vs=[.ref a.y, .int p]/\za K ys H a s/\s.lies[p]? = some qs /\
 ∀ (D:Addr)(yJ:List V)(H':Hp),y1 H H'->H D=none->H' D=some (.lst yJ)->yT H' yJ qs->Q (.ref D) H'
theorem wA:ap ["self", "lane"] ["self", "lane"] (aj rJ):=L2.yW
theorem uF {ys:Ys}{f ft:Addr}{fd dt:FuncData}(F:yS K "own_lane" "Yard.own_lane" rJ f fd)(Y:eU K ys)(mt:bB K ys.yO "twin" ft)(bt:Binds K dt ["self"] [])(Gt:y2 P w K mg base az 3 ft dt ["self"] (vP ys.yO)) :
  y2 P w K mg base az 4 f fd ["self", "lane"] (rf K ys):=by
 refine F.ok wA (fun _ _ _ _ h=>?_) (fun _ _ _ s H _ Q E hr h=>?_)
 ·obtain⟨a,s,k,ln,yB,rfl,_⟩:=h
  rfl
 ·obtain⟨a,st,k,ln,yB,rfl,hY,hk,zm,q⟩:=h
  refine⟨_,ae (iX (aO (aC aS (al (pv 0) rfl) (pv 1) (fun _ _=>rfl)) Y.L.cl mt Gt hr bt .nil ao) (nM (al (pv 0) rfl) (pv 1) iL))
   (ah (ar (aC aS (al (pv 0) rfl) (pv 1) (fun _ _=>rfl)))),?_⟩
  obtain⟨FN,Kj,pl⟩:=hY.zx
  rw[zm]at Kj
  cases Kj
  obtain⟨v,hv,x,dx,pa,yJ,rfl,hL,_⟩:=Paired.at2 pl hk
  have AY:k < yB.length:=(gQ0 hv)
  refine⟨_,rfl,a.y,ys.y3,a.dy,_,_,rfl,hY.ins,Y.cl,Y.n3,rfl,_,rfl,a.la,yB,(k:Int),_,rfl,rfl,y6.of zm,ak hv,x,dx,_,rfl,hL.ins,rfl,?_⟩
  refine⟨x,dx,pa,ln.r,ln.b,ln.h,yJ,ln.qs,rfl,hL,fun x' Cq CC H1 s1 nx Eb DA=>?_⟩
  refine⟨_,rfl,a.y,ys.y3,a.dy,_,_,rfl,s1 _ _ hY.ins,Y.cl,Y.n3,rfl,_,rfl,a.la,yB,(k:Int),k,rfl,rfl,s1 _ _ zm,iw AY,?_⟩
  have o1:yG [a.la] H (upd H1 a.la (.lst (yB.set k (.ref x')))):=(y1.ze s1).trans (c7 (by simp))
  have g1:(upd H1 a.la (.lst (yB.set k (.ref x')))) a.la=some (.lst (yB.set k (.ref x'))):=ac
  have Ay:yP (upd H1 a.la (.lst (yB.set k (.ref x')))) ys.yO x' Cq CC ln.r ln.b ln.h yJ ln.qs:=by
   have n1:x' ≠ a.la:=aR DA.ins (s1 _ _ zm) (by intro z;cases z)
   have n2:CC ≠ a.la:=fun z=>by rw[z,zm]at Eb;cases Eb
   exact⟨by rw[af n1];exact DA.ins,by rw[af n2];exact DA.lst,yT.ze (ex:=[a.la]) (fun b hb=>by simp at hb;subst hb;exact⟨_,s1 _ _ zm⟩) (c7 (by simp)) DA.zw⟩
  generalize upd H1 a.la (.lst (yB.set k (.ref x')))=H2 at o1 g1 Ay ⊢
  have Pw:H2 a.y=some (.ins ys.y3 a.dy (oE a.tb a.ro a.la a.le a.li a.dn)):=o1 _ _ (by simp;exact aR hY.ins zm (by intro z;cases z)) hY.ins
  exact⟨_,rfl,a.y,ys.y3,a.dy,_,_,rfl,Pw,Y.cl,Y.n3,rfl,_,rfl,a.la,_,(k:Int), .ref x',rfl,rfl,y6.of g1,ak (by simp[AY]),q x' Cq CC yJ H2 o1 nx Eb g1 Ay⟩
theorem w8:ap ["self", "number"] ["self", "number"] (aj rH):=L2.yW
theorem uE {ys:Ys}{f ft:Addr}{fd dt:FuncData}(F:yS K "own_letter" "Yard.own_letter" rH f fd)(Y:eU K ys)(mt:bB K ys.y4 "twin" ft)(bt:Binds K dt ["self"] [])(Gt:y2 P w K mg base az 3 ft dt ["self"] (vO ys.y4)) :
  y2 P w K mg base az 4 f fd ["self", "number"] (re K ys):=by
 refine F.ok w8 (fun _ _ _ _ h=>?_) (fun _ _ _ s H _ Q E hr h=>?_)
 ·obtain⟨a,s,k,ln,yB,rfl,_⟩:=h
  rfl
 ·obtain⟨a,st,k,t,yH,rfl,hY,hk,zB,q⟩:=h
  refine⟨_,ae (iX (aO (aC aS (al (pv 0) rfl) (pv 1) (fun _ _=>rfl)) Y.ct mt Gt hr bt .nil ao) (nM (al (pv 0) rfl) (pv 1) iL))
   (ah (ar (aC aS (al (pv 0) rfl) (pv 1) (fun _ _=>rfl)))),?_⟩
  obtain⟨B6,Kk,pl⟩:=hY.hle
  rw[zB]at Kk
  cases Kk
  obtain⟨v,hv,x,dx,wa,rfl,hx,hw,_⟩:=Paired.at2 pl hk
  have AY:k < yH.length:=(gQ0 hv)
  refine⟨_,rfl,a.y,ys.y3,a.dy,_,_,rfl,hY.ins,Y.cl,Y.n4,rfl,_,rfl,a.le,yH,(k:Int),_,rfl,rfl,y6.of zB,ak hv,x,dx,_,rfl,hx,rfl,?_⟩
  refine⟨x,dx,wa,t,rfl,hx,hw,fun x' Cq Ck H1 s1 nx Eb zY DB=>?_⟩
  refine⟨_,rfl,a.y,ys.y3,a.dy,_,_,rfl,s1 _ _ hY.ins,Y.cl,Y.n4,rfl,_,rfl,a.le,yH,(k:Int),k,rfl,rfl,s1 _ _ zB,iw AY,?_⟩
  have o1:yG [a.le] H (upd H1 a.le (.lst (yH.set k (.ref x')))):=(y1.ze s1).trans (c7 (by simp))
  have g1:(upd H1 a.le (.lst (yH.set k (.ref x')))) a.le=some (.lst (yH.set k (.ref x'))):=ac
  have n1:x' ≠ a.le:=aR zY (s1 _ _ zB) (by intro z;cases z)
  have n2:Ck ≠ a.le:=fun z=>by rw[z,zB]at Eb;cases Eb
  have D9:(upd H1 a.le (.lst (yH.set k (.ref x')))) x' = some (.ins ys.y4 Cq (nU t Ck)):=by rw[af n1];exact zY
  have MP:(upd H1 a.le (.lst (yH.set k (.ref x')))) Ck = some (.lst (nV t.way)):=by rw[af n2];exact DB
  generalize upd H1 a.le (.lst (yH.set k (.ref x')))=H2 at o1 g1 D9 MP ⊢
  have Pw:H2 a.y=some (.ins ys.y3 a.dy (oE a.tb a.ro a.la a.le a.li a.dn)):=o1 _ _ (by simp;exact aR hY.ins zB (by intro z;cases z)) hY.ins
  exact⟨_,rfl,a.y,ys.y3,a.dy,_,_,rfl,Pw,Y.cl,Y.n4,rfl,_,rfl,a.le,_,(k:Int), .ref x',rfl,rfl,y6.of g1,ak (by simp[AY]),q x' Cq Ck H2 o1 nx Eb g1 D9 MP⟩
theorem Kl:ap ["self", "piece", "place"] ["self", "piece", "place"] (aj wO):=L2.yW
theorem xy {ys:Ys}{f:Addr}{fd:FuncData}(F:yS K "lay" "Yard.lay" wO f fd)(Y:eU K ys):y2 P w K mg base az 1 f fd ["self", "piece", "place"] (vR K ys):=by
 refine F.ok Kl (fun _ _ _ _ h=>?_) (fun _ _ _ s H _ Q E hr h=>?_)
 ·obtain⟨a,s,v,q,p,qs,rfl,_⟩:=h
  rfl
 ·obtain⟨a,st,v,qp,p,qs,rfl,hY,hv,hp,hlen,q⟩:=h
  refine⟨_,ah (iX (aA u0 (aC aS (al (pv 0) rfl) (pv 2) (fun _ _=>rfl)) (aW (aa (pv 1) ad))) (nM (al (pv 0) rfl) (pv 2) iL)),?_⟩
  obtain⟨yB,C1,pl⟩:=hY.Ai
  obtain⟨v0,HC,t0,Dj,rfl,EX,Km⟩:=Paired.at2 pl hp
  have AY:p < yB.length:=(gQ0 HC)
  have MR:Dj.length=qs.length:=Paired.length Km
  refine⟨_,rfl,a.y,ys.y3,a.dy,_,_,rfl,hY.ins,Y.cl,Y.n5,rfl,_,rfl,a.li,yB,(p:Int),_,rfl,rfl,y6.of C1,ak HC,_,rfl,by show 1 <= sizeLine;decide,fun t ht=>?_⟩
  have s1:=(y1.refl H).new (o := .tup [v]) ht
  have g1:(upd H t (.tup [v])) t=some (.tup [v]):=ac
  generalize upd H t (.tup [v])=H1 at s1 g1 ⊢
  have fin:∀ (z:Addr)(H2:Hp),y1 H H2->zW H2 (.ref z) (qs ++ [qp])->Q .yK (upd H2 a.li (.lst (yB.set p (.ref z)))):=fun z H2 s2 hz=>by
   have o2:yG [a.li] H (upd H2 a.li (.lst (yB.set p (.ref z)))):=(y1.ze s2).trans (c7 (by simp))
   refine q _ o2 (za.FL hY C1 o2 ac ?_)
   obtain⟨tz,vz,ez,Uk,hz2⟩:=hz
   cases ez
   have nz:z ≠ a.li:=aR Uk (s2 _ _ C1) (by intro y;cases y)
   exact⟨z,vz,rfl,by rw[af nz];exact Uk,yT.ze (ex:=[a.li]) (fun b hb=>by simp at hb;subst hb;exact⟨_,s2 _ _ C1⟩) (c7 (by simp)) hz2⟩
  refine⟨t0,t,Dj,[v],rfl,rfl,yD.of (s1 _ _ EX),yD.of g1,by simp,by rw[sizeLine_eq];simp;omega,fun e0=>?_,fun e0 p2 MS=>?_⟩
  ·subst e0
   cases Km
   refine⟨_,rfl,a.y,ys.y3,a.dy,_,_,rfl,s1 _ _ hY.ins,Y.cl,Y.n5,rfl,_,rfl,a.li,yB,(p:Int),p,rfl,rfl,s1 _ _ C1,iw AY,?_⟩
   exact fin t H1 s1 ⟨t,[v],rfl,g1, .cons (let ⟨u,e,hu⟩:=hv; ⟨u,e,s1 _ _ hu⟩) .nil⟩
  ·have s2:=s1.new (o := .tup (Dj ++ [v])) MS
   have g2:(upd H1 p2 (.tup (Dj ++ [v]))) p2=some (.tup (Dj ++ [v])):=ac
   generalize upd H1 p2 (.tup (Dj ++ [v]))=H2 at s2 g2 ⊢
   refine⟨_,rfl,a.y,ys.y3,a.dy,_,_,rfl,s2 _ _ hY.ins,Y.cl,Y.n5,rfl,_,rfl,a.li,yB,(p:Int),p,rfl,rfl,s2 _ _ C1,iw AY,?_⟩
   exact fin p2 H2 s2 ⟨p2,_,rfl,g2,yT.snoc (let ⟨u,e,hu⟩:=hv; ⟨u,e,s2 _ _ hu⟩) (yT.same s2 Km)⟩
theorem Ko:ap ["self", "place"] ["self", "place"] (aj nB):=L2.yW
theorem sy {ys:Ys}{f:Addr}{fd:FuncData}(F:yS K "lying" "Yard.lying" nB f fd)(T:dJ mg)(Y:eU K ys):y2 P w K mg base az 1 f fd ["self", "place"] (oN K ys):=by
 refine F.ok Ko (fun _ _ _ _ h=>?_) (fun _ _ _ s H _ Q E hr h=>?_)
 ·obtain⟨a,s,p,qs,rfl,_⟩:=h
  rfl
 ·obtain⟨a,st,p,qs,rfl,hY,hp,q⟩:=h
  refine⟨_,ah (ar (aJ bx rfl T.list PySem.Pv.boot_list (aa (aC aS (al (pv 0) rfl) (pv 1) (fun _ _=>rfl)) ad))),?_⟩
  obtain⟨yB,C1,pl⟩:=hY.Ai
  obtain⟨v0,HC,t0,Dj,rfl,EX,Km⟩:=Paired.at2 pl hp
  refine⟨_,rfl,a.y,ys.y3,a.dy,_,_,rfl,hY.ins,Y.cl,Y.n5,rfl,_,rfl,a.li,yB,(p:Int),_,rfl,rfl,y6.of C1,ak HC,t0,_,rfl, .inr (yD.of EX),fun D hD=>?_⟩
  have s1:=(y1.refl H).new (o := .lst Dj) hD
  exact q D Dj _ s1 hD ac (yT.same s1 Km)
noncomputable def jh (ln:cy)(m c len:Int):cy:={ ln with r:=ln.r - 1,h:=if decide (c=len - 1)=true then none else some m,qs:=ln.qs ++ [(m,c)] }
noncomputable def dD (s:YS)(m:Nat)(c:Int)(l:Nat)(t:cp)(ln:cy):YS:={ s with U:=if c=0 then s.U.set m { t with way:=t.way ++ [l] } else s.U,lanes:=s.lanes.set l (jh ln m c t.len) }
noncomputable def kz (K:Frag)(ys:Ys):Sp:=fun vs H Q _=>∃ (a:YA)(s:YS)(v:V)(m:Nat)(c:Int)(l:Nat)(t:cp)(ln:cy),vs=[.ref a.y,v, .int l]/\za K ys H a s/\vA H v ((m:Int),c)/\s.U[m]? = some t/\s.lanes[l]? = some ln/\cz ln.r ln.h m c=true/\t.way.length <= 1000/\ln.qs.length < 100000 /\
 ∀ H',yG [a.la,a.le] H H'->za K ys H' a (dD s m c l t ln)->Q .yK H'
noncomputable def gU (s:YS)(m:Nat)(t:cp):YS:={ s with U:=s.U.set m { t with gone:=t.gone + 1 } }
noncomputable def rA (K:Frag)(ys:Ys):Sp:=fun vs H Q _=>∃ (a:YA)(s:YS)(m l:Nat)(t:cp)(ln:cy),vs=[.ref a.y, .int m, .int l]/\za K ys H a s/\s.U[m]? = some t/\s.lanes[l]? = some ln/\cz ln.r ln.h m t.gone=true/\t.way.length <= 1000/\ln.qs.length < 100000 /\
 ∀ H',yG [a.la,a.le] H H'->za K ys H' a (dD (gU s m t) m t.gone l { t with gone:=t.gone + 1 } ln)->Q .yK H'
structure Own (P:Program)(w:World)(K:Frag)(mg:Str->Option Value)(base:Heap)(ys:Ys)(fl ft fp:Addr)(dl dt dp:FuncData):Prop where
 ml:bB K ys.y3 "own_lane" fl
 bl:Binds K dl ["self", "lane"] []
 Gl:y2 P w K mg base az 4 fl dl ["self", "lane"] (rf K ys)
 mt:bB K ys.y3 "own_letter" ft
 bt:Binds K dt ["self", "number"] []
 Gt:y2 P w K mg base az 4 ft dt ["self", "number"] (re K ys)
 mp:bB K ys.yO "put" fp
 bp:Binds K dp ["self", "letter", "count", "last"] []
 Gp:y2 P w K mg base az 2 fp dp ["self", "letter", "count", "last"] (vK ys.yO)
abbrev Ul:List Str:=["self", "piece", "lane", "last"]
abbrev NGi:List Str:=["self", "number", "lane", "letter"]
theorem Kp:ap Ul ["self", "piece", "lane"] (aj nH):=L2.yW
theorem sG {ys:Ys}{f fl ft fp:Addr}{fd dl dt dp:FuncData}(F:yS K "enter" "Yard.enter" nH f fd)(Y:eU K ys)(O:Own P w K mg base ys fl ft fp dl dt dp) :
  y2 P w K mg base az 5 f fd ["self", "piece", "lane"] (kz K ys):=by
 refine F.ok Kp (fun _ _ _ _ h=>?_) (fun _ _ _ s H _ Q E hr h=>?_)
 ·obtain⟨a,s,v,m,c,l,t,ln,rfl,_⟩:=h
  rfl
 ·obtain⟨a,st,v,m,c,l,t,ln,rfl,hY,⟨pt,rfl,BU⟩,hm,hl,IC,D5,EB,q⟩:=h
  have zV:yC 2 _:=hr.mono (by decide)
  refine⟨_,ae (ip (aP (ax bN (aC aE (pv 1) ai (fun _ _=>rfl)) ai (aB _))
    (ah (aL (bV plainAttrs_list PySem.F.slot_list_append PySem.F.type_list_append aV (al (aH (pv 0) Y.cl O.mt O.Gt hr O.bt .nil ao (aa (aC aE (pv 1) ai (fun _ _=>rfl)) ad)) rfl) (aa (pv 2) ad)))) aD))
   (ae (aw (i:=3) Kp.nd rfl (Or.inl rfl) (c8 bN (aC aE (pv 1) ai (fun _ _=>rfl)) (aA cT (al (aC aS (al (pv 0) rfl) (aC aE (pv 1) ai (fun _ _=>rfl)) (fun _ _=>rfl)) rfl) ai) (aB _)))
   (ah (aL (aH (aH (pv 0) Y.cl O.ml O.Gl hr O.bl .nil ao (aa (pv 2) ad)) Y.L.cl O.mp O.Gp zV O.bp .nil ao (aa (aC aE (pv 1) ai (fun _ _=>rfl)) (aa (aC aE (pv 1) ai (fun _ _=>rfl)) (aa (pv 3) ad))))))),?_⟩
  refine⟨fun σ' H'=>σ' = start Ul [.ref a.y, .ref pt, .int l]/\yG [a.le] H H'/\∃ t1:cp,t1.len=t.len/\za K ys H' a { st with U:=if c=0 then st.U.set m { t with way:=t.way ++ [l] } else st.U }/\(if c=0 then st.U.set m { t with way:=t.way ++ [l] } else st.U)[m]? = some t1,?_,?_⟩
  ·refine⟨_,rfl,pt,_,1,_,rfl,rfl,yD.of BU,ak (j:=1) rfl,rfl,_,rfl,?_⟩
   rw[bO]
   by_cases hc:c=0
   ·rw[decide_eq_true hc]
    obtain⟨yH,zB,pl⟩:=hY.hle
    refine aK ⟨_,rfl,a.y,a.dy,_,rfl,hY.ins,rfl,_,rfl,pt,_,0,_,rfl,rfl,yD.of BU,ak (j:=0) rfl,a,st,m,t,yH,rfl,hY,hm,zB,fun x dx wa H1 o1 nx nw g1 zY DB=>?_⟩
    refine⟨x,ys.y4,dx,_,_,rfl,zY,Y.ct,Y.t6,rfl, .inl ⟨rfl,_,y6.of DB⟩,_,rfl,wa,_,_,rfl,rfl,DB,by rw[kW,sizeLine_eq];omega,?_⟩
    have nxw:x ≠ wa:=aR zY DB (by intro z;cases z)
    have nlw:a.le ≠ wa:=ag zB nw
    have o2:yG [a.le] H (upd H1 wa (.lst (nV t.way ++ [.int l]))):=fun b o nb e=>by rw[af (ag e nw)];exact o1 b o nb e
    have Cj:=za.Di hY zB o2 (k:=m) (x:=x) (dx:=dx) (wa:=wa) (by rw[af nlw];exact g1) (t:={ t with way:=t.way ++ [l] }) (by rw[af nxw];exact zY) (by rw[ac,xL];rfl) nw
    have FO:m < st.U.length:=(gQ0 hm)
    refine⟨rfl,o2,{ t with way:=t.way ++ [l] },rfl,?_,?_⟩
    ·rw[if_pos hc];exact Cj
    ·rw[if_pos hc];simp[FO]
   ·rw[decide_eq_false hc]
    refine aF ⟨rfl,y1.ze (y1.refl H),t,rfl,?_,?_⟩
    ·rw[if_neg hc];exact hY
    ·rw[if_neg hc];exact hm
  ·rintro σ' H1 ⟨rfl,o1,t1,hlen,zM,Px⟩
   have Ef:H1 pt=some (.tup [.int m, .int c]):=by
    obtain⟨yH,zB,_⟩:=hY.hle
    exact o1 _ _ (by simp;exact aR BU zB (by intro z;cases z)) BU
   obtain⟨Py,Pz,P0⟩:=zM.hle
   obtain⟨v1,P1,x1,dx1,wa1,rfl,zY,_⟩:=Paired.at2 P0 Px
   refine⟨_,rfl,pt,_,1,_,rfl,rfl,yD.of Ef,ak (j:=1) rfl,_,rfl,a.y,ys.y3,a.dy,_,_,rfl,zM.ins,Y.cl,Y.n4,rfl,_,rfl,pt,_,0,_,rfl,rfl,yD.of Ef,ak (j:=0) rfl,a.le,Py,(m:Int),_,rfl,rfl,y6.of Pz,ak P1,x1,ys.y4,dx1,_,_,rfl,zY,Y.ct,Y.t3,rfl,_,_,rfl,rfl,rfl,?_⟩
   obtain⟨yB,zm,CD⟩:=zM.zx
   refine⟨_,rfl,a.y,a.dy,_,rfl,zM.ins,rfl,_,rfl,a,_,l,ln,yB,rfl,zM,hl,zm,fun x dx pa yJ H2 o2 nx np g2 Ay=>?_⟩
   have Dk:H2 pt=some (.tup [.int m, .int c]):=o2 _ _ (by simp;exact aR Ef zm (by intro z;cases z)) Ef
   have Bq:yJ.length=ln.qs.length:=Paired.length Ay.zw
   refine⟨x,dx,_,rfl,Ay.ins,rfl,_,rfl,pt,_,0,_,rfl,rfl,yD.of Dk,ak (j:=0) rfl,_,rfl,pt,_,1,_,rfl,rfl,yD.of Dk,ak (j:=1) rfl,_,rfl,x,dx,pa,ln.r,ln.b,ln.h,yJ,ln.qs,(m:Int),c,decide (c=t.len - 1),?_,Ay,by omega,(fun ho=>by rw[IC]at ho;cases ho),fun _ t3 H3 o3 De=>?_⟩
   ·rw[bO,hlen];rfl
   have nxl:a.la ≠ x:=ag zm nx
   have npl:a.la ≠ pa:=ag zm np
   have o4:yG [a.la] H1 H3:=fun b o nb e=>o3 b o (ag e nx) (ag e np) (o2 b o nb e)
   have AO:=za.Bl zM zm o4 (k:=l) (x:=x) (dx:=dx) (pa:=pa) (o3 _ _ nxl npl g2) (ln:=jh ln m c t.len) De np
   exact q H3 ((o1.mono (by simp)).trans (o4.mono (by simp))) AO
theorem Kq:ap NGi ["self", "number", "lane"] (aj rU):=L2.yW
theorem uT {ys:Ys}{f fl ft fp fe:Addr}{fd dl dt dp de:FuncData}(F:yS K "go_in" "Yard.go_in" rU f fd)(Y:eU K ys)(O:Own P w K mg base ys fl ft fp dl dt dp)(me:bB K ys.y3 "enter" fe)(be:Binds K de ["self", "piece", "lane"] [])(Ge:y2 P w K mg base az 5 fe de ["self", "piece", "lane"] (kz K ys)) :
  y2 P w K mg base az 6 f fd ["self", "number", "lane"] (rA K ys):=by
 refine F.ok Kq (fun _ _ _ _ h=>?_) (fun _ _ _ s H _ Q E hr h=>?_)
 ·obtain⟨a,s,m,l,t,ln,rfl,_⟩:=h
  rfl
 ·obtain⟨a,st,m,l,t,ln,rfl,hY,hm,hl,IC,D5,EB,q⟩:=h
  have BR:yC 4 _:=hr.mono (by decide)
  refine⟨_,ae (aw (i:=3) Kq.nd rfl (Or.inl rfl) (aH (pv 0) Y.cl O.mt O.Gt BR O.bt .nil ao (aa (pv 1) ad)))
   (ae (dF (pv 3) ai lg)
   (ah (aL (aH (pv 0) Y.cl me Ge hr be .nil ao (aa (aW (aa (pv 1) (aa (aA cT (al (pv 3) rfl) ai) ad))) (aa (pv 2) ad)))))),?_⟩
  obtain⟨yH,zB,pl⟩:=hY.hle
  refine⟨_,rfl,a.y,a.dy,_,rfl,hY.ins,rfl,_,rfl,a,st,m,t,yH,rfl,hY,hm,zB,fun x dx wa H1 o1 nx nw g1 zY DB=>?_⟩
  refine⟨_,rfl,x,ys.y4,dx,_,_,rfl,zY,Y.ct,Y.t5,rfl,_,_,rfl,rfl,dx,_,zY,by show 6 < 1000;decide,?_⟩
  have nlx:a.le ≠ x:=ag zB nx
  have Ea:wa ≠ x:=aR DB zY (by intro z;cases z)
  have o2:yG [a.le] H (upd H1 x (.ins ys.y4 dx (aN "gone" (.int (t.gone + 1)) (nU t wa)))):=fun b o nb e=>by rw[af (ag e nx)];exact o1 b o nb e
  have D9:(upd H1 x (.ins ys.y4 dx (aN "gone" (.int (t.gone + 1)) (nU t wa)))) x=some (.ins ys.y4 dx (nU { t with gone:=t.gone + 1 } wa)):=ac
  have Cj:=za.Di hY zB o2 (k:=m) (x:=x) (dx:=dx) (wa:=wa) (by rw[af nlx];exact g1) (t:={ t with gone:=t.gone + 1 }) D9 (by rw[af Ea];exact DB) nw
  show _
  generalize upd H1 x (.ins ys.y4 dx (aN "gone" (.int (t.gone + 1)) (nU t wa)))=H2 at o2 D9 Cj ⊢
  refine⟨_,rfl,a.y,a.dy,_,rfl,Cj.ins,rfl,_,rfl,_,rfl,x,ys.y4,dx,_,_,rfl,D9,Y.ct,Y.t5,rfl,_,_,rfl,rfl,by show 2 <= sizeLine;decide,fun pt BU=>?_⟩
  have eg:t.gone + 1 - 1=t.gone:=by omega
  have s3:=(y1.refl H2).new (o := .tup [.int m, .int t.gone]) BU
  have g3:(upd H2 pt (.tup [.int m, .int t.gone])) pt=some (.tup [.int m, .int t.gone]):=ac
  dsimp only
  rw[eg]
  generalize upd H2 pt (.tup [.int m, .int t.gone])=H3 at s3 g3 ⊢
  have FO:m < st.U.length:=(gQ0 hm)
  refine⟨_,rfl,a,gU st m t,_,m,t.gone,l,{ t with gone:=t.gone + 1 },ln,rfl,yA.same Cj s3,⟨pt,rfl,g3⟩,by unfold gU;simp[FO],hl,IC,D5,EB,fun H' o' FP=>?_⟩
  exact q H' ((o2.mono (by simp)).trans ((y1.ze s3).trans o')) FP
theorem tO (us:List Nat)(i:Nat):gh (nV us) none (some (i:Int))=nV (us.take i):=by
 unfold gh
 have e0:HT.Aw (nV us).length 0 none=0:=rfl
 rw[e0,show HT.Aw (nV us).length (nV us).length (some (i:Int))=min i (nV us).length from HT.zK _ _ i,List.drop_zero,Nat.sub_zero]
 unfold nV
 rw[map_take,length_map]
 refine List.ext_getElem? fun j=>?_
 simp only[List.getElem?_take,getElem?_map]
 by_cases h1:j < i
 ·by_cases h2:j < us.length
  ·rw[if_pos (by omega),if_pos h1]
  ·rw[if_neg (by omega),if_pos h1,List.getElem?_eq_none (by omega)];rfl
 ·rw[if_neg (by omega),if_neg h1]
theorem vp (us:List Nat)(i:Nat):gh (nV us) (some (i:Int)) (some ((i:Int) + 1))=nV ((us.drop i).take 1):=by
 unfold gh
 rw[show HT.Aw (nV us).length 0 (some (i:Int))=min i (nV us).length from HT.zK _ _ i,show((i:Int) + 1)=((i + 1:Nat):Int) by omega,show HT.Aw (nV us).length (nV us).length (some ((i + 1:Nat):Int))=min (i + 1) (nV us).length from HT.zK _ _ (i + 1),kW]
 by_cases h:i < us.length
 ·rw[min_eq_left (by omega),min_eq_left (by omega),show i + 1 - i=1 by omega]
  unfold nV
  rw[map_take,List.map_drop]
 ·rw[Nat.min_eq_right (by omega),Nat.min_eq_right (by omega),Nat.sub_self,List.take_zero,List.drop_eq_nil_of_le (by omega)];rfl
theorem pb (us:List Nat):nV us=(iz us).map V.int:=(xV us).symm
theorem tu (k:Nat):∀ us:List Nat,(iz us).idxOf (k:Int)=us.idxOf k
 | []=>rfl
 | u :: us=>by
  have ih:=tu k us
  unfold iz at ih ⊢
  rw[map_cons,List.idxOf_cons,List.idxOf_cons,ih]
  by_cases h:u=k
  ·subst h;simp
  ·have h':((u:Int) == (k:Int))=false:=by simp;omega
   have h2:(u == k)=false:=by simp;exact h
   rw[h',h2]
inductive Mv
 | zT (k l:Nat) | on (k l:Nat) | AQ (k:Nat) | back (k:Nat)
noncomputable def cv:Mv->List V
 | .zT k l=>[.str "in", .int k, .int l]
 | .on k l=>[.str "on", .int k, .int l]
 | .AQ k=>[.str "lie", .int k]
 | .back k=>[.str "back", .int k]
noncomputable def eZ (s:YS)(l:Nat)(m c:Int):Bool:=match s.lanes[l]? with
 | some ln=>cz ln.r ln.h m c
 | none=>false
noncomputable def cb (s:YS)(k:Nat):Option (Int × Int):=match s.lanes[k]? with
 | some ln=>ln.qs.head?
 | none=>none
noncomputable def qJ (a:YA)(l g:Nat):List Nat:=if (a.ps.getD l (0,0)).2=(g:Int) then [] else a.wy (a.ps.getD l (0,0)).2.toNat g (some l)
noncomputable def cZ (a:YA)(s:YS)(k:Nat):List Nat:=match cb s k with
 | none=>[]
 | some q=>match s.U[q.1.toNat]? with
  | none=>[]
  | some t=>if q.2=0 then (qJ a k t.goal.toNat).filter fun l=>!decide (l ∈ t.way) else (t.way.drop (t.way.idxOf k + 1)).take 1
noncomputable def cX (a:YA)(t:cp):List Nat:=if t.gone=0 then a.wy t.start.toNat t.goal.toNat none else t.way.take 1
noncomputable def gH (a:YA)(s:YS)(k:Nat):List Mv:=match s.U[k]? with
 | none=>[]
 | some t=>if t.gone=t.len then [] else ((cX a t).filter fun l=>eZ s l k t.gone).map (Mv.zT k)
noncomputable def hU (a:YA)(s:YS)(k:Nat):List Mv:=match cb s k with
 | none=>[]
 | some q=>((cZ a s k).filter fun l=>eZ s l q.1 q.2).map (Mv.on k)
noncomputable def eA (a:YA)(s:YS)(k:Nat):List Mv:=match cb s k with
 | none=>[]
 | some q=>match s.U[q.1.toNat]? with
  | none=>[]
  | some t=>if t.goal=(a.ps.getD k (0,0)).2 then [.AQ k] else []
noncomputable def dC (s:YS)(k:Nat):List Mv:=match s.lanes[k]? with
 | some ln=>if 0 < ln.b then [.back k] else []
 | none=>[]
structure v5 (a:YA):Prop where
 ends:∀ (l:Nat)(pr:Int × Int),a.ps[l]? = some pr->∃ e:Nat,pr.2=(e:Int)/\e < a.n
 zl:∀ p g k,(a.wy p g k).length <= 400
structure MT (a:YA)(s:YS):Prop where
 lanes:s.lanes.length=a.ps.length
 lies:s.lies.length=a.n
 lets:∀ (m:Nat)(t:cp),s.U[m]? = some t->∃ x y:Nat,t.start=(x:Int)/\t.goal=(y:Int)/\x < a.n/\y < a.n
 zy:∀ (m:Nat)(t:cp),s.U[m]? = some t->(∀ l ∈ t.way,l < a.ps.length)/\t.way.length <= 1000
 zw:∀ (k:Nat)(ln:cy),s.lanes[k]? = some ln->∀ q ∈ ln.qs,∃ (m:Nat)(t:cp),q.1=(m:Int)/\s.U[m]? = some t/\k ∈ t.way
 zl:s.U.length <= 60
structure BG (K:Frag)(c:Cs)(TC:Addr)(J:TJ)(ys:Ys)(H:Hp)(a:YA)(s:YS):Prop where
 Y:za K ys H a s
 T:v6 c TC J H a
 O:v5 a
 G:MT a s
theorem BG.same {K:Frag}{c:Cs}{TC fw:Addr}{dw:FuncData}{J:TJ}{ys:Ys}{H H':Hp}{a:YA}{s:YS}(W:Wy K TC fw dw J)(h:BG K c TC J ys H a s)(e:y1 H H'):BG K c TC J ys H' a s:=⟨yA.same h.Y e,zj.keep W h.T (y1.yF e),h.O,h.G⟩
abbrev oK (K:Frag)(c:Cs)(TC:Addr)(J:TJ)(ys:Ys)(f:YA->YS->Nat->List Mv)(len:YS->Nat):Sp:=fun vs H Q _=>∃ (a:YA)(s:YS)(k:Nat),vs=[.ref a.y, .int k]/\BG K c TC J ys H a s/\k < len s /\
 ∀ (D:Addr)(yQ:List V)(H':Hp),y1 H H'->H D=none->H' D=some (.lst yQ)->Paired (zu H') yQ ((f a s k).map cv)->Q (.ref D) H'
noncomputable def nq (K:Frag)(c:Cs)(TC:Addr)(J:TJ)(ys:Ys):Sp:=oK K c TC J ys gH (fun s=>s.U.length)
noncomputable def nk (K:Frag)(c:Cs)(TC:Addr)(J:TJ)(ys:Ys):Sp:=oK K c TC J ys hU (fun s=>s.lanes.length)
noncomputable def oM (K:Frag)(c:Cs)(TC:Addr)(J:TJ)(ys:Ys):Sp:=oK K c TC J ys eA (fun s=>s.lanes.length)
noncomputable def iH (K:Frag)(c:Cs)(TC:Addr)(J:TJ)(ys:Ys):Sp:=oK K c TC J ys (fun _ s k=>dC s k) (fun s=>s.lanes.length)
noncomputable def iG (K:Frag)(c:Cs)(TC:Addr)(J:TJ)(ys:Ys):Sp:=fun vs H Q _=>∃ (a:YA)(s:YS)(k:Nat),vs=[.ref a.y, .int k]/\BG K c TC J ys H a s/\k < s.lanes.length /\
 ∀ (D:Addr)(H':Hp),y1 H H'->H D=none->H' D=some (.lst (nV (cZ a s k)))->Q (.ref D) H'
noncomputable def vM (c:Cs)(C:Addr)(J:TJ):Sp:=fun vs H Q _=>∃ (a:YA)(l g:Nat),vs=[.ref a.tb, .int l, .int g]/\v6 c C J H a/\v5 a/\l < a.ps.length/\g < a.n /\
 ∀ (D:Addr)(H':Hp),y1 H H'->H D=none->H' D=some (.lst (nV (qJ a l g)))->Q (.ref D) H'
theorem lq {K:Frag}{p:Addr}{us:List Nat}{g:TG}{tt:TT}{te:TE}{σ0:St}{H:Hp}{Q:VK}(b:Nat->Bool)(f:Nat->Mv)(hn:us.length < sizeLine)(ha:H p=some (.lst (nV us)))
  (hs:∀ (u:Nat)(H1:Hp)(acc:List V)(N:List V->Hp->Prop),u ∈ us->y1 H H1->(b u=true->∀ v H2,y1 H1 H2->zu H2 v (cv (f u))->N (acc ++ [v]) H2)->(b u=false->N acc H1) ->
   g (.int u) σ0 H1 fun σ2 H2=>tt σ2 H2 fun b H3=>if b=true then te σ2 H3 fun y H4=>N (acc ++ [y]) H4 else N acc H3)
  (hq:∀ D vs H1,y1 H H1->H1 D=none->Paired (zu H1) vs (((us.filter b).map f).map cv)->Q (.ref D) (upd H1 D (.lst vs))):dB (tY K p) g tt te σ0 Q H:=by
 refine bZ us.length hn (fun i acc H'=>y1 H H'/\Paired (zu H') acc ((((us.take i).filter b).map f).map cv)) ⟨y1.refl _, .nil⟩ (fun i acc H' h=>by
   rw[Paired.length h.2,length_map,length_map]
   have h1:=length_filter_le b (us.take i)
   have h2:=length_take_le i us
   omega) (fun i acc H' hi h=>?_) (fun acc H' h=>?_)
 ·obtain⟨s,hL⟩:=h
  have hu:us[i]? = some us[i]:=getElem?_eq_getElem hi
  refine⟨⟨_,_,y6.of (s _ _ ha),sQ hu⟩,fun v H2 y=>?_⟩
  obtain⟨rfl,y⟩:=y
  have hv:=y _ (y6.of (s _ _ ha))
  rw[sQ hu]at hv
  cases hv
  refine hs us[i] H2 acc (fun zg H4=>y1 H H4/\Paired (zu H4) zg ((((us.take (i + 1)).filter b).map f).map cv)) (getElem_mem hi) s (fun hb v H3 s3 hv=>⟨s.trans s3,?_⟩) (fun hb=>⟨s,?_⟩)
  ·rw[take_succ,hu,filter_append]
   have e:(some us[i]).toList.filter b=[us[i]]:=by simp[hb]
   rw[e,map_append,map_append]
   exact Paired.snoc hv (Paired.mono (fun _ _ z=>z.keep (y1.yF s3)) hL)
  ·rw[take_succ,hu,filter_append]
   have e:(some us[i]).toList.filter b=[]:=by simp[hb]
   rw[e,append_nil]
   exact hL
 ·obtain⟨s,hL⟩:=h
  rw[take_length]at hL
  exact⟨⟨_,y6.of (s _ _ ha),by rw[kW];exact le_refl _⟩,fun D hD=>hq D acc H' s hD hL⟩
noncomputable def wT (s:Stmt):Scope:=match s with
 | .Return (some (.ListComp _ _ sc _)) _=>sc
 | _=>zQ0
noncomputable def xY (s:Stmt):Scope:=match s with
 | .If _ [s'] _ _=>wT s'
 | _=>zQ0
abbrev Um:List Str:=["self", "number", "letter", "wanted"]
abbrev Uo:List Str:=["self", "lane", "piece", "letter", "behind"]
abbrev Up:List Str:=["self", "lane", "piece", "wanted"]
theorem FQ:ap Um ["self", "number"] (aj lD):=L2.yW
theorem P2:zP Um (aj lD) (wT ((aM lD).getD 3 (.Pass ⟨0,0,0,0⟩))) ["self", "number", "letter"] [0,1,2]:=L2.AN
theorem P4:(["lane", "self", "number", "letter"]:List Str).Nodup:=by decide +kernel
theorem uK {c:Cs}{ys:Ys}{J:TJ}{TC f fw fo:Addr}{fd dw Bs:FuncData}(F:yS K "moves_in" "Yard.moves_in" lD f fd)(Y:eU K ys)(W:Wy K TC fw dw J)(FF:y2 P w K mg base az 3 fw dw ["self", "place", "goal", "came"] (fQ J))
  (mo:bB K ys.yO "open_to" fo) (bo:Binds K Bs ["self", "letter", "count"] []) (Go:y2 P w K mg base az 1 fo Bs ["self", "letter", "count"] (kx ys.yO)) :
  y2 P w K mg base az 4 f fd ["self", "number"] (nq K c TC J ys):=by
 refine F.ok FQ (fun _ _ _ _ h=>?_) (fun _ _ _ s H _ Q E hr h=>?_)
 ·obtain⟨a,s,k,rfl,_⟩:=h
  rfl
 ·obtain⟨a,st,k,rfl,hI,hk,q⟩:=h
  have zi:yC 1 _:=hr.mono (by decide)
  refine⟨_,ae (aw (i:=2) FQ.nd rfl (Or.inr rfl) (aC aS (al (pv 0) rfl) (pv 1) (fun _ _=>rfl)))
   (ae (aP (ax bN (al (pv 2) rfl) (al (pv 2) rfl) (aB _)) (ah (ar (aU ad))) aD)
   (ae (aw (i:=3) FQ.nd rfl (Or.inl rfl) (kO (cR (ax bN (al (pv 2) rfl) ai (aB _)) (aH (al (pv 0) rfl) W.cl W.m FF hr W.b .nil ao (aa (al (pv 2) rfl) (aa (al (pv 2) rfl) (aa bS ad)))) (e9 fS (al (pv 2) rfl) kM (dP ai)))))
   (ah (ar (bH (own:=["lane"]) (capN:=["self", "number", "letter"]) (cap:=[0,1,2]) P2 rfl (bz (pv 3)) (fun C s' H' fp=>⟨ay (i:=0) P4 rfl (Or.inl rfl),cK (bD (aH (aC (show qH _ (uq K) from aS) (show PE _ _ (iA K (gY 1) "lanes") from al (pv 1) rfl) (pv 0) (fun _ _=>rfl)) Y.L.cl mo Go zi bo .nil ao (aa (pv 2) (aa (show PE _ _ (iA K (gY 3) "gone") from al (pv 3) rfl) ad)))),aW (aa bP (aa (pv 2) (aa (pv 0) ad)))⟩)))))),?_⟩
  have hY:=hI.Y
  obtain⟨yH,zB,pl⟩:=hY.hle
  obtain⟨t,ht⟩:∃ t,st.U[k]? = some t:=⟨_,getElem?_eq_getElem hk⟩
  obtain⟨v,hv,x,dx,wa,rfl,hx,hw,_⟩:=Paired.at2 pl ht
  obtain⟨x0,y0,e1,e2,Kr,HD⟩:=hI.G.lets k t ht
  obtain⟨D5,hw9⟩:=hI.G.zy k t ht
  unfold gH at q
  rw[ht]at q
  refine⟨_,rfl,a.y,ys.y3,a.dy,_,_,rfl,hY.ins,Y.cl,Y.n4,rfl,_,rfl,a.le,yH,(k:Int),_,rfl,rfl,y6.of zB,ak hv,?_⟩
  refine⟨_,rfl,x,ys.y4,dx,_,_,rfl,hx,Y.ct,Y.t5,rfl,_,rfl,x,ys.y4,dx,_,_,rfl,hx,Y.ct,Y.t3,rfl,rfl,_,rfl,?_⟩
  rw[bO]
  by_cases hg:t.gone=t.len
  ·rw[decide_eq_true hg]
   dsimp only at q
   rw[if_pos hg]at q
   exact aK ⟨zero_le _,fun D hD=>q D [] _ ((y1.refl H).new hD) hD ac .nil⟩
  rw[decide_eq_false hg]
  dsimp only at q
  rw[if_neg hg]at q
  refine aF ⟨fun v H1=>∃ D,v = .ref D/\y1 H H1/\H1 D=some (.lst (nV (cX a t))),?_,?_⟩
  ·refine⟨_,rfl,x,ys.y4,dx,_,_,rfl,hx,Y.ct,Y.t5,rfl,rfl,_,rfl,?_⟩
   rw[bO]
   unfold cX
   by_cases h0:t.gone=0
   ·rw[decide_eq_true h0,if_pos h0]
    obtain⟨C0,fst,Cg,zA,AE⟩:=hI.T.i
    refine aK ⟨_,rfl,a.y,ys.y3,a.dy,_,_,rfl,hY.ins,Y.cl,Y.n1,rfl,a.tb,C0,fst,rfl,Cg,AE,_,rfl,x,ys.y4,dx,_,_,rfl,hx,Y.ct,Y.t1,rfl,_,rfl,x,ys.y4,dx,_,_,rfl,hx,Y.ct,Y.t2,rfl,?_⟩
    rw[e1,e2,toNat_natCast,toNat_natCast]
    exact⟨a.tb,a.n,a.wy,x0,y0,none,rfl,hI.T.j,Kr,HD,fun D H1 s1 hD gD=>⟨D,rfl,s1,gD⟩⟩
   ·rw[decide_eq_false h0,if_neg h0]
    refine aF ⟨_,rfl,x,ys.y4,dx,_,_,rfl,hx,Y.ct,Y.t6,rfl,_,rfl,wa,_,rfl,y6.of hw,fun D hD=>⟨D,rfl,(y1.refl H).new hD,?_⟩⟩
    rw[ac,show((1:Int))=((1:Nat):Int) from rfl,tO]
  rintro v H1 ⟨D,rfl,s1,gD⟩
  have Bm:=hI.same W s1
  have zM:=Bm.Y
  have zY:=s1 _ _ hx
  obtain⟨yB,zm,CD⟩:=zM.zx
  have hfl:(cX a t).length <= 1000:=by
   unfold cX
   by_cases h0:t.gone=0
   ·rw[if_pos h0];exact le_trans (hI.O.zl _ _ _) (by decide)
   ·rw[if_neg h0];rw[length_take];omega
  have P5:∀ u ∈ cX a t,u < a.ps.length:=fun u hu=>by
   unfold cX at hu
   by_cases h0:t.gone=0
   ·rw[if_pos h0,e1,e2,toNat_natCast,toNat_natCast]at hu;exact hI.T.ok _ _ _ Kr HD u hu
   ·rw[if_neg h0]at hu;exact D5 u (mem_of_mem_take hu)
  refine⟨_,rfl,D,rfl,⟨_,y6.of gD⟩,?_⟩
  refine lq (fun l=>eZ st l k t.gone) (Mv.zT k) (by rw[sizeLine_eq];omega) gD (fun u H2 acc N hu s2 Eg MU=>?_) (fun D2 FR H2 s2 zI hp=>?_)
  ·have B7:=Bm.same W s2
   obtain⟨FU,FV,FW⟩:=B7.Y.zx
   have MV:u < st.lanes.length:=by rw[hI.G.lanes];exact P5 u hu
   obtain⟨ln,yZ⟩:∃ ln,st.lanes[u]? = some ln:=⟨_,getElem?_eq_getElem MV⟩
   obtain⟨vl,CF,xl,Au,EY,FX,rfl,hL,_⟩:=Paired.at2 FW yZ
   refine⟨_,rfl,a.y,ys.y3,a.dy,_,_,rfl,B7.Y.ins,Y.cl,Y.n3,rfl,_,rfl,a.la,FU,(u:Int),_,rfl,rfl,y6.of FV,ak CF,xl,Au,_,rfl,hL.ins,rfl,_,rfl,_,rfl,x,ys.y4,dx,_,_,rfl,s2 _ _ zY,Y.ct,Y.t5,rfl,xl,Au,EY,ln.r,ln.b,ln.h,(k:Int),t.gone,rfl,hL.ins,_,rfl,?_⟩
   have eo:eZ st u k t.gone=cz ln.r ln.h k t.gone:=by unfold eZ;rw[yZ]
   cases ho:cz ln.r ln.h k t.gone with
   | false=>exact aF (MU (by rw[eo,ho]))
   | true=>exact aK ⟨_,rfl,_,rfl,by show 3 <= sizeLine;decide,fun z hz=>Eg (by rw[eo,ho]) _ _ ((y1.refl H2).new hz) ⟨z,rfl,ac⟩⟩
  ·exact q D2 FR _ ((s1.trans s2).new zI) (s1.free (s2.free zI)) ac (Paired.mono (fun _ _ z=>z.keep (y1.yF ((y1.refl H2).new zI))) hp)
theorem jp {H:Hp}{yJ:List V}{qs:List (Int × Int)}(h:yT H yJ qs):(qs.head? = none/\oq yJ = .yK)∨∃ q pt,qs.head? = some q/\oq yJ = .ref pt/\H pt=some (.tup [.int q.1, .int q.2]):=by
 cases h with
 | nil=>exact .inl ⟨rfl,rfl⟩
 | cons x r=>obtain⟨t,rfl,ht⟩:=x;exact .inr ⟨_,t,rfl,rfl,ht⟩
theorem Ks:ap ["table", "lane", "goal", "end"] ["table", "lane", "goal"] (aj OO):=L2.yW
theorem xp {c:Cs}{J:TJ}{C f fw fe:Addr}{fd dw de:FuncData}(F:yS K "onward" "onward" OO f fd)(L:qL K c)(W:Wy K C fw dw J)(Gw:y2 P w K mg base az 3 fw dw ["self", "place", "goal", "came"] (fQ J))
  (M:vC K c fe de) (Ge:y2 P w K mg base az 1 fe de ["self", "lane"] (ug c Prod.snd)):y2 P w K mg base az 4 f fd ["table", "lane", "goal"] (vM c C J):=by
 refine F.ok Ks (fun _ _ _ _ h=>?_) (fun _ _ _ s H _ Q E hr h=>?_)
 ·obtain⟨a,l,g,rfl,_⟩:=h
  rfl
 ·obtain⟨a,l,g,rfl,hT,hO,hl,hg,q⟩:=h
  have zi:yC 1 _:=hr.mono (by decide)
  refine⟨_,ae (aw (i:=3) Ks.nd rfl (Or.inl rfl) (aH (al (pv 0) rfl) L.cl M.m Ge zi M.b .nil ao (aa (pv 1) ad)))
   (ah (ar (cR (ax bN (pv 3) (pv 2) (aB _)) (aU ad) (aH (pv 0) W.cl W.m Gw hr W.b .nil ao (aa (pv 3) (aa (pv 2) (aa (pv 1) ad))))))),?_⟩
  obtain⟨dx,fs,hx,hf,hw'⟩:=hT.i
  have he:=getElem?_eq_getElem hl
  have EZ:a.ps.getD l (0,0)=a.ps[l]:=by rw[getD_eq_getElem?_getD,he];rfl
  unfold qJ at q
  rw[EZ]at q
  obtain⟨e,ee,Kt⟩:=hO.ends l _ he
  refine⟨_,rfl,a.tb,C,dx,fs,_,rfl,hx,W.cl,W.nl,hf,a.lx,a.zb,_,rfl,hT.l.1,rfl,_,rfl,a.lx,a.zb,a.lt,(a.n:Int),a.yH,a.ps,l,_,rfl,hT.l,he,?_⟩
  rw[ee]at q ⊢
  rw[toNat_natCast]at q
  refine⟨_,rfl,_,rfl,rfl,_,rfl,?_⟩
  rw[bO]
  by_cases h1:(e:Int)=(g:Int)
  ·rw[decide_eq_true h1]
   rw[if_pos h1]at q
   exact aK ⟨zero_le _,fun D hD=>q D _ ((y1.refl H).new hD) hD ac⟩
  ·rw[decide_eq_false h1]
   rw[if_neg h1]at q
   exact aF ⟨_,rfl,a.tb,dx,fs,rfl,hx,hw',_,rfl,_,rfl,_,rfl,a.tb,a.n,a.wy,e,g,some l,rfl,hT.j,Kt,hg,fun D H' s' hD gD=>q D _ s' hD gD⟩
theorem Eh:ap Uo ["self", "lane"] (aj fU):=L2.yW
theorem P6:zP Uo (aj fU) (xY ((aM fU).getD 3 (.Pass ⟨0,0,0,0⟩))) ["letter"] [3]:=L2.AN
theorem P7:(["way", "letter"]:List Str).Nodup:=by decide +kernel
theorem qf {c:Cs}{ys:Ys}{J:TJ}{TC f fw ff fo:Addr}{fd dw df Bs:FuncData}(F:yS K "wanted" "Yard.wanted" fU f fd)(Y:eU K ys)(W:Wy K TC fw dw J)
  (mf:bB K ys.yO "front" ff) (bf:Binds K df ["self"] []) (Gf:y2 P w K mg base az 1 ff df ["self"] (ij ys.yO))
  (mo:mg "onward" = some (.ref fo)) (ko:keepIn K (.ref fo)=true) (bo:Binds K Bs ["table", "lane", "goal"] []) (Go:y2 P w K mg base az 4 fo Bs ["table", "lane", "goal"] (vM c TC J)) :
  y2 P w K mg base az 5 f fd ["self", "lane"] (iG K c TC J ys):=by
 refine F.ok Eh (fun _ _ _ _ h=>?_) (fun _ _ _ s H _ Q E hr h=>?_)
 ·obtain⟨a,s,k,rfl,_⟩:=h
  rfl
 ·obtain⟨a,st,k,rfl,hI,hk,q⟩:=h
  have zi:yC 1 _:=hr.mono (by decide)
  refine⟨_,ae (aw (i:=2) Eh.nd rfl (Or.inl rfl) (aO (aC aS (al (pv 0) rfl) (pv 1) (fun _ _=>rfl)) Y.L.cl mf Gf zi bf .nil ao))
   (ae (aP (ax jc (pv 2) bS (aB _)) (ah (ar (aU ad))) aD)
   (ae (aw (i:=3) Eh.nd rfl (Or.inr rfl) (aC aS (al (pv 0) rfl) (aC aE (pv 2) ai (fun _ _=>rfl)) (fun _ _=>rfl)))
   (ae (aP (ax bN (aC aE (pv 2) ai (fun _ _=>rfl)) ai (aB _))
    (ah (ar (bH (own:=["way"]) (capN:=["letter"]) (cap:=[3]) P6 rfl (bz (av Go hr rfl mo ko bo .nil ao (aa (al (pv 0) rfl) (aa (pv 1) (aa (al (pv 3) rfl) ad))))) (fun C s' H' fp=>⟨ay (i:=0) P7 rfl (Or.inl rfl),cK (ax (show dW _ (compareOp .NotIn) (Ol K true) from kR) (pv 0) (show PE _ _ (iA K (gY 1) "way") from al (pv 1) rfl) (by with_unfolding_all rfl)),pv 0⟩)))) aD)
   (ae (aw (i:=4) Eh.nd rfl (Or.inl rfl) (aA bG (bV plainAttrs_list PySem.F.slot_list_index PySem.F.type_list_index qk (al (pv 3) rfl) (aa (pv 1) ad)) ai))
   (ah (ar (e9 fS (al (pv 3) rfl) (dP (pv 4)) (dP (aA bG (pv 4) ai))))))))),?_⟩
  have hY:=hI.Y
  obtain⟨yB,zm,CD⟩:=hY.zx
  obtain⟨ln,yZ⟩:∃ ln,st.lanes[k]? = some ln:=⟨_,getElem?_eq_getElem hk⟩
  obtain⟨vl,CF,xl,Au,EY,FX,rfl,hL,_⟩:=Paired.at2 CD yZ
  refine⟨_,rfl,a.y,ys.y3,a.dy,_,_,rfl,hY.ins,Y.cl,Y.n3,rfl,_,rfl,a.la,yB,(k:Int),_,rfl,rfl,y6.of zm,ak CF,xl,Au,_,rfl,hL.ins,rfl,xl,Au,EY,ln.r,ln.b,ln.h,FX,ln.qs,rfl,hL,?_⟩
  unfold cZ cb at q
  rw[yZ]at q
  dsimp only at q
  rcases jp hL.zw with ⟨hf,ef⟩ | ⟨pq,pt,hf,ef,BU⟩
  ·rw[hf]at q
   rw[ef]
   exact⟨_,rfl,rfl,_,rfl,aK ⟨zero_le _,fun D hD=>q D _ ((y1.refl H).new hD) hD ac⟩⟩
  rw[hf]at q
  rw[ef]
  have hqm:pq ∈ ln.qs:=mem_of_head? hf
  obtain⟨m,t,em,hm,FY⟩:=hI.G.zw k ln yZ pq hqm
  obtain⟨x0,y0,e1,e2,Kr,HD⟩:=hI.G.lets m t hm
  obtain⟨D5,hw9⟩:=hI.G.zy m t hm
  rw[em]at BU
  dsimp only at q
  rw[em,toNat_natCast,hm]at q
  dsimp only at q
  refine⟨_,rfl,rfl,_,rfl,aF ?_⟩
  obtain⟨yH,zB,pl⟩:=hY.hle
  obtain⟨v,hv,x,dx,wa,rfl,hx,hw,_⟩:=Paired.at2 pl hm
  refine⟨_,rfl,a.y,ys.y3,a.dy,_,_,rfl,hY.ins,Y.cl,Y.n4,rfl,_,rfl,pt,_,0,_,rfl,rfl,yD.of BU,ak (j:=0) rfl,a.le,yH,(m:Int),_,rfl,rfl,y6.of zB,ak hv,?_⟩
  refine⟨_,rfl,pt,_,1,_,rfl,rfl,yD.of BU,ak (j:=1) rfl,rfl,_,rfl,?_⟩
  rw[bO]
  by_cases h0:pq.2=0
  ·rw[decide_eq_true h0]
   rw[if_pos h0,e2,toNat_natCast]at q
   refine aK ⟨_,rfl,a.y,ys.y3,a.dy,_,_,rfl,hY.ins,Y.cl,Y.n1,rfl,_,rfl,_,rfl,x,ys.y4,dx,_,_,rfl,hx,Y.ct,Y.t2,rfl,?_⟩
   rw[e2]
   refine⟨a,k,y0,rfl,hI.T,hI.O,by rw[← hI.G.lanes];exact hk,HD,fun D H1 s1 hD gD=>⟨D,rfl,⟨_,y6.of gD⟩,?_⟩⟩
   have M7:(qJ a k y0).length <= 400:=by
    unfold qJ
    by_cases z:(a.ps.getD k (0,0)).2=(y0:Int)
    ·rw[if_pos z];exact zero_le _
    ·rw[if_neg z];exact hI.O.zl _ _ _
   refine gj (fun v=>match v with | .int i=>!decide (i ∈ iz t.way) | _=>false) (fun v=>v) (by rw[kW,sizeLine_eq];omega) (y6.of gD) (fun y acc N hy h=>?_) (fun D2 zI=>?_)
   ·obtain⟨u,hu,rfl⟩:=xK hy
    refine⟨_,rfl,_,rfl,x,ys.y4,dx,_,_,rfl,s1 _ _ hx,Y.ct,Y.t6,rfl,wa,_,rfl, .inl (y6.of (s1 _ _ hw)),rfl,by rw[pb];exact gJ _,_,rfl,?_⟩
    rw[pb,lh]
    have h:N (if (!decide ((u:Int) ∈ iz t.way))=true then acc ++ [V.int u] else acc) H1:=h
    cases hb:decide ((u:Int) ∈ iz t.way) with
    | true =>
     rw[hb]at h
     exact aF h
    | false =>
     rw[hb]at h
     exact aK ⟨_,rfl,h⟩
   ·have e:((nV (qJ a k y0)).filter (fun v=>match v with | .int i=>!decide (i ∈ iz t.way) | _=>false)).map (fun v=>v)=nV ((qJ a k y0).filter fun l=>!decide (l ∈ t.way)):=by
     rw[List.map_id']
     unfold nV
     rw[List.filter_map]
     congr 1
     refine List.filter_congr fun u _=>?_
     show(!decide ((u:Int) ∈ iz t.way))=_
     rw[nZ]
    rw[e]
    exact q D2 _ (s1.new zI) (s1.free zI) ac
  ·rw[decide_eq_false h0]
   rw[if_neg h0]at q
   refine aF ⟨_,rfl,x,ys.y4,dx,_,_,rfl,hx,Y.ct,Y.t6,rfl, .inl ⟨rfl,_,y6.of hw⟩,_,rfl,wa,iz t.way,(k:Int),rfl,rfl,by rw[← pb];exact hw,Ah.mpr ⟨k,FY,rfl⟩,by unfold iz;rw[length_map];omega,_,_,rfl,rfl,?_⟩
   rw[tu]
   refine⟨_,rfl,x,ys.y4,dx,_,_,rfl,hx,Y.ct,Y.t6,rfl,_,rfl,_,rfl,_,rfl,_,_,rfl,rfl,_,rfl,wa,_,rfl,y6.of hw,fun D hD=>?_⟩
   have e:gh (nV t.way) (some (((t.way.idxOf k:Nat):Int) + 1)) (some (((t.way.idxOf k:Nat):Int) + 1 + 1))=nV ((t.way.drop (t.way.idxOf k + 1)).take 1):=by
    have:=vp t.way (t.way.idxOf k + 1)
    rw[← this]
    rfl
   dsimp only
   rw[e]
   exact q D _ ((y1.refl H).new hD) hD ac
theorem FZ:ap Up ["self", "lane"] (aj lC):=L2.yW
theorem P8:zP Up (aj lC) (wT ((aM lC).getD 2 (.Pass ⟨0,0,0,0⟩))) ["self", "lane", "piece"] [0,1,2]:=L2.AN
theorem P9:(["other", "self", "lane", "piece"]:List Str).Nodup:=by decide +kernel
theorem uJ {c:Cs}{ys:Ys}{J:TJ}{TC f fw ff fa fo:Addr}{fd dw df da Bs:FuncData}(F:yS K "moves_on" "Yard.moves_on" lC f fd)(Y:eU K ys)(W:Wy K TC fw dw J)
  (mf:bB K ys.yO "front" ff) (bf:Binds K df ["self"] []) (Gf:y2 P w K mg base az 1 ff df ["self"] (ij ys.yO))
  (ma:bB K ys.y3 "wanted" fa) (ba:Binds K da ["self", "lane"] []) (Ga:y2 P w K mg base az 5 fa da ["self", "lane"] (iG K c TC J ys))
  (mo:bB K ys.yO "open_to" fo) (bo:Binds K Bs ["self", "letter", "count"] []) (Go:y2 P w K mg base az 1 fo Bs ["self", "letter", "count"] (kx ys.yO)) :
  y2 P w K mg base az 6 f fd ["self", "lane"] (nk K c TC J ys):=by
 refine F.ok FZ (fun _ _ _ _ h=>?_) (fun _ _ _ s H _ Q E hr h=>?_)
 ·obtain⟨a,s,k,rfl,_⟩:=h
  rfl
 ·obtain⟨a,st,k,rfl,hI,hk,q⟩:=h
  have zi:yC 1 _:=hr.mono (by decide)
  refine⟨_,ae (aw (i:=2) FZ.nd rfl (Or.inr rfl) (aO (aC aS (al (pv 0) rfl) (pv 1) (fun _ _=>rfl)) Y.L.cl mf Gf zi bf .nil ao))
   (ae (aw (i:=3) FZ.nd rfl (Or.inl rfl) (aH (pv 0) Y.cl ma Ga hr ba .nil ao (aa (pv 1) ad)))
   (ah (ar (bH (own:=["other"]) (capN:=["self", "lane", "piece"]) (cap:=[0,1,2]) P8 rfl (bz (pv 3)) (fun C s' H' fp=>⟨ay (i:=0) P9 rfl (Or.inl rfl),cK (bD (aH (aC (show qH _ (uq K) from aS) (show PE _ _ (iA K (gY 1) "lanes") from al (pv 1) rfl) (pv 0) (fun _ _=>rfl)) Y.L.cl mo Go zi bo .nil ao (aa (aC (show qH _ (lI K) from aE) (pv 3) ai (fun _ _=>rfl)) (aa (aC (show qH _ (lI K) from aE) (pv 3) ai (fun _ _=>rfl)) ad)))),aW (aa bP (aa (pv 2) (aa (pv 0) ad)))⟩))))),?_⟩
  have hY:=hI.Y
  obtain⟨yB,zm,CD⟩:=hY.zx
  obtain⟨ln,yZ⟩:∃ ln,st.lanes[k]? = some ln:=⟨_,getElem?_eq_getElem hk⟩
  obtain⟨vl,CF,xl,Au,EY,FX,rfl,hL,_⟩:=Paired.at2 CD yZ
  refine⟨_,rfl,a.y,ys.y3,a.dy,_,_,rfl,hY.ins,Y.cl,Y.n3,rfl,_,rfl,a.la,yB,(k:Int),_,rfl,rfl,y6.of zm,ak CF,xl,Au,_,rfl,hL.ins,rfl,xl,Au,EY,ln.r,ln.b,ln.h,FX,ln.qs,rfl,hL,?_⟩
  refine⟨_,rfl,a.y,a.dy,_,rfl,hY.ins,rfl,_,rfl,a,st,k,rfl,hI,hk,fun D H1 s1 hD gD=>?_⟩
  refine⟨_,rfl,D,rfl,⟨_,y6.of gD⟩,?_⟩
  have Bm:=hI.same W s1
  have eF:cb st k=ln.qs.head?:=by unfold cb;rw[yZ]
  have P5:∀ u ∈ cZ a st k,u < a.ps.length:=fun u hu=>by
   unfold cZ at hu
   rw[eF]at hu
   cases hq:ln.qs.head? with
   | none=>rw[hq]at hu;cases hu
   | some pq =>
    rw[hq]at hu
    obtain⟨m,t,em,hm,FY⟩:=hI.G.zw k ln yZ pq (mem_of_head? hq)
    obtain⟨x0,y0,e1,e2,Kr,HD⟩:=hI.G.lets m t hm
    dsimp only at hu
    rw[em,toNat_natCast,hm]at hu
    dsimp only at hu
    by_cases h0:pq.2=0
    ·rw[if_pos h0,e2,toNat_natCast]at hu
     have hu:=(mem_filter.mp hu).1
     unfold qJ at hu
     by_cases z:(a.ps.getD k (0,0)).2=(y0:Int)
     ·rw[if_pos z]at hu;cases hu
     ·rw[if_neg z]at hu
      have HE:k < a.ps.length:=by rw[← hI.G.lanes];exact hk
      obtain⟨e,ee,Kt⟩:=hI.O.ends k _ (getElem?_eq_getElem HE)
      have EZ:a.ps.getD k (0,0)=a.ps[k]:=by rw[getD_eq_getElem?_getD,getElem?_eq_getElem HE];rfl
      rw[EZ,ee,toNat_natCast]at hu
      exact hI.T.ok _ _ _ Kt HD u hu
    ·rw[if_neg h0]at hu
     exact(hI.G.zy m t hm).1 u (List.mem_of_mem_drop (mem_of_mem_take hu))
  have D5:(cZ a st k).length <= 1000:=by
   unfold cZ
   cases cb st k with
   | none=>exact zero_le _
   | some pq =>
    dsimp only
    cases st.U[pq.1.toNat]? with
    | none=>exact zero_le _
    | some t =>
     dsimp only
     by_cases h0:pq.2=0
     ·rw[if_pos h0]
      refine le_trans (length_filter_le _ _) ?_
      unfold qJ
      by_cases z:(a.ps.getD k (0,0)).2=((t.goal.toNat:Nat):Int)
      ·rw[if_pos z];exact zero_le _
      ·rw[if_neg z];exact le_trans (hI.O.zl _ _ _) (by decide)
     ·rw[if_neg h0,length_take];omega
  unfold hU at q
  rw[eF]at q
  rcases jp hL.zw with ⟨hf,ef⟩ | ⟨pq,pt,hf,ef,BU⟩
  ·have e0:cZ a st k=[]:=by unfold cZ;rw[eF,hf]
   rw[hf]at q
   rw[e0]at gD
   refine lq (fun l=>false) (Mv.on k) (by rw[sizeLine_eq];decide) gD (fun u H2 acc N hu s2 Eg MU=>by cases hu) (fun D2 FR H2 s2 zI hp=>?_)
   exact q D2 FR _ ((s1.trans s2).new zI) (s1.free (s2.free zI)) ac (Paired.mono (fun _ _ z=>z.keep (y1.yF ((y1.refl H2).new zI))) hp)
  rw[hf]at q
  dsimp only at q
  rw[ef]
  refine lq (fun l=>eZ st l pq.1 pq.2) (Mv.on k) (by rw[sizeLine_eq];omega) gD (fun u H2 acc N hu s2 Eg MU=>?_) (fun D2 FR H2 s2 zI hp=>?_)
  ·have B7:=Bm.same W s2
   obtain⟨FU,FV,FW⟩:=B7.Y.zx
   have MV:u < st.lanes.length:=by rw[hI.G.lanes];exact P5 u hu
   obtain⟨zR,AF⟩:∃ ln,st.lanes[u]? = some ln:=⟨_,getElem?_eq_getElem MV⟩
   obtain⟨vu,hvu,xu,Uq,pau,pvu,rfl,Ur,_⟩:=Paired.at2 FW AF
   have Dk:=s2 _ _ (s1 _ _ BU)
   refine⟨_,rfl,a.y,ys.y3,a.dy,_,_,rfl,B7.Y.ins,Y.cl,Y.n3,rfl,_,rfl,a.la,FU,(u:Int),_,rfl,rfl,y6.of FV,ak hvu,xu,Uq,_,rfl,Ur.ins,rfl,_,rfl,pt,_,0,_,rfl,rfl,yD.of Dk,ak (j:=0) rfl,_,rfl,pt,_,1,_,rfl,rfl,yD.of Dk,ak (j:=1) rfl,xu,Uq,pau,zR.r,zR.b,zR.h,pq.1,pq.2,rfl,Ur.ins,_,rfl,?_⟩
   have eo:eZ st u pq.1 pq.2=cz zR.r zR.h pq.1 pq.2:=by unfold eZ;rw[AF]
   cases ho:cz zR.r zR.h pq.1 pq.2 with
   | false=>exact aF (MU (by rw[eo,ho]))
   | true=>exact aK ⟨_,rfl,_,rfl,by show 3 <= sizeLine;decide,fun z hz=>Eg (by rw[eo,ho]) _ _ ((y1.refl H2).new hz) ⟨z,rfl,ac⟩⟩
  ·exact q D2 FR _ ((s1.trans s2).new zI) (s1.free (s2.free zI)) ac (Paired.mono (fun _ _ z=>z.keep (y1.yF ((y1.refl H2).new zI))) hp)
theorem Ku:ap ["self", "lane", "piece"] ["self", "lane"] (aj n9):=L2.yW
theorem sw {c:Cs}{ys:Ys}{J:TJ}{TC f fw ff fe:Addr}{fd dw df de:FuncData}(F:yS K "moves_lie" "Yard.moves_lie" n9 f fd)(Y:eU K ys)(L:qL K c)(W:Wy K TC fw dw J)
  (mf:bB K ys.yO "front" ff) (bf:Binds K df ["self"] []) (Gf:y2 P w K mg base az 1 ff df ["self"] (ij ys.yO)) (M:vC K c fe de) (Ge:y2 P w K mg base az 1 fe de ["self", "lane"] (ug c Prod.snd)) :
  y2 P w K mg base az 2 f fd ["self", "lane"] (oM K c TC J ys):=by
 refine F.ok Ku (fun _ _ _ _ h=>?_) (fun _ _ _ s H _ Q E hr h=>?_)
 ·obtain⟨a,s,k,rfl,_⟩:=h
  rfl
 ·obtain⟨a,st,k,rfl,hI,hk,q⟩:=h
  refine⟨_,ae (aw (i:=2) Ku.nd rfl (Or.inl rfl) (aO (aC aS (al (pv 0) rfl) (pv 1) (fun _ _=>rfl)) Y.L.cl mf Gf hr bf .nil ao))
   (ae (aP (PW.pt (iT (ax jc (pv 2) bS (aB _)) (fH (ax oW (al (aC aS (al (pv 0) rfl) (aC aE (pv 2) ai (fun _ _=>rfl)) (fun _ _=>rfl)) rfl) (aH (al (al (pv 0) rfl) rfl) L.cl M.m Ge hr M.b .nil ao (aa (pv 1) ad)) (aB _))))) (ah (ar (aU ad))) aD)
   (ah (ar (aU (aa (aW (aa bP (aa (pv 1) ad))) ad))))),?_⟩
  have hY:=hI.Y
  obtain⟨yB,zm,CD⟩:=hY.zx
  obtain⟨ln,yZ⟩:∃ ln,st.lanes[k]? = some ln:=⟨_,getElem?_eq_getElem hk⟩
  obtain⟨vl,CF,xl,Au,EY,FX,rfl,hL,_⟩:=Paired.at2 CD yZ
  refine⟨_,rfl,a.y,ys.y3,a.dy,_,_,rfl,hY.ins,Y.cl,Y.n3,rfl,_,rfl,a.la,yB,(k:Int),_,rfl,rfl,y6.of zm,ak CF,xl,Au,_,rfl,hL.ins,rfl,xl,Au,EY,ln.r,ln.b,ln.h,FX,ln.qs,rfl,hL,?_⟩
  have eF:cb st k=ln.qs.head?:=by unfold cb;rw[yZ]
  unfold eA at q
  rw[eF]at q
  rcases jp hL.zw with ⟨hf,ef⟩ | ⟨pq,pt,hf,ef,BU⟩
  ·rw[hf]at q
   rw[ef]
   exact⟨_,rfl,rfl,_,rfl,aK (aK ⟨zero_le _,fun D hD=>q D [] _ ((y1.refl H).new hD) hD ac .nil⟩)⟩
  rw[hf]at q
  rw[ef]
  obtain⟨m,t,em,hm,FY⟩:=hI.G.zw k ln yZ pq (mem_of_head? hf)
  rw[em]at BU
  dsimp only at q
  rw[em,toNat_natCast,hm]at q
  dsimp only at q
  obtain⟨yH,zB,pl⟩:=hY.hle
  obtain⟨v,hv,x,dx,wa,rfl,hx,hw,_⟩:=Paired.at2 pl hm
  obtain⟨C0,fst,Cg,zA,AE⟩:=hI.T.i
  have HE:k < a.ps.length:=by rw[← hI.G.lanes];exact hk
  have he:=getElem?_eq_getElem HE
  have EZ:a.ps.getD k (0,0)=a.ps[k]:=by rw[getD_eq_getElem?_getD,he];rfl
  rw[EZ]at q
  refine⟨_,rfl,rfl,_,rfl,aF ⟨_,rfl,a.y,ys.y3,a.dy,_,_,rfl,hY.ins,Y.cl,Y.n4,rfl,_,rfl,pt,_,0,_,rfl,rfl,yD.of BU,ak (j:=0) rfl,a.le,yH,(m:Int),_,rfl,rfl,y6.of zB,ak hv,x,ys.y4,dx,_,_,rfl,hx,Y.ct,Y.t2,rfl,_,rfl,a.y,ys.y3,a.dy,_,_,rfl,hY.ins,Y.cl,Y.n1,rfl,a.tb,TC,C0,fst,_,rfl,Cg,W.cl,W.nl,zA,a.lx,a.zb,_,rfl,hI.T.l.1,rfl,_,rfl,a.lx,a.zb,a.lt,(a.n:Int),a.yH,a.ps,k,_,rfl,hI.T.l,he,rfl,_,rfl,?_⟩⟩
  rw[bO]
  by_cases hg:t.goal=a.ps[k].2
  ·rw[decide_eq_true hg]
   rw[if_pos hg]at q
   refine aF ⟨_,rfl,by show 2 <= sizeLine;decide,fun z hz=>⟨by show 1 <= sizeLine;decide,fun D hD=>?_⟩⟩
   have s2:=(y1.refl H).new (o := .tup [.str "lie", .int k]) hz
   have gz:(upd H z (.tup [.str "lie", .int k])) z=some (.tup [.str "lie", .int k]):=ac
   exact q D [.ref z] _ (s2.new hD) (s2.free hD) ac (.cons ⟨z,rfl,by rw[af (ag gz hD)];exact gz⟩ .nil)
  ·rw[decide_eq_false hg]
   rw[if_neg hg]at q
   exact aK ⟨zero_le _,fun D hD=>q D [] _ ((y1.refl H).new hD) hD ac .nil⟩
theorem PB:ap ["self", "lane"] ["self", "lane"] (aj kG):=L2.yW
theorem qi {c:Cs}{ys:Ys}{J:TJ}{TC f:Addr}{fd:FuncData}(F:yS K "moves_back" "Yard.moves_back" kG f fd)(Y:eU K ys):y2 P w K mg base az 1 f fd ["self", "lane"] (iH K c TC J ys):=by
 refine F.ok PB (fun _ _ _ _ h=>?_) (fun _ _ _ s H _ Q E hr h=>?_)
 ·obtain⟨a,s,k,rfl,_⟩:=h
  rfl
 ·obtain⟨a,st,k,rfl,hI,hk,q⟩:=h
  refine⟨_,ah (ar (cR (ax oX (al (aC aS (al (pv 0) rfl) (pv 1) (fun _ _=>rfl)) rfl) ai (aB _)) (aU (aa (aW (aa bP (aa (pv 1) ad))) ad)) (aU ad))),?_⟩
  have hY:=hI.Y
  obtain⟨yB,zm,CD⟩:=hY.zx
  obtain⟨ln,yZ⟩:∃ ln,st.lanes[k]? = some ln:=⟨_,getElem?_eq_getElem hk⟩
  obtain⟨vl,CF,xl,Au,EY,FX,rfl,hL,_⟩:=Paired.at2 CD yZ
  unfold dC at q
  dsimp only at q
  rw[yZ]at q
  dsimp only at q
  refine⟨_,rfl,a.y,ys.y3,a.dy,_,_,rfl,hY.ins,Y.cl,Y.n3,rfl,_,rfl,a.la,yB,(k:Int),_,rfl,rfl,y6.of zm,ak CF,xl,ys.yO,Au,_,_,rfl,hL.ins,Y.L.cl,Y.L.n2,rfl,_,_,rfl,rfl,_,rfl,?_⟩
  by_cases hb:0 < ln.b
  ·rw[decide_eq_true hb]
   rw[if_pos hb]at q
   refine aK ⟨_,rfl,by show 2 <= sizeLine;decide,fun z hz=>⟨by show 1 <= sizeLine;decide,fun D hD=>?_⟩⟩
   have s2:=(y1.refl H).new (o := .tup [.str "back", .int k]) hz
   have gz:(upd H z (.tup [.str "back", .int k])) z=some (.tup [.str "back", .int k]):=ac
   exact q D [.ref z] _ (s2.new hD) (s2.free hD) ac (.cons ⟨z,rfl,by rw[af (ag gz hD)];exact gz⟩ .nil)
  ·rw[decide_eq_false hb]
   rw[if_neg hb]at q
   exact aF ⟨zero_le _,fun D hD=>q D [] _ ((y1.refl H).new hD) hD ac .nil⟩
theorem dG {H:Hp}{F:Addr}{xs:List V}{o:HO}(h:H F=some (.lst xs)):yX H (upd H F o):=fun b u e n=>by
 have nb:b ≠ F:=fun z=>by rw[z,h]at e;cases e;exact n
 rw[af nb];exact e
theorem dI {α:Type}(f:Nat->List α)(i:Nat):(List.range (i + 1)).flatMap f=(List.range i).flatMap f ++ f i:=by
 rw[range_succ,List.flatMap_append];simp
theorem aX {α:Type}{f:Nat->List α}(h:∀ i,(f i).length <= 1000):∀ i,((List.range i).flatMap f).length <= 1000 * i
 | 0=>by simp
 | i + 1=>by rw[dI,length_append];have:=aX h i;have:=h i;omega
theorem cW {a:YA}{s:YS}(O:v5 a)(G:MT a s)(k:Nat):(gH a s k).length <= 1000:=by
 unfold gH
 cases ht:s.U[k]? with
 | none=>exact zero_le _
 | some t =>
  dsimp only
  by_cases hg:t.gone=t.len
  ·rw[if_pos hg];exact zero_le _
  rw[if_neg hg,length_map]
  refine le_trans (length_filter_le _ _) ?_
  unfold cX
  by_cases h0:t.gone=0
  ·rw[if_pos h0];exact le_trans (O.zl _ _ _) (by decide)
  ·rw[if_neg h0,length_take];omega
theorem cU {a:YA}{s:YS}(O:v5 a)(k:Nat):(hU a s k).length <= 1000:=by
 unfold hU
 cases hq:cb s k with
 | none=>exact zero_le _
 | some pq =>
  dsimp only
  rw[length_map]
  refine le_trans (length_filter_le _ _) ?_
  unfold cZ
  rw[hq]
  dsimp only
  cases s.U[pq.1.toNat]? with
  | none=>exact zero_le _
  | some t =>
   dsimp only
   by_cases h0:pq.2=0
   ·rw[if_pos h0]
    refine le_trans (length_filter_le _ _) ?_
    unfold qJ
    by_cases z:(a.ps.getD k (0,0)).2=((t.goal.toNat:Nat):Int)
    ·rw[if_pos z];exact zero_le _
    ·rw[if_neg z];exact le_trans (O.zl _ _ _) (by decide)
   ·rw[if_neg h0,length_take];omega
theorem c5 (a:YA)(s:YS)(k:Nat):(eA a s k).length <= 1000:=by
 unfold eA
 cases cb s k with
 | none=>exact zero_le _
 | some pq =>
  dsimp only
  cases s.U[pq.1.toNat]? with
  | none=>exact zero_le _
  | some t =>
   dsimp only
   by_cases h0:t.goal=(a.ps.getD k (0,0)).2
   ·rw[if_pos h0];show 1 <= 1000;decide
   ·rw[if_neg h0];exact zero_le _
theorem fK (s:YS)(k:Nat):(dC s k).length <= 1000:=by
 unfold dC
 cases s.lanes[k]? with
 | none=>exact zero_le _
 | some ln =>
  dsimp only
  by_cases h0:0 < ln.b
  ·rw[if_pos h0];show 1 <= 1000;decide
  ·rw[if_neg h0];exact zero_le _
noncomputable def aI (a:YA)(s:YS):List Mv:=(List.range s.U.length).flatMap (gH a s) ++ (List.range s.lanes.length).flatMap (hU a s) ++ (List.range s.lanes.length).flatMap (eA a s) ++ (List.range s.lanes.length).flatMap (dC s)
noncomputable def eI (K:Frag)(c:Cs)(TC:Addr)(J:TJ)(ys:Ys):Sp:=fun vs H Q _=>∃ (a:YA)(s:YS),vs=[.ref a.y]/\BG K c TC J ys H a s /\
 ∀ (D:Addr)(yQ:List V)(H':Hp),y1 H H'->H D=none->H' D=some (.lst yQ)->Paired (zu H') yQ ((aI a s).map cv)->Q (.ref D) H'
theorem Paired.app {α β:Type}{R:α->β->Prop}{cs:List α}{ds:List β}(h:Paired R cs ds):∀ {as:List α}{bs:List β},Paired R as bs->Paired R (as ++ cs) (bs ++ ds):=fun y8=>by
 induction y8 with
 | nil=>exact h
 | cons x r ih=>exact .cons x ih
theorem iu {H H2 H3:Hp}{F:Addr}{vs yQ:List V}{xs ys:List Mv}(nF:H F=none)(s2:y1 H H2)(g2:H2 F=some (.lst vs))(p2:Paired (zu H2) vs (xs.map cv))(s3:y1 H2 H3)(p3:Paired (zu H3) yQ (ys.map cv)) :
  y1 H (upd H3 F (.lst (vs ++ yQ)))/\(upd H3 F (.lst (vs ++ yQ))) F=some (.lst (vs ++ yQ))/\Paired (zu (upd H3 F (.lst (vs ++ yQ)))) (vs ++ yQ) ((xs ++ ys).map cv):=by
 refine⟨fun b o e=>by rw[af (ag e nF)];exact s3 _ _ (s2 _ _ e),ac,?_⟩
 have kk:yX H3 (upd H3 F (.lst (vs ++ yQ))):=dG (s3 _ _ g2)
 rw[map_append]
 have q2:=Paired.mono (fun _ _ z=>z.keep (yX.trans (y1.yF s3) kk)) p2
 have q3:=Paired.mono (fun _ _ z=>z.keep kk) p3
 exact Paired.app q3 q2
abbrev NMs:List Str:=["self", "found", "number", "lane"]
theorem C2:ap NMs ["self"] (aj nA):=L2.yW
structure PD (P:Program)(w:World)(K:Frag)(mg:Str->Option Value)(base:Heap)(c:Cs)(TC:Addr)(J:TJ)(ys:Ys)(fi fo fl fb:Addr)(di Bs dl db:FuncData):Prop where
 mi:bB K ys.y3 "moves_in" fi
 bi:Binds K di ["self", "number"] []
 Gi:y2 P w K mg base az 4 fi di ["self", "number"] (nq K c TC J ys)
 mo:bB K ys.y3 "moves_on" fo
 bo:Binds K Bs ["self", "lane"] []
 Go:y2 P w K mg base az 6 fo Bs ["self", "lane"] (nk K c TC J ys)
 ml:bB K ys.y3 "moves_lie" fl
 bl:Binds K dl ["self", "lane"] []
 Gl:y2 P w K mg base az 2 fl dl ["self", "lane"] (oM K c TC J ys)
 mb:bB K ys.y3 "moves_back" fb
 bb:Binds K db ["self", "lane"] []
 Gb:y2 P w K mg base az 1 fb db ["self", "lane"] (iH K c TC J ys)
theorem sx {c:Cs}{ys:Ys}{J:TJ}{TC f fw fi fo fl fb:Addr}{fd dw di Bs dl db:FuncData}(F:yS K "moves" "Yard.moves" nA f fd)(T:dJ mg)(Y:eU K ys)(W:Wy K TC fw dw J)(M:PD P w K mg base c TC J ys fi fo fl fb di Bs dl db) :
  y2 P w K mg base az 7 f fd ["self"] (eI K c TC J ys):=by
 refine F.ok C2 (fun _ _ _ _ h=>?_) (fun _ _ _ s H _ Q E hr h=>?_)
 ·obtain⟨a,s,rfl,_⟩:=h
  rfl
 ·obtain⟨a,st,rfl,hI,q⟩:=h
  have zi:yC 1 _:=hr.mono (by decide)
  have zV:yC 2 _:=hr.mono (by decide)
  have BR:yC 4 _:=hr.mono (by decide)
  refine⟨_,ae (aw (i:=1) C2.nd rfl (Or.inl rfl) (aU ad))
   (ae (bL PassesOwn.never rfl (bE rfl T.range (aa (au aq rfl T.len PySem.boot_len (aa (al (pv 0) rfl) ad)) ad)) (ay (i:=2) C2.nd rfl (Or.inl rfl)) (ah (aL (bV plainAttrs_list slot_list_extend type_list_extend eQ (pv 1) (aa (aH (pv 0) Y.cl M.mi M.Gi BR M.bi .nil ao (aa (pv 2) ad)) ad)))))
   (ae (bL PassesOwn.never rfl (bE rfl T.range (aa (au aq rfl T.len PySem.boot_len (aa (al (pv 0) rfl) ad)) ad)) (ay (i:=3) C2.nd rfl (Or.inl rfl)) (ah (aL (bV plainAttrs_list slot_list_extend type_list_extend eQ (pv 1) (aa (aH (pv 0) Y.cl M.mo M.Go hr M.bo .nil ao (aa (pv 3) ad)) ad)))))
   (ae (bL PassesOwn.never rfl (bE rfl T.range (aa (au aq rfl T.len PySem.boot_len (aa (al (pv 0) rfl) ad)) ad)) (ay (i:=3) C2.nd rfl (Or.inl rfl)) (ah (aL (bV plainAttrs_list slot_list_extend type_list_extend eQ (pv 1) (aa (aH (pv 0) Y.cl M.ml M.Gl zV M.bl .nil ao (aa (pv 3) ad)) ad)))))
   (ae (bL PassesOwn.never rfl (bE rfl T.range (aa (au aq rfl T.len PySem.boot_len (aa (al (pv 0) rfl) ad)) ad)) (ay (i:=3) C2.nd rfl (Or.inl rfl)) (ah (aL (bV plainAttrs_list slot_list_extend type_list_extend eQ (pv 1) (aa (aH (pv 0) Y.cl M.mb M.Gb zi M.bb .nil ao (aa (pv 3) ad)) ad)))))
   (ah (ar (pv 1))))))),?_⟩
  have hlet:=hI.G.zl
  have Ei:st.lanes.length <= 40:=by rw[hI.G.lanes];exact hI.T.zl
  refine⟨zero_le _,fun Fd HF=>?_⟩
  have s0:=(y1.refl H).new (o := .lst []) HF
  have g0:(upd H Fd (.lst [])) Fd=some (.lst []):=ac
  show cf 1 (V.ref Fd) _ _ _
  generalize upd H Fd (.lst [])=H0 at s0 g0 ⊢
  have PF:∃ vs,y1 H H0/\H0 Fd=some (.lst vs)/\Paired (zu H0) vs (([]:List Mv).map cv):=⟨[],s0,g0, .nil⟩
  obtain⟨Dj,Us,g0',p0'⟩:=PF
  have Ut:=(hI.same W Us).Y
  obtain⟨Uu,gl0,pl0⟩:=Ut.hle
  have PH:Uu.length=st.U.length:=Paired.length pl0
  refine⟨_,rfl,a.y,ys.y3,a.dy,_,_,rfl,Ut.ins,Y.cl,Y.n4,rfl,a.le,_,rfl, .inl (y6.of gl0),((Uu.length:Nat):Int),rfl,by omega,by omega,?_⟩
  rw[toNat_natCast,PH]
  refine bW (n:=st.U.length) (fun i σ H2=>∃ a2 a3:Option V,(∃ vs,y1 H H2/\H2 Fd=some (.lst vs)/\Paired (zu H2) vs (((List.range i).flatMap (gH a st)).map cv))/\σ=[some (.ref a.y),some (.ref Fd),a2,a3]) ?_ ?_ ?_
  ·exact⟨_,_,⟨Dj,Us,g0',by simpa using p0'⟩,rfl⟩
  ·rintro i σ H2 hi ⟨a2,a3,⟨vs,s2,g2,p2⟩,rfl⟩
   rw[zero_add]
   have B7:=hI.same W s2
   refine⟨_,rfl, .inl ⟨rfl,_,y6.of g2⟩,_,rfl,a.y,a.dy,_,rfl,B7.Y.ins,rfl,_,rfl,a,st,i,rfl,B7,hi,fun D yQ H3 s3 hD gD hp=>?_⟩
   have l1:vs.length <= 1000000:=by
    rw[Paired.length p2,length_map]
    have h0:=aX (cW hI.O hI.G) st.U.length
    have h1:=aX (cU (s:=st) hI.O) st.lanes.length
    have h2:=aX (c5 a st) st.lanes.length
    have hh:=aX (cW hI.O hI.G) i
    try simp only[length_append]
    omega
   have l2:yQ.length <= 1000:=by rw[Paired.length hp,length_map];exact(cW hI.O hI.G) i
   obtain⟨q1,q2,q3⟩:=iu HF s2 g2 p2 s3 hp
   refine⟨Fd,D,vs,yQ,rfl,rfl,s3 _ _ g2,gD,by rw[sizeLine_eq];omega,?_⟩
   refine⟨_,_,⟨vs ++ yQ,q1,q2,?_⟩,rfl⟩
   rw[dI]
   exact q3
  rintro σ0 H1 ⟨a20,a30,inv1,rfl⟩
  obtain⟨vs1,Uv,Kv,p1'⟩:=inv1
  have zM:=(hI.same W Uv).Y
  obtain⟨Uw,gl1,P0⟩:=zM.zx
  have PJ:Uw.length=st.lanes.length:=Paired.length P0
  refine⟨_,rfl,a.y,ys.y3,a.dy,_,_,rfl,zM.ins,Y.cl,Y.n3,rfl,a.la,_,rfl, .inl (y6.of gl1),((Uw.length:Nat):Int),rfl,by omega,by omega,?_⟩
  rw[toNat_natCast,PJ]
  refine bW (n:=st.lanes.length) (fun i σ H2=>∃ a2 a3:Option V,(∃ vs,y1 H H2/\H2 Fd=some (.lst vs)/\Paired (zu H2) vs ((((List.range st.U.length).flatMap (gH a st)) ++ (List.range i).flatMap (hU a st)).map cv))/\σ=[some (.ref a.y),some (.ref Fd),a2,a3]) ?_ ?_ ?_
  ·exact⟨_,_,⟨vs1,Uv,Kv,by simpa using p1'⟩,rfl⟩
  ·rintro i σ H2 hi ⟨a2,a3,⟨vs,s2,g2,p2⟩,rfl⟩
   rw[zero_add]
   have B7:=hI.same W s2
   refine⟨_,rfl, .inl ⟨rfl,_,y6.of g2⟩,_,rfl,a.y,a.dy,_,rfl,B7.Y.ins,rfl,_,rfl,a,st,i,rfl,B7,hi,fun D yQ H3 s3 hD gD hp=>?_⟩
   have l1:vs.length <= 1000000:=by
    rw[Paired.length p2,length_map]
    have h0:=aX (cW hI.O hI.G) st.U.length
    have h1:=aX (cU (s:=st) hI.O) st.lanes.length
    have h2:=aX (c5 a st) st.lanes.length
    have hh:=aX (cU (s:=st) hI.O) i
    try simp only[length_append]
    omega
   have l2:yQ.length <= 1000:=by rw[Paired.length hp,length_map];exact(cU (s:=st) hI.O) i
   obtain⟨q1,q2,q3⟩:=iu HF s2 g2 p2 s3 hp
   refine⟨Fd,D,vs,yQ,rfl,rfl,s3 _ _ g2,gD,by rw[sizeLine_eq];omega,?_⟩
   refine⟨_,_,⟨vs ++ yQ,q1,q2,?_⟩,rfl⟩
   rw[dI]
   rw[← append_assoc];exact q3
  rintro σ1 H2 ⟨a21,a31,inv2,rfl⟩
  obtain⟨FR,Ux,MW,p2'⟩:=inv2
  have Cj:=(hI.same W Ux).Y
  obtain⟨Uy,gl2,pl2⟩:=Cj.zx
  have PK:Uy.length=st.lanes.length:=Paired.length pl2
  refine⟨_,rfl,a.y,ys.y3,a.dy,_,_,rfl,Cj.ins,Y.cl,Y.n3,rfl,a.la,_,rfl, .inl (y6.of gl2),((Uy.length:Nat):Int),rfl,by omega,by omega,?_⟩
  rw[toNat_natCast,PK]
  refine bW (n:=st.lanes.length) (fun i σ H2=>∃ a2 a3:Option V,(∃ vs,y1 H H2/\H2 Fd=some (.lst vs)/\Paired (zu H2) vs ((((List.range st.U.length).flatMap (gH a st) ++ (List.range st.lanes.length).flatMap (hU a st)) ++ (List.range i).flatMap (eA a st)).map cv))/\σ=[some (.ref a.y),some (.ref Fd),a2,a3]) ?_ ?_ ?_
  ·exact⟨_,_,⟨FR,Ux,MW,by simpa using p2'⟩,rfl⟩
  ·rintro i σ H2 hi ⟨a2,a3,⟨vs,s2,g2,p2⟩,rfl⟩
   rw[zero_add]
   have B7:=hI.same W s2
   refine⟨_,rfl, .inl ⟨rfl,_,y6.of g2⟩,_,rfl,a.y,a.dy,_,rfl,B7.Y.ins,rfl,_,rfl,a,st,i,rfl,B7,hi,fun D yQ H3 s3 hD gD hp=>?_⟩
   have l1:vs.length <= 1000000:=by
    rw[Paired.length p2,length_map]
    have h0:=aX (cW hI.O hI.G) st.U.length
    have h1:=aX (cU (s:=st) hI.O) st.lanes.length
    have h2:=aX (c5 a st) st.lanes.length
    have hh:=aX (c5 a st) i
    try simp only[length_append]
    omega
   have l2:yQ.length <= 1000:=by rw[Paired.length hp,length_map];exact(c5 a st) i
   obtain⟨q1,q2,q3⟩:=iu HF s2 g2 p2 s3 hp
   refine⟨Fd,D,vs,yQ,rfl,rfl,s3 _ _ g2,gD,by rw[sizeLine_eq];omega,?_⟩
   refine⟨_,_,⟨vs ++ yQ,q1,q2,?_⟩,rfl⟩
   rw[dI]
   rw[← append_assoc];exact q3
  rintro σ2 H3 ⟨a22,a32,PL,rfl⟩
  obtain⟨vs3,Uz,g3',p3'⟩:=PL
  have AO:=(hI.same W Uz).Y
  obtain⟨U0,gl3,pl3⟩:=AO.zx
  have PM:U0.length=st.lanes.length:=Paired.length pl3
  refine⟨_,rfl,a.y,ys.y3,a.dy,_,_,rfl,AO.ins,Y.cl,Y.n3,rfl,a.la,_,rfl, .inl (y6.of gl3),((U0.length:Nat):Int),rfl,by omega,by omega,?_⟩
  rw[toNat_natCast,PM]
  refine bW (n:=st.lanes.length) (fun i σ H2=>∃ a2 a3:Option V,(∃ vs,y1 H H2/\H2 Fd=some (.lst vs)/\Paired (zu H2) vs ((((List.range st.U.length).flatMap (gH a st) ++ (List.range st.lanes.length).flatMap (hU a st) ++ (List.range st.lanes.length).flatMap (eA a st)) ++ (List.range i).flatMap (dC st)).map cv))/\σ=[some (.ref a.y),some (.ref Fd),a2,a3]) ?_ ?_ ?_
  ·exact⟨_,_,⟨vs3,Uz,g3',by simpa using p3'⟩,rfl⟩
  ·rintro i σ H2 hi ⟨a2,a3,⟨vs,s2,g2,p2⟩,rfl⟩
   rw[zero_add]
   have B7:=hI.same W s2
   refine⟨_,rfl, .inl ⟨rfl,_,y6.of g2⟩,_,rfl,a.y,a.dy,_,rfl,B7.Y.ins,rfl,_,rfl,a,st,i,rfl,B7,hi,fun D yQ H3 s3 hD gD hp=>?_⟩
   have l1:vs.length <= 1000000:=by
    rw[Paired.length p2,length_map]
    have h0:=aX (cW hI.O hI.G) st.U.length
    have h1:=aX (cU (s:=st) hI.O) st.lanes.length
    have h2:=aX (c5 a st) st.lanes.length
    have hh:=aX (fK st) i
    try simp only[length_append]
    omega
   have l2:yQ.length <= 1000:=by rw[Paired.length hp,length_map];exact(fK st) i
   obtain⟨q1,q2,q3⟩:=iu HF s2 g2 p2 s3 hp
   refine⟨Fd,D,vs,yQ,rfl,rfl,s3 _ _ g2,gD,by rw[sizeLine_eq];omega,?_⟩
   refine⟨_,_,⟨vs ++ yQ,q1,q2,?_⟩,rfl⟩
   rw[dI]
   rw[← append_assoc];exact q3
  rintro σ3 H4 ⟨a23,a33,PN,rfl⟩
  obtain⟨vs,s2,g2,p2⟩:=PN
  exact⟨_,rfl,q Fd vs _ s2 HF g2 p2⟩
structure Kx (K:Frag):Prop where
 ss:kitOne K (.type "str") (.type "str")=some true
 ns:kitOne K (.type "int") (.type "str")=some false
 tt:kitOne K (.type "tuple") (.type "tuple")=some true
theorem gZ {a b:Str}(h:a ≠ b):decide (V.str a=V.str b)=false:=decide_eq_false fun z=>h (by injection z)
theorem iN (a:Str):decide (V.str a=V.str a)=true:=decide_eq_true rfl
noncomputable def rq:Sp:=fun vs H Q _=>∃ (p:Addr)(xs:List V),vs=[.ref p]/\H p=some (.tup xs)/\xs.length <= 100/\(∀ x ∈ xs,(∃ t,x = .str t)∨∃ i,x = .int i)/\∀ H',y1 H H'->Q (.bl true) H'
noncomputable def vw (s:Stmt):Scope:=match s with
 | .Return (some (.BoolOp _ [_, .Call _ [.ListComp _ _ sc _] _ _] _)) _=>sc
 | _=>zQ0
theorem lU (m:Mv):(cv m).length <= 100/\∀ x ∈ cv m,(∃ t,x=V.str t)∨∃ i,x=V.int i:=by
 cases m<;>refine⟨by simp[cv],fun x hx=>?_⟩<;>simp only[cv,mem_cons,not_mem_nil,or_false]at hx
 ·rcases hx with rfl | rfl | rfl
  ·exact .inl ⟨_,rfl⟩
  ·exact .inr ⟨_,rfl⟩
  ·exact .inr ⟨_,rfl⟩
 ·rcases hx with rfl | rfl | rfl
  ·exact .inl ⟨_,rfl⟩
  ·exact .inr ⟨_,rfl⟩
  ·exact .inr ⟨_,rfl⟩
 ·rcases hx with rfl | rfl
  ·exact .inl ⟨_,rfl⟩
  ·exact .inr ⟨_,rfl⟩
 ·rcases hx with rfl | rfl
  ·exact .inl ⟨_,rfl⟩
  ·exact .inr ⟨_,rfl⟩
noncomputable def pf (a:YA)(s:YS):Mv->List Mv
 | .zT k _=>gH a s k
 | .on k _=>hU a s k
 | .AQ k=>eA a s k
 | .back k=>dC s k
noncomputable def vX (s:YS):Mv->Prop
 | .zT k _=>k < s.U.length
 | .on k _=>k < s.lanes.length
 | .AQ k=>k < s.lanes.length
 | .back k=>k < s.lanes.length
noncomputable def rm (K:Frag)(c:Cs)(TC:Addr)(J:TJ)(ys:Ys):Sp:=fun vs H Q _=>∃ (a:YA)(s:YS)(p:Addr)(m:Mv),vs=[.ref a.y, .ref p]/\BG K c TC J ys H a s/\H p=some (.tup (cv m))/\vX s m /\
 ∀ (D:Addr)(yQ:List V)(H':Hp),y1 H H'->H D=none->H' D=some (.lst yQ)->Paired (zu H') yQ ((pf a s m).map cv)->Q (.ref D) H'
theorem PQ:ap ["move"] ["move"] (aj lE):=L2.yW
theorem PR:zP ["move"] (aj lE) (vw ((aM lE).getD 0 (.Pass ⟨0,0,0,0⟩))) [] []:=L2.AN
theorem PU:(["thing"]:List Str).Nodup:=by decide +kernel
theorem uO {f fh:Addr}{fd dh:FuncData}(F:yS K "is_move" "is_move" lE f fd)(T:dJ mg)(Z:Kx K)(mh:mg "is_whole" = some (.ref fh))(kh:keepIn K (.ref fh)=true)(bh:Binds K dh ["value"] [])(G:y2 P w K mg base az 1 fh dh ["value"] fP) :
  y2 P w K mg base az 2 f fd ["move"] rq:=by
 refine F.ok PQ (fun _ _ _ _ h=>?_) (fun _ _ _ s H _ Q E hr h=>?_)
 ·obtain⟨p,xs,rfl,_⟩:=h
  rfl
 ·obtain⟨p,xs,rfl,hp,hl,hx,q⟩:=h
  refine⟨_,ah (ar (cG (au gk rfl T.Hr PyProof.Rows.boot_isinstance (aa (pv 0) (aa (eO (v := .ty "tuple") rfl T.tuple PySem.Pv.boot_tuple rfl) ad)))
   (cF (au (jr rfl) rfl T.all PyProof.Rows.boot_all (aa (bH (own:=["thing"]) (capN:=[]) (cap:=[]) PR rfl (kN (pv 0)) (fun C s' H' fp=>⟨ay (i:=0) PU rfl (Or.inl rfl),ci,
    Io (au (show cE _ (.builtin "isinstance") (Jh K) from gk) rfl T.Hr PyProof.Rows.boot_isinstance (aa (pv 0) (aa (eO (v := .ty "str") rfl T.str PySem.Pv.boot_str rfl) ad))) (cF (av G hr rfl mh kh bh .nil ao (aa (pv 0) ad)))⟩)) ad))))),?_⟩
  refine⟨_,rfl, .ref p,_, "tuple",true,rfl, .tup hp,Z.tt,true,rfl,aK ⟨_,rfl,p,rfl,⟨_,yD.of hp⟩,?_⟩⟩
  refine bZ xs.length (by rw[sizeLine_eq];omega) (fun i acc H'=>H' = H/\acc=(List.replicate i true).map V.bl) ⟨rfl,rfl⟩ (fun i acc H' h=>by rw[h.2];simp) (fun i acc H' hi h=>?_) (fun acc H' h=>?_)
  ·obtain⟨rfl,rfl⟩:=h
   refine⟨⟨xs,xs[i],yD.of hp,getElem?_eq_getElem hi⟩,fun v H2 y=>?_⟩
   obtain⟨rfl,y⟩:=y
   have hv:=y xs (yD.of hp)
   have e:(List.replicate i true).map V.bl ++ [V.bl true]=(List.replicate (i + 1) true).map V.bl:=by rw[List.replicate_succ',map_append];rfl
   rcases hx v (mem_of_getElem? hv) with ⟨t,rfl⟩ | ⟨z,rfl⟩
   ·exact⟨_,rfl, .str t,_, "str",true,rfl, .str t,Z.ss,true,rfl,aK ⟨rfl,e⟩⟩
   ·exact⟨_,rfl, .int z,_, "str",false,rfl, .int z,Z.ns,false,rfl,aF ⟨_,rfl, .int z,rfl, .int z,rfl,e⟩⟩
  ·obtain⟨rfl,rfl⟩:=h
   refine⟨⟨xs,yD.of hp,le_refl _⟩,fun D hD=>⟨D,List.replicate xs.length true,rfl,y6.of ac,?_⟩⟩
   have e:(List.replicate xs.length true).all id=true:=by rw[all_eq_true];intro b hb;rw[eq_of_mem_replicate hb];rfl
   rw[e]
   exact q _ ((y1.refl H').new hD)
theorem PV:ap ["self", "move"] ["self", "move"] (aj rP):=L2.yW
theorem uN {c:Cs}{ys:Ys}{J:TJ}{TC f fw fi fo fl fb fm fn:Addr}{fd dw di Bs dl db dm dn:FuncData}(F:yS K "moves_like" "Yard.moves_like" rP f fd)(T:dJ mg)(Y:eU K ys)(W:Wy K TC fw dw J)(M:PD P w K mg base c TC J ys fi fo fl fb di Bs dl db)
  (mm:mg "is_move" = some (.ref fm)) (km:keepIn K (.ref fm)=true) (bm:Binds K dm ["move"] []) (Gm:y2 P w K mg base az 2 fm dm ["move"] rq)
  (mn:mg "is_within" = some (.ref fn)) (kn:keepIn K (.ref fn)=true) (bn:Binds K dn ["value", "least", "most"] []) (Gn:y2 P w K mg base az 2 fn dn ["value", "least", "most"] eH) :
  y2 P w K mg base az 7 f fd ["self", "move"] (rm K c TC J ys):=by
 refine F.ok PV (fun _ _ _ _ h=>?_) (fun _ _ _ s H _ Q E hr h=>?_)
 ·obtain⟨a,s,p,m,rfl,_⟩:=h
  rfl
 ·obtain⟨a,st,p,m,rfl,hI,hp,yE,q⟩:=h
  have zi:yC 1 _:=hr.mono (by decide)
  have zV:yC 2 _:=hr.mono (by decide)
  have BR:yC 4 _:=hr.mono (by decide)
  refine⟨_,ae (aP (ga (PW.pt (iT (ck (bD (av Gm zV rfl mm km bm .nil ao (aa (pv 1) ad)))) (fH (ax jD (au aq rfl T.len PySem.boot_len (aa (pv 1) ad)) ai (aB _)))))) (ah (ar (aU ad))) aD)
   (ae (aP (ax bN (aC aE (pv 1) ai (fun _ _=>rfl)) bP (aB _))
    (ah (ar (cR (bD (av Gn zV rfl mn kn bn .nil ao (aa (aC aE (pv 1) ai (fun _ _=>rfl)) (aa ai (aa (aA cT (au aq rfl T.len PySem.boot_len (aa (al (pv 0) rfl) ad)) ai) ad)))))
     (aH (pv 0) Y.cl M.mi M.Gi BR M.bi .nil ao (aa (aC aE (pv 1) ai (fun _ _=>rfl)) ad)) (aU ad)))) aD)
   (ae (aP (ck (bD (av Gn zV rfl mn kn bn .nil ao (aa (aC aE (pv 1) ai (fun _ _=>rfl)) (aa ai (aa (aA cT (au aq rfl T.len PySem.boot_len (aa (al (pv 0) rfl) ad)) ai) ad)))))) (ah (ar (aU ad))) aD)
   (ae (aP (ax bN (aC aE (pv 1) ai (fun _ _=>rfl)) bP (aB _)) (ah (ar (aH (pv 0) Y.cl M.mo M.Go hr M.bo .nil ao (aa (aC aE (pv 1) ai (fun _ _=>rfl)) ad)))) aD)
   (ae (aP (ax bN (aC aE (pv 1) ai (fun _ _=>rfl)) bP (aB _)) (ah (ar (aH (pv 0) Y.cl M.ml M.Gl zV M.bl .nil ao (aa (aC aE (pv 1) ai (fun _ _=>rfl)) ad)))) aD)
   (ah (ar (cR (ax bN (aC aE (pv 1) ai (fun _ _=>rfl)) bP (aB _)) (aH (pv 0) Y.cl M.mb M.Gb zi M.bb .nil ao (aa (aC aE (pv 1) ai (fun _ _=>rfl)) ad)) (aU ad)))))))),?_⟩
  refine⟨fun b H1=>b=false/\y1 H H1,?_,?_⟩
  ·refine⟨_,rfl,p,cv m,rfl,hp,(lU m).1,(lU m).2,fun H1 s1=>⟨_,rfl,aF ?_⟩⟩
   refine⟨_,rfl,p,_,rfl, .inr (yD.of (s1 _ _ hp)),_,_,rfl,rfl,_,rfl,?_,s1⟩
   cases m<;>rfl
  rintro b H1 ⟨rfl,s1⟩
  refine aF ?_
  have Bm:=hI.same W s1
  have yY:=s1 _ _ hp
  have q1:∀ (D:Addr)(yQ:List V)(H':Hp),y1 H1 H'->H1 D=none->H' D=some (.lst yQ)->Paired (zu H') yQ ((pf a st m).map cv)->Q (.ref D) H':=fun D yQ H' s' hD g' CA=>q D yQ H' (s1.trans s') (s1.free hD) g' CA
  have hY:=Bm.Y
  obtain⟨yH,zB,ple⟩:=hY.hle
  have hle:yH.length=st.U.length:=Paired.length ple
  obtain⟨yB,zm,CD⟩:=hY.zx
  have zx:yB.length=st.lanes.length:=Paired.length CD
  clear s1 q hp hI
  have inl:∀ k:Nat,k < st.lanes.length->jE (.int k) 0 (((yB.length:Nat):Int) - 1)=true:=fun k hk=>decide_eq_true (by omega)
  cases m with
  | zT k l =>
   have yY:H1 p=some (.tup [.str "in", .int k, .int l]):=yY
   have yE:k < st.U.length:=yE
   refine⟨_,rfl,p,_,0,_,rfl,rfl,yD.of yY,ak (j:=0) rfl,rfl,_,rfl,?_⟩
   rw[iN]
   refine aK ⟨_,rfl,p,_,1,_,rfl,rfl,yD.of yY,ak (j:=1) rfl,_,rfl,a.y,ys.y3,a.dy,_,_,rfl,hY.ins,Y.cl,Y.n4,rfl,a.le,_,rfl, .inl (y6.of zB),_,_,rfl,rfl, .int k,0,((yH.length:Nat):Int) - 1,rfl, .int _,_,rfl,?_⟩
   rw[show jE (.int k) 0 (((yH.length:Nat):Int) - 1)=true from decide_eq_true (by omega)]
   exact aK ⟨_,rfl,a.y,a.dy,_,rfl,hY.ins,rfl,_,rfl,p,_,1,_,rfl,rfl,yD.of yY,ak (j:=1) rfl,a,st,k,rfl,Bm,yE,fun D yQ H' s' hD g' CA=>q1 D yQ H' s' hD g' CA⟩
  | on k l =>
   have yY:H1 p=some (.tup [.str "on", .int k, .int l]):=yY
   have yE:k < st.lanes.length:=yE
   refine⟨_,rfl,p,_,0,_,rfl,rfl,yD.of yY,ak (j:=0) rfl,rfl,_,rfl,?_⟩
   rw[gZ (by decide +kernel)]
   refine aF ⟨_,rfl,p,_,1,_,rfl,rfl,yD.of yY,ak (j:=1) rfl,_,rfl,a.y,ys.y3,a.dy,_,_,rfl,hY.ins,Y.cl,Y.n3,rfl,a.la,_,rfl, .inl (y6.of zm),_,_,rfl,rfl, .int k,0,((yB.length:Nat):Int) - 1,rfl, .int _,_,rfl,?_⟩
   rw[inl k yE]
   refine aF ⟨_,rfl,p,_,0,_,rfl,rfl,yD.of yY,ak (j:=0) rfl,rfl,_,rfl,?_⟩
   rw[iN]
   exact aK ⟨_,rfl,a.y,a.dy,_,rfl,hY.ins,rfl,_,rfl,p,_,1,_,rfl,rfl,yD.of yY,ak (j:=1) rfl,a,st,k,rfl,Bm,yE,fun D yQ H' s' hD g' CA=>q1 D yQ H' s' hD g' CA⟩
  | AQ k =>
   have yY:H1 p=some (.tup [.str "lie", .int k]):=yY
   have yE:k < st.lanes.length:=yE
   refine⟨_,rfl,p,_,0,_,rfl,rfl,yD.of yY,ak (j:=0) rfl,rfl,_,rfl,?_⟩
   rw[gZ (by decide +kernel)]
   refine aF ⟨_,rfl,p,_,1,_,rfl,rfl,yD.of yY,ak (j:=1) rfl,_,rfl,a.y,ys.y3,a.dy,_,_,rfl,hY.ins,Y.cl,Y.n3,rfl,a.la,_,rfl, .inl (y6.of zm),_,_,rfl,rfl, .int k,0,((yB.length:Nat):Int) - 1,rfl, .int _,_,rfl,?_⟩
   rw[inl k yE]
   refine aF ⟨_,rfl,p,_,0,_,rfl,rfl,yD.of yY,ak (j:=0) rfl,rfl,_,rfl,?_⟩
   rw[gZ (by decide +kernel)]
   refine aF ⟨_,rfl,p,_,0,_,rfl,rfl,yD.of yY,ak (j:=0) rfl,rfl,_,rfl,?_⟩
   rw[iN]
   exact aK ⟨_,rfl,a.y,a.dy,_,rfl,hY.ins,rfl,_,rfl,p,_,1,_,rfl,rfl,yD.of yY,ak (j:=1) rfl,a,st,k,rfl,Bm,yE,fun D yQ H' s' hD g' CA=>q1 D yQ H' s' hD g' CA⟩
  | back k =>
   have yY:H1 p=some (.tup [.str "back", .int k]):=yY
   have yE:k < st.lanes.length:=yE
   refine⟨_,rfl,p,_,0,_,rfl,rfl,yD.of yY,ak (j:=0) rfl,rfl,_,rfl,?_⟩
   rw[gZ (by decide +kernel)]
   refine aF ⟨_,rfl,p,_,1,_,rfl,rfl,yD.of yY,ak (j:=1) rfl,_,rfl,a.y,ys.y3,a.dy,_,_,rfl,hY.ins,Y.cl,Y.n3,rfl,a.la,_,rfl, .inl (y6.of zm),_,_,rfl,rfl, .int k,0,((yB.length:Nat):Int) - 1,rfl, .int _,_,rfl,?_⟩
   rw[inl k yE]
   refine aF ⟨_,rfl,p,_,0,_,rfl,rfl,yD.of yY,ak (j:=0) rfl,rfl,_,rfl,?_⟩
   rw[gZ (by decide +kernel)]
   refine aF ⟨_,rfl,p,_,0,_,rfl,rfl,yD.of yY,ak (j:=0) rfl,rfl,_,rfl,?_⟩
   rw[gZ (by decide +kernel)]
   refine aF ⟨_,rfl,p,_,0,_,rfl,rfl,yD.of yY,ak (j:=0) rfl,rfl,_,rfl,?_⟩
   rw[iN]
   exact aK ⟨_,rfl,a.y,a.dy,_,rfl,hY.ins,rfl,_,rfl,p,_,1,_,rfl,rfl,yD.of yY,ak (j:=1) rfl,a,st,k,rfl,Bm,yE,fun D yQ H' s' hD g' CA=>q1 D yQ H' s' hD g' CA⟩
noncomputable def c4 (ln:cy):cy:={ ln with b:=ln.b + 1,qs:=ln.qs.tail }
noncomputable def vV (ln:cy):cy:={ ln with r:=ln.r + 1,b:=ln.b - 1 }
inductive zS (a:YA)(s:YS):Mv->YS->Prop
 | zT {k l:Nat} {t:cp} {ln:cy} (ht:s.U[k]? = some t) (hg:t.gone ≠ t.len) (hl:l ∈ cX a t) (yZ:s.lanes[l]? = some ln) (ho:cz ln.r ln.h k t.gone=true) :
  zS a s (.zT k l) (dD (gU s k t) k t.gone l { t with gone:=t.gone + 1 } ln)
 | on {k l m:Nat} {c:Int} {lk ln:cy} {t:cp} (hk:s.lanes[k]? = some lk) (hq:lk.qs.head? = some ((m:Int),c)) (ht:s.U[m]? = some t) (hl:l ∈ cZ a s k) (yZ:(s.lanes.set k (c4 lk))[l]? = some ln) (ho:cz ln.r ln.h m c=true) :
  zS a s (.on k l) (dD { s with lanes:=s.lanes.set k (c4 lk) } m c l t ln)
 | AQ {k m e:Nat} {c:Int} {lk:cy} {t:cp} {qs:List (Int × Int)} (hk:s.lanes[k]? = some lk) (hq:lk.qs.head? = some ((m:Int),c)) (ht:s.U[m]? = some t) (hg:t.goal=(e:Int)) (he:(a.ps.getD k (0,0)).2=(e:Int)) (Ap:s.lies[e]? = some qs) :
  zS a s (.AQ k) { s with lanes:=s.lanes.set k (c4 lk),lies:=s.lies.set e (qs ++ [((m:Int),c)]) }
 | back {k:Nat} {lk:cy} (hk:s.lanes[k]? = some lk) (hb:0 < lk.b):zS a s (.back k) { s with lanes:=s.lanes.set k (vV lk) }
theorem zS.done {a:YA}{s s':YS}{m:Mv}(h:zS a s m s'):s'.done=s.done:=by
 cases h<;>rfl
structure U1 (s:YS):Prop where
 q:∀ (k:Nat)(ln:cy),s.lanes[k]? = some ln->ln.qs.length <= 10000
 l:∀ (p:Nat)(qs:List (Int × Int)),s.lies[p]? = some qs->qs.length <= 10000
 d:s.done.length <= 100000
theorem ja {s:YS}{l:Nat}{m c:Int}(h:eZ s l m c=true):∃ ln,s.lanes[l]? = some ln/\cz ln.r ln.h m c=true:=by
 unfold eZ at h
 cases hl:s.lanes[l]? with
 | none=>rw[hl]at h;cases h
 | some ln=>rw[hl]at h;exact⟨ln,rfl,h⟩
theorem sV {a:YA}{s:YS}{k:Nat}{m:Mv}(h:m ∈ gH a s k):∃ l t ln,m = .zT k l/\s.U[k]? = some t/\t.gone ≠ t.len/\l ∈ cX a t/\s.lanes[l]? = some ln/\cz ln.r ln.h k t.gone=true:=by
 unfold gH at h
 cases ht:s.U[k]? with
 | none=>rw[ht]at h;cases h
 | some t =>
  rw[ht]at h
  dsimp only at h
  by_cases hg:t.gone=t.len
  ·rw[if_pos hg]at h;cases h
  rw[if_neg hg]at h
  obtain⟨l,hl,rfl⟩:=mem_map.mp h
  obtain⟨h1,h2⟩:=mem_filter.mp hl
  obtain⟨ln,h3,h4⟩:=ja h2
  exact⟨l,t,ln,rfl,rfl,hg,h1,h3,h4⟩
theorem sU {a:YA}{s:YS}{k:Nat}{m:Mv}(h:m ∈ hU a s k):∃ l q lk ln,m = .on k l/\s.lanes[k]? = some lk/\lk.qs.head? = some q/\l ∈ cZ a s k/\s.lanes[l]? = some ln/\cz ln.r ln.h q.1 q.2=true:=by
 unfold hU at h
 cases hq:cb s k with
 | none=>rw[hq]at h;cases h
 | some q =>
  rw[hq]at h
  dsimp only at h
  obtain⟨l,hl,rfl⟩:=mem_map.mp h
  obtain⟨h1,h2⟩:=mem_filter.mp hl
  obtain⟨ln,h3,h4⟩:=ja h2
  unfold cb at hq
  cases hk:s.lanes[k]? with
  | none=>rw[hk]at hq;cases hq
  | some lk=>rw[hk]at hq;exact⟨l,q,lk,ln,rfl,rfl,hq,h1,h3,h4⟩
theorem pc {a:YA}{s:YS}{k:Nat}{m:Mv}(h:m ∈ eA a s k):∃ q lk t,m = .AQ k/\s.lanes[k]? = some lk/\lk.qs.head? = some q/\s.U[q.1.toNat]? = some t/\t.goal=(a.ps.getD k (0,0)).2:=by
 unfold eA at h
 cases hq:cb s k with
 | none=>rw[hq]at h;cases h
 | some q =>
  rw[hq]at h
  dsimp only at h
  cases ht:s.U[q.1.toNat]? with
  | none=>rw[ht]at h;cases h
  | some t =>
   rw[ht]at h
   dsimp only at h
   by_cases hg:t.goal=(a.ps.getD k (0,0)).2
   ·rw[if_pos hg]at h
    have hm:m = .AQ k:=by simpa using h
    unfold cb at hq
    cases hk:s.lanes[k]? with
    | none=>rw[hk]at hq;cases hq
    | some lk=>rw[hk]at hq;exact⟨q,lk,t,hm,rfl,hq,ht,hg⟩
   ·rw[if_neg hg]at h;cases h
theorem lW {s:YS}{k:Nat}{m:Mv}(h:m ∈ dC s k):∃ lk,m = .back k/\s.lanes[k]? = some lk/\0 < lk.b:=by
 unfold dC at h
 cases hk:s.lanes[k]? with
 | none=>rw[hk]at h;cases h
 | some lk =>
  rw[hk]at h
  dsimp only at h
  by_cases hb:0 < lk.b
  ·rw[if_pos hb]at h;exact⟨lk,by simpa using h,rfl,hb⟩
  ·rw[if_neg hb]at h;cases h
theorem qo {a:YA}{s:YS}{m:Mv}(h:m ∈ aI a s):vX s m/\m ∈ pf a s m:=by
 unfold aI at h
 rw[mem_append,mem_append,mem_append]at h
 rcases h with ((h | h) | h) | h
 ·obtain⟨k,hk,h⟩:=mem_flatMap.mp h
  obtain⟨l,t,ln,rfl,_⟩:=sV h
  exact⟨mem_range.mp hk,h⟩
 ·obtain⟨k,hk,h⟩:=mem_flatMap.mp h
  obtain⟨l,q,lk,ln,rfl,_⟩:=sU h
  exact⟨mem_range.mp hk,h⟩
 ·obtain⟨k,hk,h⟩:=mem_flatMap.mp h
  obtain⟨q,lk,t,rfl,_⟩:=pc h
  exact⟨mem_range.mp hk,h⟩
 ·obtain⟨k,hk,h⟩:=mem_flatMap.mp h
  obtain⟨lk,rfl,_⟩:=lW h
  exact⟨mem_range.mp hk,h⟩
noncomputable def qK:Mv->PyData
 | .zT k l => .tuple [.str "in", .int k, .int l]
 | .on k l => .tuple [.str "on", .int k, .int l]
 | .AQ k => .tuple [.str "lie", .int k]
 | .back k => .tuple [.str "back", .int k]
theorem dO {x:Str}(h:PyData.strOk x=true):AW (.str x) 0:=⟨by simp[PyData.canLay0,h],by simp[PyData.depth]⟩
theorem iI (m:Mv):AW (qK m) 1:=by
 cases m<;>refine eJ (m:=0) fun y hy=>?_<;>simp only[mem_cons,not_mem_nil,or_false]at hy
 ·rcases hy with rfl | rfl | rfl
  ·exact dO (by decide +kernel)
  ·exact eK _
  ·exact eK _
 ·rcases hy with rfl | rfl | rfl
  ·exact dO (by decide +kernel)
  ·exact eK _
  ·exact eK _
 ·rcases hy with rfl | rfl
  ·exact dO (by decide +kernel)
  ·exact eK _
 ·rcases hy with rfl | rfl
  ·exact dO (by decide +kernel)
  ·exact eK _
theorem tM {K:Frag}{H:Hp}{p:Addr}(m:Mv)(h:H p=some (.tup (cv m))):Den K H (.ref p) (qK m):=by
 cases m<;>refine .tup (yD.of h) ?_
 ·exact .cons (.str _) (.cons (.int _) (.cons (.int _) .nil))
 ·exact .cons (.str _) (.cons (.int _) (.cons (.int _) .nil))
 ·exact .cons (.str _) (.cons (.int _) .nil)
 ·exact .cons (.str _) (.cons (.int _) .nil)
theorem eT {K:Frag}{H:Hp}:∀ {vs:List V}{ms:List Mv},Paired (zu H) vs (ms.map cv)->zU K H vs (ms.map qK)
 | [],[],_ => .nil
 | _ :: _,m :: ms, .cons ⟨t,e,h⟩ r=>by subst e;exact .cons (tM m h) (eT r)
 | [],_ :: _,h=>by cases h
 | _ :: _,[],h=>by cases h
theorem yp {m:Mv}{ms:List Mv}(h:m ∈ ms):((ms.map qK).any fun y=>PyData.eqv y (qK m))=true:=by
 rw[List.any_eq_true]
 exact⟨qK m,mem_map.mpr ⟨m,h,rfl⟩,SeqAt.eqv_refl _ (iI m).1⟩
noncomputable def uf (K:Frag)(c:Cs)(TC:Addr)(J:TJ)(ys:Ys):Sp:=fun vs H Q _=>∃ (a:YA)(s:YS)(p:Addr)(m:Mv),vs=[.ref a.y, .ref p]/\BG K c TC J ys H a s/\H p=some (.tup (cv m))/\m ∈ aI a s/\U1 s /\
 ∀ (H':Hp)(s':YS),zS a s m s'->yG a.four H H'->za K ys H' a { s' with done:=s.done ++ [cv m] }->Q .yK H'
structure U2 (P:Program)(w:World)(K:Frag)(mg:Str->Option Value)(base:Heap)(c:Cs)(TC:Addr)(J:TJ)(ys:Ys)(fk fg fe fp fb fy:Addr)(dk dg de dp db dy:FuncData):Prop where
 mk':bB K ys.y3 "moves_like" fk
 bk:Binds K dk ["self", "move"] []
 Gk:y2 P w K mg base az 7 fk dk ["self", "move"] (rm K c TC J ys)
 PX:bB K ys.y3 "go_in" fg
 bg:Binds K dg ["self", "number", "lane"] []
 Gg:y2 P w K mg base az 6 fg dg ["self", "number", "lane"] (rA K ys)
 me:bB K ys.y3 "enter" fe
 be:Binds K de ["self", "piece", "lane"] []
 Ge:y2 P w K mg base az 5 fe de ["self", "piece", "lane"] (kz K ys)
 mp:bB K ys.yO "pull" fp
 bp:Binds K dp ["self"] []
 Gp:y2 P w K mg base az 1 fp dp ["self"] (nh ys.yO)
 mb:bB K ys.yO "bring" fb
 bb:Binds K db ["self"] []
 Gb:y2 P w K mg base az 1 fb db ["self"] (oS ys.yO)
 my:bB K ys.y3 "lay" fy
 PY:Binds K dy ["self", "piece", "place"] []
 Gy:y2 P w K mg base az 1 fy dy ["self", "piece", "place"] (vR K ys)
theorem PZ:ap ["self", "move"] ["self", "move"] (aj OP):=L2.yW
theorem Ky {c:Cs}{ys:Ys}{J:TJ}{TC f fw fl ft fpu fk fg fe fp fb fy U3:Addr}{fd dw dl dt dpu dk dg de dp db dy den:FuncData}(F:yS K "do" "Yard.do" OP f fd)(Y:eU K ys)(L:qL K c)(W:Wy K TC fw dw J)(O:Own P w K mg base ys fl ft fpu dl dt dpu)
  (D:U2 P w K mg base c TC J ys fk fg fe fp fb fy dk dg de dp db dy) (Me:vC K c U3 den) (Gen:y2 P w K mg base az 1 U3 den ["self", "lane"] (ug c Prod.snd)) :
  y2 P w K mg base az 8 f fd ["self", "move"] (uf K c TC J ys):=by
 refine F.ok PZ (fun _ _ _ _ h=>?_) (fun _ _ _ s H _ Q E hr h=>?_)
 ·obtain⟨a,s,p,m,rfl,_⟩:=h
  rfl
 ·obtain⟨a,st,p,m,rfl,hI,hp,hm,hS,q⟩:=h
  have hu:=hr.units
  have zi:yC 1 _:=hr.mono (by decide)
  have BR:yC 4 _:=hr.mono (by decide)
  have Gj:yC 5 _:=hr.mono (by decide)
  have Qa:yC 6 _:=hr.mono (by decide)
  refine⟨_,ae (aP (ax (qb hu) (pv 1) (aH (pv 0) Y.cl D.mk' D.Gk hr D.bk .nil ao (aa (pv 1) ad)) (by with_unfolding_all rfl)) (ah bJ) aD)
   (ae (ip (aP (ax bN (aC aE (pv 1) ai (fun _ _=>rfl)) bP (aB _))
    (ah (aL (aH (pv 0) Y.cl D.PX D.Gg Qa D.bg .nil ao (aa (aC aE (pv 1) ai (fun _ _=>rfl)) (aa (aC aE (pv 1) ai (fun _ _=>rfl)) ad)))))
    (ah (aP (ax bN (aC aE (pv 1) ai (fun _ _=>rfl)) bP (aB _))
     (ah (aL (aH (pv 0) Y.cl D.me D.Ge Gj D.be .nil ao (aa (aO (aH (pv 0) Y.cl O.ml O.Gl BR O.bl .nil ao (aa (aC aE (pv 1) ai (fun _ _=>rfl)) ad)) Y.L.cl D.mp D.Gp zi D.bp .nil ao) (aa (aC aE (pv 1) ai (fun _ _=>rfl)) ad)))))
     (ah (aP (ax bN (aC aE (pv 1) ai (fun _ _=>rfl)) bP (aB _))
      (ah (aL (aH (pv 0) Y.cl D.my D.Gy zi D.PY .nil ao (aa (aO (aH (pv 0) Y.cl O.ml O.Gl BR O.bl .nil ao (aa (aC aE (pv 1) ai (fun _ _=>rfl)) ad)) Y.L.cl D.mp D.Gp zi D.bp .nil ao) (aa (aH (al (al (pv 0) rfl) rfl) L.cl Me.m Gen zi Me.b .nil ao (aa (aC aE (pv 1) ai (fun _ _=>rfl)) ad)) ad)))))
      (ah (aL (aO (aH (pv 0) Y.cl O.ml O.Gl BR O.bl .nil ao (aa (aC aE (pv 1) ai (fun _ _=>rfl)) ad)) Y.L.cl D.mb D.Gb zi D.bb .nil ao)))))))))
   (ah (aL (bV plainAttrs_list PySem.F.slot_list_append PySem.F.type_list_append aV (al (pv 0) rfl) (aa (pv 1) ad))))),?_⟩
  obtain⟨yE,Kz⟩:=qo hm
  refine⟨_,rfl,_,rfl,a.y,a.dy,_,rfl,hI.Y.ins,rfl,_,rfl,a,st,p,m,rfl,hI,hp,yE,fun Dl yQ H1 s1 hDl gDl BQ=>?_⟩
  refine⟨Dl,yQ,qK m,(pf a st m).map qK,rfl,tM m (s1 _ _ hp),y6.of gDl,eT BQ,(iI m).le (by decide),fun z hz=>by obtain⟨m',_,rfl⟩:=mem_map.mp hz;exact(iI m').le (by decide),_,rfl,?_⟩
  rw[yp Kz]
  refine aF ?_
  have Bm:=hI.same W s1
  have yY:=s1 _ _ hp
  have hY:=Bm.Y
  refine⟨fun σ' H'=>σ' = start ["self", "move"] [.ref a.y, .ref p]/\∃ s',zS a st m s'/\yG a.four H1 H'/\za K ys H' a s',?_,?_⟩
  ·
   have Dn:∀ (k:Nat)(lk:cy)(pq:Int × Int),st.lanes[k]? = some lk->lk.qs.head? = some pq->∀ (yB:List V),H1 a.la=some (.lst yB)->∀ (x dx pa:Addr)(yJ:List V)(H2:Hp),yG [a.la] H1 H2->H1 x=none->H1 pa=none->H2 a.la=some (.lst (yB.set k (.ref x)))->yP H2 ys.yO x dx pa lk.r lk.b lk.h yJ lk.qs ->
     ∀ (Q':VK)(E':XK),(∀ (v:V)(H3:Hp),vA H3 v pq->yG [a.la] H1 H3->za K ys H3 a { st with lanes:=st.lanes.set k (c4 lk) }->Q' v H3)->nh ys.yO [.ref x] H2 Q' E':=by
    intro k lk pq hk hq yB zm x dx pa yJ H2 o2 nx np g2 Ay Q' E' hQ
    refine⟨x,dx,pa,lk.r,lk.b,lk.h,yJ,lk.qs,rfl,Ay,fun e0=>?_,fun v rest ev H3 o3 De=>?_⟩
    ·exfalso
     have hl:=Paired.length Ay.zw
     rw[e0]at hl
     cases Ap:lk.qs with
     | nil=>rw[Ap]at hq;cases hq
     | cons _ _=>rw[Ap]at hl;cases hl
    ·have o4:yG [a.la] H1 H3:=fun b o nb e=>o3 b o (ag e nx) (ag e np) (o2 b o nb e)
     refine hQ v H3 ?_ o4 (za.Bl hY zm o4 (k:=k) (x:=x) (dx:=dx) (pa:=pa) (o3 _ _ (ag zm nx) (ag zm np) g2) (ln:=c4 lk) De np)
     have hz:=zQ.CB o3 Ay.ins Ay.lst Ay.zw
     rw[ev]at hz
     cases Ap:lk.qs with
     | nil=>rw[Ap]at hq;cases hq
     | cons q0 r0 =>
      rw[Ap]at hq hz
      cases hq
      cases hz with
      | cons z _=>exact z
   obtain⟨yB,zm,CD⟩:=hY.zx
   have p3:∀ {H3:Hp}{ex:List Addr}{xs:List V},H1 p=some (.tup xs)->yG ex H1 H3->(∀ b ∈ ex,b ∈ a.four)->H3 p=some (.tup xs):=fun h o he=>o _ _ (fun z=>by obtain⟨xs,hz⟩:=hY.AD _ (he _ z);rw[h]at hz;cases hz) h
   cases m with
   | zT k l =>
    have yY:H1 p=some (.tup [.str "in", .int k, .int l]):=yY
    obtain⟨l',t,ln,e0,ht,hg,hl,yZ,ho⟩:=sV (show Mv.zT k l ∈ gH a st k from Kz)
    cases e0
    refine⟨_,rfl,p,_,0,_,rfl,rfl,yD.of yY,ak (j:=0) rfl,rfl,_,rfl,?_⟩
    rw[iN]
    refine aK ⟨_,rfl,a.y,a.dy,_,rfl,hY.ins,rfl,_,rfl,p,_,1,_,rfl,rfl,yD.of yY,ak (j:=1) rfl,_,rfl,p,_,2,_,rfl,rfl,yD.of yY,ak (j:=2) rfl,a,st,k,l,t,ln,rfl,hY,ht,yZ,ho,(hI.G.zy k t ht).2,lt_of_le_of_lt (hS.q l ln yZ) (by decide),fun H' o' FP=>⟨rfl,_,zS.zT ht hg hl yZ ho,o'.mono (by simp),FP⟩⟩
   | on k l =>
    have yY:H1 p=some (.tup [.str "on", .int k, .int l]):=yY
    obtain⟨l',pq,lk,ln,e0,hk,hq,hl,yZ,ho⟩:=sU (show Mv.on k l ∈ hU a st k from Kz)
    cases e0
    obtain⟨m,t,em,ht,FY⟩:=hI.G.zw k lk hk pq (mem_of_head? hq)
    obtain⟨m0,cq⟩:=pq
    have em:m0=(m:Int):=em
    subst em
    refine⟨_,rfl,p,_,0,_,rfl,rfl,yD.of yY,ak (j:=0) rfl,rfl,_,rfl,?_⟩
    rw[gZ (by decide +kernel)]
    refine aF ⟨_,rfl,p,_,0,_,rfl,rfl,yD.of yY,ak (j:=0) rfl,rfl,_,rfl,?_⟩
    rw[iN]
    refine aK ⟨_,rfl,a.y,a.dy,_,rfl,hY.ins,rfl,_,rfl,a.y,a.dy,_,rfl,hY.ins,rfl,_,rfl,p,_,1,_,rfl,rfl,yD.of yY,ak (j:=1) rfl,a,st,k,lk,yB,rfl,hY,hk,zm,fun x dx pa yJ H2 o2 nx np g2 Ay=>⟨x,dx,_,rfl,Ay.ins,rfl,Dn k lk _ hk hq yB zm x dx pa yJ H2 o2 nx np g2 Ay _ (fun _ _ _=>False) fun v H3 hv o3 AO=>?_⟩⟩
    have Ht:=p3 yY o3 (by simp)
    have AY:k < st.lanes.length:=(gQ0 hk)
    obtain⟨ln2,K0,er,eh,eq⟩:∃ ln2,(st.lanes.set k (c4 lk))[l]? = some ln2/\ln2.r=ln.r/\ln2.h=ln.h/\ln2.qs.length <= 10000:=by
     by_cases K1:k=l
     ·subst K1
      rw[hk]at yZ
      cases yZ
      refine⟨c4 lk,by simp[AY],rfl,rfl,?_⟩
      have:=hS.q k lk hk
      show lk.qs.tail.length <= 10000
      rw[List.length_tail];omega
     ·exact⟨ln,by rw[getElem?_set_ne K1];exact yZ,rfl,rfl,hS.q l ln yZ⟩
    have zO:cz ln2.r ln2.h m cq=true:=by rw[er,eh];exact ho
    refine⟨_,rfl,p,_,2,_,rfl,rfl,yD.of Ht,ak (j:=2) rfl,a,{ st with lanes:=st.lanes.set k (c4 lk) },v,m,cq,l,t,ln2,rfl,AO,hv,ht,K0,zO,(hI.G.zy m t ht).2,lt_of_le_of_lt eq (by decide),fun H' o' FP=>⟨rfl,_,zS.on hk hq ht hl K0 zO,(o3.mono (by simp)).trans (o'.mono (by simp)),FP⟩⟩
   | AQ k =>
    have yY:H1 p=some (.tup [.str "lie", .int k]):=yY
    obtain⟨pq,lk,t0,e0,hk,hq,EX,hg⟩:=pc (show Mv.AQ k ∈ eA a st k from Kz)
    obtain⟨m,t,em,ht,FY⟩:=hI.G.zw k lk hk pq (mem_of_head? hq)
    obtain⟨m0,cq⟩:=pq
    have em:m0=(m:Int):=em
    subst em
    have EX:st.U[m]? = some t0:=by rw[← EX];rfl
    rw[ht]at EX
    cases EX
    have AY:k < st.lanes.length:=(gQ0 hk)
    have HE:k < a.ps.length:=by rw[← hI.G.lanes];exact AY
    have he:=getElem?_eq_getElem HE
    have EZ:a.ps.getD k (0,0)=a.ps[k]:=by rw[getD_eq_getElem?_getD,he];rfl
    obtain⟨e,ee,Kt⟩:=hI.O.ends k _ he
    rw[EZ,ee]at hg
    have U4:e < st.lies.length:=by rw[hI.G.lies];exact Kt
    have Ap:=getElem?_eq_getElem U4
    refine⟨_,rfl,p,_,0,_,rfl,rfl,yD.of yY,ak (j:=0) rfl,rfl,_,rfl,?_⟩
    rw[gZ (by decide +kernel)]
    refine aF ⟨_,rfl,p,_,0,_,rfl,rfl,yD.of yY,ak (j:=0) rfl,rfl,_,rfl,?_⟩
    rw[gZ (by decide +kernel)]
    refine aF ⟨_,rfl,p,_,0,_,rfl,rfl,yD.of yY,ak (j:=0) rfl,rfl,_,rfl,?_⟩
    rw[iN]
    refine aK ⟨_,rfl,a.y,a.dy,_,rfl,hY.ins,rfl,_,rfl,a.y,a.dy,_,rfl,hY.ins,rfl,_,rfl,p,_,1,_,rfl,rfl,yD.of yY,ak (j:=1) rfl,a,st,k,lk,yB,rfl,hY,hk,zm,fun x dx pa yJ H2 o2 nx np g2 Ay=>⟨x,dx,_,rfl,Ay.ins,rfl,Dn k lk _ hk hq yB zm x dx pa yJ H2 o2 nx np g2 Ay _ (fun _ _ _=>False) fun v H3 hv o3 AO=>?_⟩⟩
    have Ht:=p3 yY o3 (by simp)
    have DY:v6 c TC J H3 a:=zj.keep W Bm.T (yG.yF (fun b hb=>by simp at hb;subst hb;exact⟨_,zm⟩) o3)
    obtain⟨C0,fst,Cg,zA,AE⟩:=DY.i
    refine⟨_,rfl,a.y,ys.y3,a.dy,_,_,rfl,AO.ins,Y.cl,Y.n1,rfl,a.tb,TC,C0,fst,_,rfl,Cg,W.cl,W.nl,zA,a.lx,a.zb,_,rfl,DY.l.1,rfl,_,rfl,p,_,1,_,rfl,rfl,yD.of Ht,ak (j:=1) rfl,a.lx,a.zb,a.lt,(a.n:Int),a.yH,a.ps,k,_,rfl,DY.l,he,?_⟩
    rw[ee]
    exact⟨a,{ st with lanes:=st.lanes.set k (c4 lk) },v,((m:Int),cq),e,_,rfl,AO,hv,Ap,le_trans (hS.l e _ Ap) (by decide),fun H' o' FP=>⟨rfl,_,zS.AQ hk hq ht hg (by rw[EZ,ee]) Ap,(o3.mono (by simp)).trans (o'.mono (by simp)),FP⟩⟩
   | back k =>
    have yY:H1 p=some (.tup [.str "back", .int k]):=yY
    obtain⟨lk,e0,hk,hb⟩:=lW (show Mv.back k ∈ dC st k from Kz)
    refine⟨_,rfl,p,_,0,_,rfl,rfl,yD.of yY,ak (j:=0) rfl,rfl,_,rfl,?_⟩
    rw[gZ (by decide +kernel)]
    refine aF ⟨_,rfl,p,_,0,_,rfl,rfl,yD.of yY,ak (j:=0) rfl,rfl,_,rfl,?_⟩
    rw[gZ (by decide +kernel)]
    refine aF ⟨_,rfl,p,_,0,_,rfl,rfl,yD.of yY,ak (j:=0) rfl,rfl,_,rfl,?_⟩
    rw[gZ (by decide +kernel)]
    refine aF ⟨_,rfl,a.y,a.dy,_,rfl,hY.ins,rfl,_,rfl,p,_,1,_,rfl,rfl,yD.of yY,ak (j:=1) rfl,a,st,k,lk,yB,rfl,hY,hk,zm,fun x dx pa yJ H2 o2 nx np g2 Ay=>⟨x,dx,_,rfl,Ay.ins,rfl,x,dx,pa,lk.r,lk.b,lk.h,yJ,lk.qs,rfl,Ay,(fun e0=>by rw[e0]at hb;exact absurd hb (by decide)),fun _ H3 o3 De=>?_⟩⟩
    have o4:yG [a.la] H1 H3:=fun b o nb e=>o3 b o (ag e nx) (ag e np) (o2 b o nb e)
    exact⟨rfl,_,zS.back hk hb,o4.mono (by simp),za.Bl hY zm o4 (k:=k) (x:=x) (dx:=dx) (pa:=pa) (o3 _ _ (ag zm nx) (ag zm np) g2) (ln:=vV lk) De np⟩
  ·rintro σ' H2 ⟨rfl,s',hs,o2,Cj⟩
   obtain⟨zH,EU,pd⟩:=Cj.zD
   have CU:zH.length=st.done.length:=by rw[Paired.length pd,hs.done]
   have MS:H2 p=some (.tup (cv m)):=o2 _ _ (fun z=>by obtain⟨xs,hz⟩:=hY.AD _ z;rw[yY]at hz;cases hz) yY
   have hd:=hS.d
   refine⟨_,rfl,a.y,ys.y3,a.dy,_,_,rfl,Cj.ins,Y.cl,Y.n6,rfl, .inl ⟨rfl,_,y6.of EU⟩,_,rfl,a.dn,_,_,rfl,rfl,EU,by rw[sizeLine_eq];omega,?_⟩
   have AO:=Cj.ET EU ⟨p,rfl,MS⟩
   rw[hs.done]at AO
   exact q _ s' hs ((y1.ze s1).trans (o2.trans (c7 (by simp)))) AO
theorem eR {α:Type}{L:List α}{k j:Nat}{y z:α}(h:(L.set k y)[j]? = some z):(j=k/\z=y)∨(j ≠ k/\L[j]? = some z):=by
 by_cases e:k=j
 ·subst e
  rw[List.getElem?_set_self']at h
  cases hk:L[k]? with
  | none=>rw[hk]at h;cases h
  | some x=>rw[hk]at h;cases h;exact .inl ⟨rfl,rfl⟩
 ·rw[getElem?_set_ne e]at h
  exact .inr ⟨Ne.symm e,h⟩
theorem im {α:Type}{L:List α}{k:Nat}{x y:α}(h:L[k]? = some x):(L.set k y)[k]? = some y:=by
 have:=(gQ0 h)
 simp[this]
theorem eu {α:Type}(f:α->Nat):∀ {L:List α}{k:Nat}{x y:α},L[k]? = some x->((L.set k y).map f).sum + f x=(L.map f).sum + f y
 | [],_,_,_,h=>by cases h
 | z :: L,0,x,y,h=>by cases h;simp only[List.set_cons_zero,map_cons,sum_cons];omega
 | z :: L,k + 1,x,y,h=>by
  have:=eu f (L:=L) (k:=k) (x:=x) (y:=y) h
  simp only[List.set_cons_succ,map_cons,sum_cons];omega
theorem iB {α:Type}(f:α->Int):∀ {L:List α}{k:Nat}{x y:α},L[k]? = some x->((L.set k y).map f).sum + f x=(L.map f).sum + f y
 | [],_,_,_,h=>by cases h
 | z :: L,0,x,y,h=>by cases h;simp only[List.set_cons_zero,map_cons,sum_cons];omega
 | z :: L,k + 1,x,y,h=>by
  have:=iB f (L:=L) (k:=k) (x:=x) (y:=y) h
  simp only[List.set_cons_succ,map_cons,sum_cons];omega
noncomputable def m7 (a:YA)(l:Nat):Int:=(a.ps.getD l (0,0)).2
noncomputable def jw (s:YS):Nat:=(s.lanes.map fun ln=>ln.qs.length).sum
noncomputable def iC (s:YS):Nat:=(s.lies.map fun qs=>qs.length).sum
noncomputable def fD (s:YS):Int:=(s.U.map fun t=>t.gone).sum
structure MX (a:YA)(s:YS)(m:Nat)(c:Int):Prop where
 lanes:s.lanes.length=a.ps.length
 lies:s.lies.length=a.n
 zl:s.U.length <= 60
 B8:a.ps.length <= 40
 lets:∀ (m:Nat)(t:cp),s.U[m]? = some t->∃ x y:Nat,t.start=(x:Int)/\t.goal=(y:Int)/\x < a.n/\y < a.n
 zy:∀ (m:Nat)(t:cp),s.U[m]? = some t->(∀ l ∈ t.way,l < a.ps.length)/\t.way.Nodup
 zw:∀ (k:Nat)(ln:cy),s.lanes[k]? = some ln->∀ q ∈ ln.qs,∃ (m:Nat)(t:cp),q.1=(m:Int)/\s.U[m]? = some t/\k ∈ t.way
 Ak:∀ (m:Nat)(t:cp),s.U[m]? = some t->0 <= t.gone/\t.gone <= t.len/\t.len <= 60
 zt:∀ (m':Nat)(t:cp),s.U[m']? = some t->t.gone=0->t.way=[]/\m' ≠ m
 last:∀ (m:Nat)(t:cp),s.U[m]? = some t->∀ (i l:Nat),t.way[i]? = some l->m7 a l=t.goal->i + 1=t.way.length
 head:∀ (m':Nat)(t:cp),s.U[m']? = some t->∀ (l:Nat)(ln:cy),t.way.getLast? = some l->s.lanes[l]? = some ln->(m' = m/\c=0)∨((m':Int),(0:Int)) ∈ ln.qs∨m7 a l=t.goal
 first:∀ (k:Nat)(ln:cy),s.lanes[k]? = some ln->∀ (i j:Nat)(z:Int)(q:Int × Int),ln.qs[i]? = some (z,0)->j < i->ln.qs[j]? = some q->q.1 ≠ z
 Cm:∀ (k:Nat)(ln:cy),s.lanes[k]? = some ln->∀ (m':Nat)(t:cp),((m':Int),(0:Int)) ∈ ln.qs->s.U[m']? = some t->t.way.getLast? = some k
 gone:c=0->∀ (k:Nat)(ln:cy),s.lanes[k]? = some ln->((m:Int),(0:Int)) ∉ ln.qs
 sum:(jw s:Int) + (iC s:Int) + 1=fD s
structure zE (a:YA)(s:YS):Prop where
 lanes:s.lanes.length=a.ps.length
 lies:s.lies.length=a.n
 zl:s.U.length <= 60
 B8:a.ps.length <= 40
 lets:∀ (m:Nat)(t:cp),s.U[m]? = some t->∃ x y:Nat,t.start=(x:Int)/\t.goal=(y:Int)/\x < a.n/\y < a.n
 zy:∀ (m:Nat)(t:cp),s.U[m]? = some t->(∀ l ∈ t.way,l < a.ps.length)/\t.way.Nodup
 zw:∀ (k:Nat)(ln:cy),s.lanes[k]? = some ln->∀ q ∈ ln.qs,∃ (m:Nat)(t:cp),q.1=(m:Int)/\s.U[m]? = some t/\k ∈ t.way
 Ak:∀ (m:Nat)(t:cp),s.U[m]? = some t->0 <= t.gone/\t.gone <= t.len/\t.len <= 60
 zt:∀ (m':Nat)(t:cp),s.U[m']? = some t->t.gone=0->t.way=[]
 last:∀ (m:Nat)(t:cp),s.U[m]? = some t->∀ (i l:Nat),t.way[i]? = some l->m7 a l=t.goal->i + 1=t.way.length
 head:∀ (m':Nat)(t:cp),s.U[m']? = some t->∀ (l:Nat)(ln:cy),t.way.getLast? = some l->s.lanes[l]? = some ln->((m':Int),(0:Int)) ∈ ln.qs∨m7 a l=t.goal
 first:∀ (k:Nat)(ln:cy),s.lanes[k]? = some ln->∀ (i j:Nat)(z:Int)(q:Int × Int),ln.qs[i]? = some (z,0)->j < i->ln.qs[j]? = some q->q.1 ≠ z
 Cm:∀ (k:Nat)(ln:cy),s.lanes[k]? = some ln->∀ (m':Nat)(t:cp),((m':Int),(0:Int)) ∈ ln.qs->s.U[m']? = some t->t.way.getLast? = some k
 sum:(jw s:Int) + (iC s:Int)=fD s
theorem eP:∀ (n:Nat)(l:List Nat),l.Nodup->(∀ x ∈ l,x < n)->l.length <= n
 | 0,l,_,h=>by
  cases l with
  | nil=>exact le_refl _
  | cons x _=>exact absurd (h x mem_cons_self) (by omega)
 | n + 1,l,hn,h=>by
  have h1:=eP n (l.filter fun x=>decide (x ≠ n)) (hn.filter _) fun x hx=>by
   obtain⟨a,b⟩:=mem_filter.mp hx
   have:=h x a
   have:=of_decide_eq_true b
   omega
  have h2:l.length <= (l.filter fun x=>decide (x ≠ n)).length + 1:=by
   clear h1 h
   induction l with
   | nil=>exact zero_le _
   | cons x l ih =>
    rw[nodup_cons]at hn
    by_cases e:x=n
    ·subst e
     have:(l.filter fun y=>decide (y ≠ x))=l:=List.filter_eq_self.mpr fun y hy=>decide_eq_true fun z=>hn.1 (z ▸ hy)
     rw[List.filter_cons_of_neg (by simp),this]
     exact le_refl _
    ·rw[List.filter_cons_of_pos (by simpa using e)]
     have:=ih hn.2
     simp only[length_cons]
     omega
  omega
theorem zE.ok {a:YA}{s:YS}(h:zE a s):MT a s:=⟨h.lanes,h.lies,h.lets,fun m t ht=>⟨(h.zy m t ht).1,by have:=eP _ _ (h.zy m t ht).2 (h.zy m t ht).1;have:=h.B8;omega⟩,h.zw,h.zl⟩
theorem sT {α:Type}{x:α}{l:List α}(h:x ∈ l.tail):x ∈ l:=List.mem_of_mem_tail h
theorem t7 {α:Type}{l:List α}{x:α}(h:l.head? = some x):l[0]? = some x:=by cases l with
 | nil=>cases h
 | cons y r=>exact h
theorem pe {α:Type}{l:List α}{x:α}(h:x ∈ l):∃ i:Nat,l[i]? = some x:=by
 obtain⟨i,hi,e⟩:=List.getElem_of_mem h
 exact⟨i,by rw[getElem?_eq_getElem hi,e]⟩
theorem l6 {α:Type}(l:List α)(i:Nat):l.tail[i]? = l[i + 1]?:=by cases l with
 | nil=>simp
 | cons y r=>rfl
theorem lV {a:YA}{s:YS}{k m:Nat}{c:Int}{lk:cy}(J:zE a s)(hk:s.lanes[k]? = some lk)(hq:lk.qs.head? = some ((m:Int),c)):MX a { s with lanes:=s.lanes.set k (c4 lk) } m c:=by
 have h0:=t7 hq
 have zT:∀ (j:Nat)(zR:cy),(s.lanes.set k (c4 lk))[j]? = some zR->∃ ln,s.lanes[j]? = some ln/\(∀ q ∈ zR.qs,q ∈ ln.qs)/\∃ d,(∀ i,zR.qs[i]? = ln.qs[i + d]?)/\(zR.qs=ln.qs∨(j=k/\ln=lk/\zR.qs=lk.qs.tail)):=fun j zR h=>by
  rcases eR h with ⟨rfl,rfl⟩ | ⟨ne,h⟩
  ·exact⟨lk,hk,fun q hq=>sT hq,1,fun i=>l6 _ i, .inr ⟨rfl,rfl,rfl⟩⟩
  ·exact⟨zR,h,fun q hq=>hq,0,fun i=>rfl, .inl rfl⟩
 have keep:∀ (j:Nat)(ln:cy),s.lanes[j]? = some ln->∃ zR,(s.lanes.set k (c4 lk))[j]? = some zR/\∀ q ∈ ln.qs,q=((m:Int),c)∨q ∈ zR.qs:=fun j ln h=>by
  by_cases e:j=k
  ·subst e
   rw[hk]at h
   cases h
   refine⟨c4 lk,im hk,fun q Be=>?_⟩
   show _∨q ∈ lk.qs.tail
   cases hl:lk.qs with
   | nil=>rw[hl]at hq;cases hq
   | cons z r =>
    rw[hl]at hq Be
    cases hq
    exact(mem_cons.mp Be).imp id id
  ·exact⟨ln,by rw[getElem?_set_ne (Ne.symm e)];exact h,fun q hq => .inr hq⟩
 refine⟨by rw[← J.lanes];simp,J.lies,J.zl,J.B8,J.lets,J.zy,?_,J.Ak,?_,J.last,?_,?_,?_,?_,?_⟩
 ·intro j zR h q Be
  obtain⟨ln,hj,h1,_⟩:=zT j zR h
  exact J.zw j ln hj q (h1 q Be)
 ·intro m' t ht hg
  refine⟨J.zt m' t ht hg,fun e=>?_⟩
  subst e
  obtain⟨m2,t2,e2,zq,MY⟩:=J.zw k lk hk _ (mem_of_head? hq)
  have:m' = m2:=by have:(m':Int)=(m2:Int):=e2;omega
  subst this
  rw[ht]at zq
  cases zq
  rw[J.zt m' t ht hg]at MY
  cases MY
 ·intro m' t ht l zR hl AF
  obtain⟨ln,hj,h1,_⟩:=zT l zR AF
  rcases J.head m' t ht l ln hl hj with h | h
  ·obtain⟨ln2,h2,h3⟩:=keep l ln hj
   have h2:{ s with lanes:=s.lanes.set k (c4 lk) }.lanes[l]? = some ln2:=h2
   rw[AF]at h2
   cases h2
   rcases h3 _ h with e | h
   ·injection e with e1 e2
    exact .inl ⟨by omega,e2.symm⟩
   ·exact .inr (.inl h)
  ·exact .inr (.inr h)
 ·intro j zR h i i' z q hi yR Be
  obtain⟨ln,hj,_,d,h2,_⟩:=zT j zR h
  rw[h2]at hi Be
  exact J.first j ln hj (i + d) (i' + d) z q hi (by omega) Be
 ·intro j zR h m' t CW ht
  obtain⟨ln,hj,h1,_⟩:=zT j zR h
  exact J.Cm j ln hj m' t (h1 _ CW) ht
 ·intro e0 j zR h CW
  subst e0
  obtain⟨ln,hj,h1,d,h2,h3⟩:=zT j zR h
  obtain⟨m2,t2,e2,zq,_⟩:=J.zw k lk hk _ (mem_of_head? hq)
  have:m=m2:=by have:(m:Int)=(m2:Int):=e2;omega
  subst this
  have b1:=J.Cm k lk hk m t2 (mem_of_head? hq) zq
  have b2:=J.Cm j ln hj m t2 (h1 _ CW) zq
  rw[b1]at b2
  have b2:=Option.some.inj b2
  subst b2
  rcases eR h with ⟨_,rfl⟩ | ⟨ne,_⟩
  ·obtain⟨i,hi⟩:=pe CW
   have hi:lk.qs.tail[i]? = some ((m:Int),0):=hi
   rw[l6]at hi
   exact J.first k lk hk (i + 1) 0 _ _ hi (by omega) h0 rfl
  ·exact ne rfl
 ·have:=eu (fun ln:cy=>ln.qs.length) (y:=c4 lk) hk
  have hl:(c4 lk).qs.length + 1=lk.qs.length:=by
   show lk.qs.tail.length + 1=_
   cases hl:lk.qs with
   | nil=>rw[hl]at hq;cases hq
   | cons _ _=>rfl
  have h1:=J.sum
  unfold jw at h1 ⊢
  show((((s.lanes.set k (c4 lk)).map fun ln=>ln.qs.length).sum:Nat):Int) + (iC s:Int) + 1=fD s
  omega
theorem sS {a:YA}{s:YS}{k:Nat}{t:cp}(J:zE a s)(ht:s.U[k]? = some t)(hg:t.gone ≠ t.len):MX a (gU s k t) k t.gone:=by
 have g0:=J.Ak k t ht
 have lk:∀ (m:Nat)(t':cp),(s.U.set k { t with gone:=t.gone + 1 })[m]? = some t'->∃ t0,s.U[m]? = some t0/\t'.start=t0.start/\t'.goal=t0.goal/\t'.way=t0.way/\t'.len=t0.len/\((m=k/\t'.gone=t.gone + 1)∨(m ≠ k/\t'.gone=t0.gone)):=fun m t' h=>by
  rcases eR h with ⟨rfl,rfl⟩ | ⟨ne,h⟩
  ·exact⟨t,ht,rfl,rfl,rfl,rfl, .inl ⟨rfl,rfl⟩⟩
  ·exact⟨t',h,rfl,rfl,rfl,rfl, .inr ⟨ne,rfl⟩⟩
 refine⟨J.lanes,J.lies,by show(s.U.set _ _).length <= 60;rw[length_set];exact J.zl,J.B8,?_,?_,?_,?_,?_,?_,?_,J.first,?_,?_,?_⟩
 ·intro m t' h
  obtain⟨t0,h0,e1,e2,_⟩:=lk m t' h
  rw[e1,e2];exact J.lets m t0 h0
 ·intro m t' h
  obtain⟨t0,h0,e1,e2,e3,_⟩:=lk m t' h
  rw[e3];exact J.zy m t0 h0
 ·intro j ln h q hq
  obtain⟨m,t0,e,h0,hj⟩:=J.zw j ln h q hq
  by_cases em:m=k
  ·subst em
   rw[ht]at h0
   cases h0
   exact⟨m,_,e,im ht,hj⟩
  ·exact⟨m,t0,e,by show(s.U.set _ _)[m]? = _;rw[getElem?_set_ne (Ne.symm em)];exact h0,hj⟩
 ·intro m t' h
  obtain⟨t0,h0,e1,e2,e3,e4,e5⟩:=lk m t' h
  have:=J.Ak m t0 h0
  rcases e5 with ⟨rfl,e5⟩ | ⟨_,e5⟩
  ·rw[ht]at h0
   cases h0
   rw[e4,e5];omega
  ·rw[e4,e5];exact this
 ·intro m t' h hz
  obtain⟨t0,h0,e1,e2,e3,e4,e5⟩:=lk m t' h
  rcases e5 with ⟨rfl,e5⟩ | ⟨ne,e5⟩
  ·omega
  ·rw[e3];exact⟨J.zt m t0 h0 (by omega),ne⟩
 ·intro m t' h i l hi hl
  obtain⟨t0,h0,e1,e2,e3,e4,e5⟩:=lk m t' h
  rw[e3]at hi ⊢
  rw[e2]at hl
  exact J.last m t0 h0 i l hi hl
 ·intro m t' h l ln hl yZ
  obtain⟨t0,h0,e1,e2,e3,e4,e5⟩:=lk m t' h
  rw[e3]at hl
  rw[e2]
  exact .inr (J.head m t0 h0 l ln hl yZ)
 ·intro j ln h m t' hm h'
  obtain⟨t0,h0,e1,e2,e3,e4,e5⟩:=lk m t' h'
  rw[e3]
  exact J.Cm j ln h m t0 hm h0
 ·intro e0 j ln h hm
  obtain⟨m,t0,e,h0,hj⟩:=J.zw j ln h _ hm
  have:k=m:=by have:(k:Int)=(m:Int):=e;omega
  subst this
  rw[ht]at h0
  cases h0
  rw[J.zt k t ht e0]at hj
  cases hj
 ·have:=iB (fun t:cp=>t.gone) (y:={ t with gone:=t.gone + 1 }) ht
  have h1:=J.sum
  unfold fD at h1 ⊢
  show (jw s:Int) + (iC s:Int) + 1=((s.U.set k { t with gone:=t.gone + 1 }).map fun t=>t.gone).sum
  have:({ t with gone:=t.gone + 1 }:cp).gone=t.gone + 1:=rfl
  omega
theorem tj {l:List Nat}{x:Nat}(h:l.getLast? = some x):l[l.length - 1]? = some x:=by rw[← h,List.getLast?_eq_getElem?]
theorem jI {a:YA}{s:YS}{m l:Nat}{c:Int}{t:cp}{ln:cy}(M:MX a s m c)(ht:s.U[m]? = some t)(yZ:s.lanes[l]? = some ln)(h0:c=0->l ∉ t.way/\∀ x ∈ t.way,m7 a x ≠ t.goal)(h1:c ≠ 0->l ∈ t.way):zE a (dD s m c l t ln):=by
 have As:l < a.ps.length:=by rw[← M.lanes];exact(gQ0 yZ)
 have lk:∀ (m':Nat)(t':cp),(dD s m c l t ln).U[m']? = some t'->∃ t0,s.U[m']? = some t0/\t'.start=t0.start/\t'.goal=t0.goal/\t'.len=t0.len/\t'.gone=t0.gone/\((c=0/\m' = m/\t0=t/\t'.way=t.way ++ [l])∨(¬ (c=0/\m' = m)/\t'.way=t0.way)):=fun m' t' h=>by
  have h:(if c=0 then s.U.set m { t with way:=t.way ++ [l] } else s.U)[m']? = some t':=h
  by_cases hc:c=0
  ·rw[if_pos hc]at h
   rcases eR h with ⟨rfl,rfl⟩ | ⟨ne,h⟩
   ·exact⟨t,ht,rfl,rfl,rfl,rfl, .inl ⟨hc,rfl,rfl,rfl⟩⟩
   ·exact⟨t',h,rfl,rfl,rfl,rfl, .inr ⟨fun z=>ne z.2,rfl⟩⟩
  ·rw[if_neg hc]at h
   exact⟨t',h,rfl,rfl,rfl,rfl, .inr ⟨fun z=>hc z.1,rfl⟩⟩
 have U5:∀ (m':Nat)(t0:cp),s.U[m']? = some t0->∃ t',(dD s m c l t ln).U[m']? = some t'/\(∀ x ∈ t0.way,x ∈ t'.way)/\(m' = m->l ∈ t'.way):=fun m' t0 h=>by
  by_cases hc:c=0
  ·by_cases e:m' = m
   ·subst e
    rw[ht]at h
    cases h
    refine⟨{ t with way:=t.way ++ [l] },by show(if c=0 then s.U.set m' { t with way:=t.way ++ [l] } else s.U)[m']? = _;rw[if_pos hc];exact im ht,fun x hx=>mem_append_left _ hx,fun _=>by show l ∈ t.way ++ [l];simp⟩
   ·exact⟨t0,by show(if c=0 then s.U.set m { t with way:=t.way ++ [l] } else s.U)[m']? = _;rw[if_pos hc,getElem?_set_ne (Ne.symm e)];exact h,fun x hx=>hx,fun z=>absurd z e⟩
  ·refine⟨t0,by show(if c=0 then s.U.set m { t with way:=t.way ++ [l] } else s.U)[m']? = _;rw[if_neg hc];exact h,fun x hx=>hx,fun z=>?_⟩
   subst z
   rw[ht]at h
   cases h
   exact h1 hc
 have zR:∀ (j:Nat)(l':cy),(dD s m c l t ln).lanes[j]? = some l'->(j=l/\l'.qs=ln.qs ++ [((m:Int),c)])∨(j ≠ l/\s.lanes[j]? = some l'):=fun j l' h=>by
  rcases eR h with ⟨rfl,rfl⟩ | ⟨ne,h⟩
  ·exact .inl ⟨rfl,rfl⟩
  ·exact .inr ⟨ne,h⟩
 have old:∀ (j:Nat)(l':cy),(dD s m c l t ln).lanes[j]? = some l'->∀ q ∈ l'.qs,(j=l/\q=((m:Int),c))∨∃ l0,s.lanes[j]? = some l0/\q ∈ l0.qs:=fun j l' h q hq=>by
  rcases zR j l' h with ⟨rfl,e⟩ | ⟨ne,h⟩
  ·rw[e,mem_append]at hq
   rcases hq with hq | hq
   ·exact .inr ⟨ln,yZ,hq⟩
   ·exact .inl ⟨rfl,by simpa using hq⟩
  ·exact .inr ⟨l',h,hq⟩
 refine⟨by rw[← M.lanes];show(s.lanes.set _ _).length=_;simp,M.lies,?_,M.B8,?_,?_,?_,?_,?_,?_,?_,?_,?_,?_⟩
 ·show(if c=0 then s.U.set m { t with way:=t.way ++ [l] } else s.U).length <= 60
  by_cases hc:c=0
  ·rw[if_pos hc,length_set];exact M.zl
  ·rw[if_neg hc];exact M.zl
 ·intro m' t' h
  obtain⟨t0,h2,e1,e2,_⟩:=lk m' t' h
  rw[e1,e2];exact M.lets m' t0 h2
 ·intro m' t' h
  obtain⟨t0,h2,_,_,_,_,e⟩:=lk m' t' h
  obtain⟨w1,w2⟩:=M.zy m' t0 h2
  rcases e with ⟨hc,rfl,rfl,e⟩ | ⟨_,e⟩
  ·rw[e]
   refine⟨fun x hx=>?_,?_⟩
   ·rcases mem_append.mp hx with hx | hx
    ·exact w1 x hx
    ·rw[mem_singleton.mp hx];exact As
   ·rw[List.nodup_append]
    exact⟨w2,by simp,fun x hx y hy=>by rw[mem_singleton.mp hy];exact fun z=>(h0 hc).1 (z ▸ hx)⟩
  ·rw[e];exact⟨w1,w2⟩
 ·intro j l' h q hq
  rcases old j l' h q hq with ⟨rfl,rfl⟩ | ⟨l0,h2,hq⟩
  ·obtain⟨t',h3,_,h4⟩:=U5 m t ht
   exact⟨m,t',rfl,h3,h4 rfl⟩
  ·obtain⟨m',t0,e,h3,hj⟩:=M.zw j l0 h2 q hq
   obtain⟨t',h4,h5,_⟩:=U5 m' t0 h3
   exact⟨m',t',e,h4,h5 j hj⟩
 ·intro m' t' h
  obtain⟨t0,h2,_,_,e3,e4,_⟩:=lk m' t' h
  rw[e3,e4];exact M.Ak m' t0 h2
 ·intro m' t' h hz
  obtain⟨t0,h2,_,_,_,e4,e⟩:=lk m' t' h
  rw[e4]at hz
  obtain⟨w1,w2⟩:=M.zt m' t0 h2 hz
  rcases e with ⟨hc,rfl,_⟩ | ⟨_,e⟩
  ·exact absurd rfl w2
  ·rw[e];exact w1
 ·intro m' t' h i x hi hx
  obtain⟨t0,h2,_,e2,_,_,e⟩:=lk m' t' h
  rw[e2]at hx
  rcases e with ⟨hc,rfl,rfl,e⟩ | ⟨_,e⟩
  ·rw[e]at hi ⊢
   by_cases yR:i < t0.way.length
   ·rw[getElem?_append_left yR]at hi
    exact absurd hx ((h0 hc).2 x (mem_of_getElem? hi))
   ·have:=(gQ0 hi)
    rw[length_append,length_singleton]at this ⊢
    omega
  ·rw[e]at hi ⊢
   exact M.last m' t0 h2 i x hi hx
 ·intro m' t' h x l' hx Ag
  obtain⟨t0,h2,_,e2,_,_,e⟩:=lk m' t' h
  rcases e with ⟨hc,rfl,rfl,e⟩ | ⟨ne,e⟩
  ·rw[e]at hx
   have hx:l=x:=by simpa using hx
   subst hx
   rcases zR l l' Ag with ⟨_,e'⟩ | ⟨ne,_⟩
   ·left
    rw[e',hc];simp
   ·exact absurd rfl ne
  ·rw[e]at hx
   rcases zR x l' Ag with ⟨rfl,e'⟩ | ⟨ne',h'⟩
   ·rcases M.head m' t0 h2 x ln hx yZ with z | z | z
    ·exact absurd ⟨z.2,z.1⟩ ne
    ·exact .inl (by rw[e'];exact mem_append_left _ z)
    ·rw[e2];exact .inr z
   ·rcases M.head m' t0 h2 x l' hx h' with z | z | z
    ·exact absurd ⟨z.2,z.1⟩ ne
    ·exact .inl z
    ·rw[e2];exact .inr z
 ·intro j l' h i i' z q hi yR hq
  rcases zR j l' h with ⟨rfl,e⟩ | ⟨_,h'⟩
  ·rw[e]at hi hq
   by_cases C9:i < ln.qs.length
   ·rw[getElem?_append_left C9]at hi
    rw[getElem?_append_left (by omega)]at hq
    exact M.first j ln yZ i i' z q hi yR hq
   ·have h3:=(gQ0 hi)
    rw[length_append,length_singleton]at h3
    have ei:i=ln.qs.length:=by omega
    subst ei
    rw[getElem?_concat_length]at hi
    have hi:=Option.some.inj hi
    injection hi with e1 e2
    subst e1
    rw[getElem?_append_left yR]at hq
    intro ez
    obtain⟨m',t0,e3,h4,h5⟩:=M.zw j ln yZ q (mem_of_getElem? hq)
    have em0:(m':Int)=(m:Int):=by rw[← e3];exact ez
    have:m=m':=by omega
    subst this
    rw[ht]at h4
    cases h4
    exact(h0 e2).1 h5
  ·exact M.first j l' h' i i' z q hi yR hq
 ·intro j l' h m' t' hm h'
  obtain⟨t0,h2,_,_,_,_,e⟩:=lk m' t' h'
  rcases old j l' h _ hm with ⟨rfl,e'⟩ | ⟨l0,h3,hm⟩
  ·injection e' with e1 e2
   have em:m' = m:=by omega
   subst em
   rcases e with ⟨_,_,_,e⟩ | ⟨ne,_⟩
   ·rw[e];simp
   ·exact absurd ⟨e2.symm,rfl⟩ ne
  ·rcases e with ⟨hc,rfl,rfl,e⟩ | ⟨ne,e⟩
   ·exact absurd hm (M.gone hc j l0 h3)
   ·rw[e];exact M.Cm j l0 h3 m' t0 hm h2
 ·have q1:=eu (fun ln:cy=>ln.qs.length) (y:=jh ln m c t.len) yZ
  have q2:(jh ln m c t.len).qs.length=ln.qs.length + 1:=by show(ln.qs ++ [_]).length=_;simp
  have q3:fD (dD s m c l t ln)=fD s:=by
   unfold fD
   show((if c=0 then s.U.set m { t with way:=t.way ++ [l] } else s.U).map fun t=>t.gone).sum=_
   by_cases hc:c=0
   ·rw[if_pos hc]
    have:=iB (fun t:cp=>t.gone) (y:={ t with way:=t.way ++ [l] }) ht
    have e:({ t with way:=t.way ++ [l] }:cp).gone=t.gone:=rfl
    omega
   ·rw[if_neg hc]
  have h2:=M.sum
  rw[q3]
  unfold jw at h2 ⊢
  show((((s.lanes.set l (jh ln m c t.len)).map fun ln=>ln.qs.length).sum:Nat):Int) + (iC s:Int)=fD s
  omega
theorem vb {a:YA}{s:YS}{m e:Nat}{c:Int}{t:cp}{qs:List (Int × Int)}(M:MX a s m c)(ht:s.U[m]? = some t)(Ap:s.lies[e]? = some qs)(h0:c=0->∀ x,t.way.getLast? = some x->m7 a x=t.goal):zE a { s with lies:=s.lies.set e (qs ++ [((m:Int),c)]) }:=by
 refine⟨M.lanes,by show(s.lies.set _ _).length=_;rw[length_set];exact M.lies,M.zl,M.B8,M.lets,M.zy,M.zw,M.Ak,fun m' t' h z=>(M.zt m' t' h z).1,M.last,?_,M.first,M.Cm,?_⟩
 ·intro m' t' h x l' hx Ag
  rcases M.head m' t' h x l' hx Ag with ⟨rfl,hc⟩ | z | z
  ·have h:s.U[m']? = some t':=h
   rw[ht]at h
   cases h
   exact .inr (h0 hc x hx)
  ·exact .inl z
  ·exact .inr z
 ·have:=eu (fun qs:List (Int × Int)=>qs.length) (y:=qs ++ [((m:Int),c)]) Ap
  have h2:=M.sum
  unfold iC at h2 ⊢
  show (jw s:Int) + ((((s.lies.set e (qs ++ [((m:Int),c)])).map fun qs=>qs.length).sum:Nat):Int)=fD s
  rw[length_append,length_singleton]at this
  omega
theorem zE.back {a:YA}{s:YS}{k:Nat}{lk K2:cy}(J:zE a s)(hk:s.lanes[k]? = some lk)(e:K2.qs=lk.qs):zE a { s with lanes:=s.lanes.set k K2 }:=by
 have zT:∀ (j:Nat)(l':cy),(s.lanes.set k K2)[j]? = some l'->∃ l0,s.lanes[j]? = some l0/\l'.qs=l0.qs:=fun j l' h=>by
  rcases eR h with ⟨rfl,rfl⟩ | ⟨_,h⟩
  ·exact⟨lk,hk,e⟩
  ·exact⟨l',h,rfl⟩
 refine⟨by rw[← J.lanes];simp,J.lies,J.zl,J.B8,J.lets,J.zy,?_,J.Ak,J.zt,J.last,?_,?_,?_,?_⟩
 ·intro j l' h q hq
  obtain⟨l0,h0,e0⟩:=zT j l' h
  rw[e0]at hq
  exact J.zw j l0 h0 q hq
 ·intro m t ht x l' hx Ag
  obtain⟨l0,h0,e0⟩:=zT x l' Ag
  rw[e0]
  exact J.head m t ht x l0 hx h0
 ·intro j l' h
  obtain⟨l0,h0,e0⟩:=zT j l' h
  rw[e0]
  exact J.first j l0 h0
 ·intro j l' h
  obtain⟨l0,h0,e0⟩:=zT j l' h
  rw[e0]
  exact J.Cm j l0 h0
 ·have:=eu (fun ln:cy=>ln.qs.length) (y:=K2) hk
  have h1:=J.sum
  have e':=congrArg List.length e
  unfold jw at h1 ⊢
  show((((s.lanes.set k K2).map fun ln=>ln.qs.length).sum:Nat):Int) + (iC s:Int)=fD s
  omega
theorem zE.step {a:YA}{s s':YS}{m:Mv}(J:zE a s)(h:zS a s m s'):zE a s':=by
 cases h with
 | @zT k l t ln ht hg hl yZ ho =>
  have M:=sS J ht hg
  refine jI (t:={ t with gone:=t.gone + 1 }) M (im ht) yZ (fun hc=>?_) (fun hc=>?_)
  ·have hw:=J.zt k t ht hc
   show l ∉ t.way/\∀ x ∈ t.way,m7 a x ≠ t.goal
   rw[hw]
   exact⟨by simp,by simp⟩
  ·unfold cX at hl
   rw[if_neg hc]at hl
   exact mem_of_mem_take hl
 | @on k l m c lk ln t hk hq ht hl yZ ho =>
  have M:=lV J hk hq
  have hw:cZ a s k=if c=0 then (qJ a k t.goal.toNat).filter (fun l=>!decide (l ∈ t.way)) else (t.way.drop (t.way.idxOf k + 1)).take 1:=by
   unfold cZ cb
   rw[hk]
   dsimp only
   rw[hq]
   dsimp only
   rw[toNat_natCast,ht]
  rw[hw]at hl
  refine jI M ht yZ (fun hc=>?_) (fun hc=>?_)
  ·rw[if_pos hc]at hl
   obtain⟨h1,h2⟩:=mem_filter.mp hl
   refine⟨by simpa using h2,fun x hx ex=>?_⟩
   subst hc
   obtain⟨i,hi⟩:=pe hx
   have h3:=J.last m t ht i x hi ex
   have h4:=J.Cm k lk hk m t (mem_of_head? hq) ht
   have h5:=tj h4
   rw[show t.way.length - 1=i by omega,hi]at h5
   have h5:=Option.some.inj h5
   subst h5
   unfold qJ at h1
   obtain⟨x0,y0,e1,e2,_,_⟩:=J.lets m t ht
   rw[if_pos (by show m7 a x=_;rw[ex,e2,toNat_natCast])]at h1
   cases h1
  ·rw[if_neg hc]at hl
   exact List.mem_of_mem_drop (mem_of_mem_take hl)
 | @AQ k m e c lk t qs hk hq ht hg he Ap =>
  have M:=lV J hk hq
  have:=vb (s:={ s with lanes:=s.lanes.set k (c4 lk) }) M ht Ap (fun hc x hx=>?_)
  ·exact this
  ·subst hc
   have h4:=J.Cm k lk hk m t (mem_of_head? hq) ht
   rw[h4]at hx
   have hx:=Option.some.inj hx
   subst hx
   show(a.ps.getD k (0,0)).2=t.goal
   rw[he,hg]
 | @back k lk hk hb=>exact J.back hk rfl
noncomputable def qV (s:YS):Int:=(s.U.map fun t=>t.len).sum
theorem oH {α:Type}(f g:α->Int):∀ {L:List α},(∀ (m:Nat)(t:α),L[m]? = some t->f t <= g t)->(L.map f).sum <= (L.map g).sum
 | [],_=>by simp
 | x :: L,h=>by
  have h1:=h 0 x rfl
  have h2:=oH f g (L:=L) fun m t ht=>h (m + 1) t ht
  simp only[map_cons,sum_cons];omega
theorem j9 {α:Type}(g:α->Int):∀ {L:List α},(∀ (m:Nat)(t:α),L[m]? = some t->g t <= 60)->(L.map g).sum <= 60 * L.length
 | [],_=>by simp
 | x :: L,h=>by
  have h1:=h 0 x rfl
  have h2:=j9 g (L:=L) fun m t ht=>h (m + 1) t ht
  simp only[map_cons,sum_cons,length_cons];omega
theorem zE.K3 {a:YA}{s:YS}(J:zE a s):(iC s:Int) <= qV s/\(jw s:Int) + (iC s:Int) <= 3600:=by
 have h1:=oH (fun t:cp=>t.gone) (fun t=>t.len) (L:=s.U) fun m t ht=>(J.Ak m t ht).2.1
 have h2:=J.sum
 have h3:=j9 (fun t:cp=>t.len) (L:=s.U) fun m t ht=>(J.Ak m t ht).2.2
 have h4:=J.zl
 unfold fD at h2
 unfold qV
 omega
theorem jf {α:Type}(f:α->Nat):∀ {L:List α}{k:Nat}{x:α},L[k]? = some x->f x <= (L.map f).sum
 | [],_,_,h=>by cases h
 | z :: L,0,x,h=>by cases h;simp only[map_cons,sum_cons];omega
 | z :: L,k + 1,x,h=>by
  have:=jf f (L:=L) (k:=k) (x:=x) h
  simp only[map_cons,sum_cons];omega
theorem zE.U6 {a:YA}{s:YS}(J:zE a s)(hd:s.done.length <= 100000):U1 s:=by
 have h:=J.K3.2
 refine⟨fun k ln hk=>?_,fun p qs hp=>?_,hd⟩
 ·have:=jf (fun ln:cy=>ln.qs.length) hk
  unfold jw at h
  omega
 ·have:=jf (fun qs:List (Int × Int)=>qs.length) hp
  unfold iC at h
  omega
abbrev yx (ys:Ys)(ex:List Addr):Ys:={ ys with ex:=ex }
noncomputable def ScV (x:V):Prop:=(∃ i,x = .int i)∨∃ t,x = .str t/\PyData.strOk t=true
structure Qb (a:YA)(s:YS):Prop where
 lanes:s.lanes.length=a.ps.length
 lies:s.lies.length=a.n
 q0:∀ (k:Nat)(ln:cy),s.lanes[k]? = some ln->ln.qs=[]
 l0:∀ (p:Nat)(qs:List (Int × Int)),s.lies[p]? = some qs->qs=[]
 lets:∀ (m:Nat)(t:cp),s.U[m]? = some t->t.gone=0/\t.way=[]/\0 <= t.len/\t.len <= 60/\∃ x y:Nat,t.start=(x:Int)/\t.goal=(y:Int)/\x < a.n/\y < a.n
 done:∀ d ∈ s.done,∀ x ∈ d,ScV x
theorem ww {α:Type}(f:α->Nat):∀ {L:List α},(∀ (k:Nat)(x:α),L[k]? = some x->f x=0)->(L.map f).sum=0
 | [],_=>rfl
 | x :: L,h=>by
  have h1:=h 0 x rfl
  have h2:=ww f (L:=L) fun k y hy=>h (k + 1) y hy
  simp only[map_cons,sum_cons];omega
theorem vG {α:Type}(f:α->Int):∀ {L:List α},(∀ (k:Nat)(x:α),L[k]? = some x->f x=0)->(L.map f).sum=0
 | [],_=>rfl
 | x :: L,h=>by
  have h1:=h 0 x rfl
  have h2:=vG f (L:=L) fun k y hy=>h (k + 1) y hy
  simp only[map_cons,sum_cons];omega
theorem Qb.K4 {a:YA}{s:YS}(h:Qb a s)(zl:s.U.length <= 60)(B8:a.ps.length <= 40):zE a s:=by
 refine⟨h.lanes,h.lies,zl,B8,fun m t ht=>(h.lets m t ht).2.2.2.2,fun m t ht=>?_,fun k ln hk q hq=>?_,fun m t ht=>?_,fun m t ht _=>(h.lets m t ht).2.1,fun m t ht i l hi=>?_,fun m t ht l ln hl=>?_,fun k ln hk i j z q hi=>?_,fun k ln hk m t hm=>?_,?_⟩
 ·rw[(h.lets m t ht).2.1];exact⟨(fun l hl=>by cases hl),nodup_nil⟩
 ·rw[h.q0 k ln hk]at hq;cases hq
 ·obtain⟨h1,h2,h3,h4,_⟩:=h.lets m t ht
  rw[h1];exact⟨by omega,h3,h4⟩
 ·rw[(h.lets m t ht).2.1]at hi;cases hi
 ·rw[(h.lets m t ht).2.1]at hl;cases hl
 ·rw[h.q0 k ln hk]at hi;cases hi
 ·rw[h.q0 k ln hk]at hm;cases hm
 ·have h1:jw s=0:=ww _ fun k ln hk=>by rw[h.q0 k ln hk];rfl
  have h2:iC s=0:=ww _ fun p qs hp=>by rw[h.l0 p qs hp];rfl
  have h3:fD s=0:=vG _ fun m t ht=>(h.lets m t ht).1
  rw[h1,h2,h3];rfl
theorem pZ {n a b:Nat}{wy:Wf}{m:Nat}{l u:Int}(ha:a < n)(hb:b < n)(hl:1 <= l/\l <= 60)(hu:Hu (.int u)=true)(Dc:a ≠ b)(hw:wy a b none ≠ [])(hm:m < 60):kQ n wy m (.int a) (.int b) (.int l) (.int u) = .good:=by
 unfold kQ
 rw[show jE (.int (a:Int)) 0 ((n:Int) - 1)=true from decide_eq_true (by omega),show jE (.int (b:Int)) 0 ((n:Int) - 1)=true from decide_eq_true (by omega),show jE (.int l) 1 60=true from decide_eq_true hl,hu,if_neg (by decide),if_neg (by decide),if_neg (by decide)]
 rw[if_neg (by
  rintro (h | h)
  ·have h:(a:Int)=(b:Int):=h
   omega
  ·have h:wy ((a:Int)).toNat ((b:Int)).toNat none=[]:=h
   rw[toNat_natCast,toNat_natCast]at h
   exact hw h),if_neg (by omega)]
theorem fT {ex:List Addr}{H H1 H2:Hp}(s:y1 H H1)(o:yG ex H1 H2)(hn:∀ b ∈ ex,H b=none):y1 H H2:=fun b u e=>o b _ (fun z=>by rw[hn b z]at e;cases e) (s b u e)
theorem tP (ns:List Int)(i j:Nat):∃ ms:List Int,gh (ns.map V.int) (some (i:Int)) (some (j:Int))=ms.map V.int/\ms.length <= j - i:=by
 refine⟨(ns.drop (min i ns.length)).take (min j ns.length - min i ns.length),?_,?_⟩
 ·unfold gh
  rw[show HT.Aw (ns.map V.int).length 0 (some (i:Int))=min i (ns.map V.int).length from HT.zK _ _ i,show HT.Aw (ns.map V.int).length (ns.map V.int).length (some (j:Int))=min j (ns.map V.int).length from HT.zK _ _ j,length_map,map_take,List.map_drop]
 ·rw[length_take,length_drop];omega
theorem zE.done {a:YA}{s:YS}(J:zE a s)(d:List (List V)):zE a { s with done:=d }:=⟨J.lanes,J.lies,J.zl,J.B8,J.lets,J.zy,J.zw,J.Ak,J.zt,J.last,J.head,J.first,J.Cm,J.sum⟩
theorem Qc {a:YA}{yM:List V}(h:yM.length=a.ps.length):Qb a (Y0 yM a.n):=by
 refine⟨by show(yM.map qt).length=_;rw[length_map];exact h,by show(List.replicate a.n []).length=_;rw[length_replicate],fun k ln hk=>?_,fun p qs hp=>?_,fun m t ht=>?_,fun d hd=>?_⟩
 ·have hk:(yM.map qt)[k]? = some ln:=hk
  rw[getElem?_map]at hk
  cases hr:yM[k]? with
  | none=>rw[hr]at hk;cases hk
  | some v=>rw[hr]at hk;cases hk;rfl
 ·have hp:(List.replicate a.n ([]:List (Int × Int)))[p]? = some qs:=hp
  exact eq_of_mem_replicate (mem_of_getElem? hp)
 ·have ht:([]:List cp)[m]? = some t:=ht
  cases ht
 ·have hd:d ∈ ([]:List (List V)):=hd
  cases hd
theorem oT (ms:List Mv):AW (.list (ms.map qK)) 64:=(iJ (m:=1) fun z hz=>by
 obtain⟨m,_,rfl⟩:=mem_map.mp hz
 exact iI m).le (by decide)
theorem Cn:AW (.list []) 64:=(iJ (m:=0) fun z hz=>by cases hz).le (by decide)
theorem pC {α:Type}(f:α->PyData)(l:List α):PyData.eqv (.list (l.map f)) (.list [])=l.isEmpty:=by
 cases l<;>simp[PyData.eqv,PyData.eqvAll]
theorem eqN {K:Frag}{x y:V}{H:Hp}{Q:VK}{α:Type}{f:α->PyData}{l:List α}(h1:Den K H x (.list (l.map f)))(h2:Den K H y (.list []))(s:AW (.list (l.map f)) 64)(q:Q (.bl l.isEmpty) H):Jb K x y H Q :=
 ⟨_,_,h1,h2,s.shaped (le_refl _),Cn.shaped (le_refl _),by rw[pC];exact q⟩
theorem neN {K:Frag}{x y:V}{H:Hp}{Q:VK}{α:Type}{f:α->PyData}{l:List α}(h1:Den K H x (.list (l.map f)))(h2:Den K H y (.list []))(s:AW (.list (l.map f)) 64)(q:Q (.bl (!l.isEmpty)) H):Jc K x y H Q :=
 ⟨_,_,h1,h2,s.shaped (le_refl _),Cn.shaped (le_refl _),by rw[pC];exact q⟩
theorem zS.rooms {a:YA}{s s':YS}{m:Mv}(h:zS a s m s'):s'.rooms=s.rooms:=by cases h<;>rfl
theorem zS.len {a:YA}{s s':YS}{m:Mv}(h:zS a s m s'):s'.U.length=s.U.length:=by
 cases h with
 | @zT k l t ln ht hg hl yZ ho =>
  show(if t.gone=0 then (gU s k t).U.set k _ else (gU s k t).U).length=_
  have:(gU s k t).U.length=s.U.length:=length_set ..
  split
  ·rw[length_set];exact this
  ·exact this
 | @on k l m c lk ln t hk hq ht hl yZ ho =>
  show(if c=0 then s.U.set m _ else s.U).length=_
  split
  ·exact length_set ..
  ·rfl
 | AQ=>rfl
 | back=>rfl
theorem zE.post {a:YA}{s:YS}(J:zE a s){x y:Nat}{l u:Int}(hx:x < a.n)(hy:y < a.n)(hl:0 <= l/\l <= 60)(hf:s.U.length < 60):zE a (jC s x y l u):=by
 have el:∀ (m:Nat)(t:cp),(jC s x y l u).U[m]? = some t->s.U[m]? = some t∨(m=s.U.length/\t = ⟨x,y,l,u,0,[]⟩):=fun m t ht=>by
  have ht:(s.U ++ [(⟨(x:Int),(y:Int),l,u,0,[]⟩:cp)])[m]? = some t:=ht
  by_cases hm:m < s.U.length
  ·rw[getElem?_append_left hm]at ht;exact .inl ht
  ·have h3:=(gQ0 ht)
   rw[length_append,length_singleton]at h3
   have em:m=s.U.length:=by omega
   subst em
   rw[getElem?_concat_length]at ht
   cases ht
   exact .inr ⟨rfl,rfl⟩
 have eo:∀ (m:Nat)(t:cp),s.U[m]? = some t->(jC s x y l u).U[m]? = some t:=fun m t ht=>by
  show(s.U ++ [(⟨(x:Int),(y:Int),l,u,0,[]⟩:cp)])[m]? = some t
  rw[getElem?_append_left (gQ0 ht)];exact ht
 refine⟨J.lanes,J.lies,?_,J.B8,fun m t ht=>?_,fun m t ht=>?_,fun k ln hk q hq=>?_,fun m t ht=>?_,fun m t ht hg=>?_,fun m t ht i l' hi he=>?_,fun m t ht l' ln Ag yZ=>?_,J.first,fun k ln hk m t hm ht=>?_,?_⟩
 ·show(s.U ++ [_]).length <= 60
  rw[length_append,length_singleton];omega
 ·rcases el m t ht with h | ⟨_,rfl⟩
  ·exact J.lets m t h
  ·exact⟨x,y,rfl,rfl,hx,hy⟩
 ·rcases el m t ht with h | ⟨_,rfl⟩
  ·exact J.zy m t h
  ·exact⟨(fun l hl=>by cases hl),nodup_nil⟩
 ·obtain⟨m,t,e,ht,FY⟩:=J.zw k ln hk q hq
  exact⟨m,t,e,eo m t ht,FY⟩
 ·rcases el m t ht with h | ⟨_,rfl⟩
  ·exact J.Ak m t h
  ·exact⟨Int.le_refl _,hl.1,hl.2⟩
 ·rcases el m t ht with h | ⟨_,rfl⟩
  ·exact J.zt m t h hg
  ·rfl
 ·rcases el m t ht with h | ⟨_,rfl⟩
  ·exact J.last m t h i l' hi he
  ·cases hi
 ·rcases el m t ht with h | ⟨_,rfl⟩
  ·exact J.head m t h l' ln Ag yZ
  ·cases Ag
 ·obtain⟨m2,t2,e2,zq,_⟩:=J.zw k ln hk _ hm
  have e2:(m:Int)=(m2:Int):=e2
  have e2:m=m2:=by omega
  subst e2
  rcases el m t ht with h | ⟨e,_⟩
  ·exact J.Cm k ln hk m t hm h
  ·rw[e]at zq
   rw[List.getElem?_eq_none (le_refl _)]at zq
   cases zq
 ·have h:=J.sum
  have e:fD (jC s x y l u)=fD s:=by
   show((s.U ++ [(⟨(x:Int),(y:Int),l,u,0,[]⟩:cp)]).map _).sum=_
   rw[map_append,List.sum_append]
   simp[fD]
  rw[e];exact h
theorem za.Fb {K:Frag}{ys:Ys}{e e':List Addr}{H H':Hp}{a:YA}{s:YS}(h:za K (yx ys e) H a s)(o:y1 H H')(hx:∀ b ∈ e',b ∈ e∨(H b=none/\∃ zs,H' b=some (.lst zs))):za K (yx ys e') H' a s:=by
 have K5:∀ p:Addr,(∃ u,H p=some u)->p ∉ a.la :: a.le :: a.li :: a.dn :: e->p ∉ a.la :: a.le :: a.li :: a.dn :: e':=fun p ⟨u,hu⟩ hn z=>by
  have en:∀ q:List Addr,a.la :: a.le :: a.li :: a.dn :: q=[a.la,a.le,a.li,a.dn] ++ q:=fun _=>rfl
  rw[en]at z hn
  rcases mem_append.mp z with z | z
  ·exact hn (mem_append_left _ z)
  ·rcases hx p z with z | ⟨z,_⟩
   ·exact hn (mem_append_right _ z)
   ·rw[z]at hu;cases hu
 obtain⟨v1,h1,p1⟩:=h.zx
 obtain⟨v2,h2,p2⟩:=h.hle
 have h':=yA.same h o
 refine⟨h'.ins,h'.ED,⟨v1,o _ _ h1,Paired.mono (fun v ln z=>?_) p1⟩,⟨v2,o _ _ h2,Paired.mono (fun v t z=>?_) p2⟩,h'.Ai,h'.zD,h'.ne,fun b hb=>?_⟩
 ·obtain⟨x,dx,pa,yJ,ev,L,n⟩:=z
  exact⟨x,dx,pa,yJ,ev,L.same o,K5 pa ⟨_,L.lst⟩ n⟩
 ·obtain⟨x,dx,wa,ev,Bz,hw,n⟩:=z
  exact⟨x,dx,wa,ev,o _ _ Bz,o _ _ hw,K5 wa ⟨_,hw⟩ n⟩
 ·rcases hx b hb with z | ⟨_,z⟩
  ·obtain⟨zs,hz⟩:=h.hex b z
   exact⟨zs,o _ _ hz⟩
  ·exact z
theorem za.K6 {K:Frag}{ys:Ys}{e:List Addr}{H H':Hp}{a:YA}{s:YS}(h:za K ys H a s)(o:yG e H H')(hs:∀ b ∈ e,b ∈ ys.ex)(hn:∀ b ∈ a.four,b ∉ e)(hl:∀ b ∈ e,∃ zs,H' b=some (.lst zs)):za K ys H' a s:=by
 have o2:yG (a.la :: a.le :: a.li :: a.dn :: ys.ex) H H':=o.mono fun b hb=>by simp[hs b hb]
 obtain⟨h1,h2,f1,f2,f3,f4⟩:=yA.off h o2
 obtain⟨v1,a1,p1⟩:=h.zx
 obtain⟨v2,a2,p2⟩:=h.hle
 obtain⟨v3,a3,p3⟩:=h.Ai
 obtain⟨v4,a4,p4⟩:=h.zD
 refine⟨h1,h2,⟨v1,o _ _ (hn _ (by simp)) a1,f1 _ _ p1⟩,⟨v2,o _ _ (hn _ (by simp)) a2,f2 _ _ p2⟩,⟨v3,o _ _ (hn _ (by simp)) a3,f3 _ _ p3⟩,⟨v4,o _ _ (hn _ (by simp)) a4,f4 _ _ p4⟩,h.ne,fun b hb=>?_⟩
 by_cases Dw:b ∈ e
 ·exact hl b Dw
 ·obtain⟨zs,hz⟩:=h.hex b hb
  exact⟨zs,o _ _ Dw hz⟩
theorem sK {m:Nat}{rs:List Int}(Cy:rs.length=m)(K7:∀ r ∈ rs,1 <= r/\r <= 60):jd m (rs.map V.int)=true:=by
 unfold jd
 rw[length_map,Cy,decide_eq_true rfl,Bool.true_and,all_eq_true]
 intro v hv
 obtain⟨r,D7,rfl⟩:=mem_map.mp hv
 exact decide_eq_true (K7 r D7)
noncomputable def U7 (K:Frag)(c:Cs)(TC:Addr)(J:TJ)(ys:Ys)(ex:List Addr)(H:Hp)(tb:Addr)(ps:List (Int × Int))(n:Nat)(wy:Wf)(rs:List Int):VK:=fun v H'=>∃ a:YA,v = .ref a.y/\a.tb=tb/\a.ps=ps/\a.n=n/\a.wy=wy/\y1 H H'/\(∀ z ∈ a.four,H z=none)/\BG K c TC J (yx ys ex) H' a (Y0 (rs.map V.int) n)/\zE a (Y0 (rs.map V.int) n)
theorem ua {P:Program}{w:World}{K:Frag}{c:Cs}{TC fw:Addr}{dw:FuncData}{J:TJ}{ys:Ys}{ex:List Addr}{H:Hp}{tb lx zb lt ra:Addr}{n:Nat}{yH:List V}{ps:List (Int × Int)}{wy:Wf}{rs:List Int}{E:XK}(W:Wy K TC fw dw J)
  (hT:zj c TC J H tb lx zb lt n yH ps wy) (Bf:∀ p g k,(wy p g k).length <= 400) (yE:∀ p ∈ ps,gG n p=true) (hR:y6 K H ra (rs.map V.int)) (Cy:rs.length=ps.length) (K7:∀ r ∈ rs,1 <= r/\r <= 60) (hp:ps.length <= 40) (hex:∀ b ∈ ex,∃ xs,H b=some (.lst xs)) :
  ∀ y dy,H y=none->H dy=none->dy ≠ y->iE K c TC J (yx ys ex) [.ref y, .ref tb, .ref ra] (upd (upd H dy (.own y)) y (.ins ys.y3 dy [])) (fun v H2=>v = .yK/\U7 K c TC J ys ex H tb ps n wy rs (.ref y) H2) E:=by
 intro y dy ny K8 KA
 have s4:y1 H (upd (upd H dy (.own y)) y (.ins ys.y3 dy [])):=y1.new (y1.new (y1.refl H) K8) (by rw[af (Ne.symm KA)];exact ny)
 have Qd:=sK Cy K7
 refine⟨y,dy,tb,lx,zb,lt,n,yH,ps,wy,_,rs.map V.int,rfl,ac,hT.keep W (y1.yF s4),(fun b hb=>let ⟨xs,hz⟩:=hex b hb; ⟨xs,s4 _ _ hz⟩), .inr ⟨ra,rfl, .inl (s4.seq hR),by rw[length_map];omega,(fun v hv=>by obtain⟨r,_,rfl⟩:=mem_map.mp hv;exact .int r),fun h=>by rw[Qd]at h;cases h⟩,fun _ ro la le li dn H5 o5 Ed EH Hx Hz hY=>⟨rfl,?_⟩⟩
 have s5:y1 H H5:=fun b o e=>o5 b o (fun z=>by rw[mem_singleton.mp z,ny]at e;cases e) (s4 _ _ e)
 have hO:v5 ⟨y,dy,tb,ro,la,le,li,dn,lx,zb,lt,n,yH,ps,wy⟩:=by
  refine⟨fun l pr hl=>?_,Bf⟩
  have Dp:=yE pr (mem_of_getElem? hl)
  unfold gG at Dp
  simp only[Bool.and_eq_true,decide_eq_true_eq,Bool.not_eq_true',decide_eq_false_iff_not]at Dp
  exact⟨pr.2.toNat,by omega,by show pr.2.toNat < n;omega⟩
 have hJ:zE ⟨y,dy,tb,ro,la,le,li,dn,lx,zb,lt,n,yH,ps,wy⟩ (Y0 (rs.map V.int) n):=(Qc (a:=⟨y,dy,tb,ro,la,le,li,dn,lx,zb,lt,n,yH,ps,wy⟩) (by rw[length_map];exact Cy)).K4 (zero_le _) (by show ps.length <= 40;omega)
 refine⟨⟨y,dy,tb,ro,la,le,li,dn,lx,zb,lt,n,yH,ps,wy⟩,rfl,rfl,rfl,rfl,rfl,s5,fun z hz=>?_,⟨hY,hT.keep W (y1.yF s5),hO,hJ.ok⟩,hJ⟩
 have hz:z ∈ [la,le,li,dn]:=hz
 simp only[mem_cons,not_mem_nil,or_false]at hz
 rcases hz with rfl | rfl | rfl | rfl
 ·exact s4.free Ed
 ·exact s4.free EH
 ·exact s4.free Hx
 ·exact s4.free Hz
noncomputable def KC (s:YS):Bool:=decide ((s.U.map (·.len)).sum=(s.lies.map fun q=>(q.length:Int)).sum)
noncomputable def Qe (s:Stmt):Scope:=match s with
 | .Return (some (.Compare (.Call _ [.ListComp _ _ sc _] _ _) _ _ _)) _=>sc
 | _=>zQ0
noncomputable def Qf (s:Stmt):Scope:=match s with
 | .Return (some (.Compare _ _ [.Call _ [.ListComp _ _ sc _] _ _] _)) _=>sc
 | _=>zQ0
noncomputable def ik (K:Frag)(ys:Ys):Sp:=fun vs H Q _=>∃ (y dy tb ro la le li dn:Addr)(s:YS),vs=[.ref y]/\yA K ys H y dy tb ro la le li dn s/\s.U.length <= 900/\s.lies.length <= 900/\∀ H',y1 H H'->Q (.bl (KC s)) H'
theorem Qg:ap ["self"] ["self"] (aj fG):=L2.yW
theorem Qh:zP ["self"] (aj fG) (Qe ((aM fG).getD 0 (.Pass ⟨0,0,0,0⟩))) [] []:=L2.AN
theorem Qi:zP ["self"] (aj fG) (Qf ((aM fG).getD 0 (.Pass ⟨0,0,0,0⟩))) [] []:=L2.AN
theorem Qj:(["letter"]:List Str).Nodup:=by decide +kernel
theorem Qk:(["pieces"]:List Str).Nodup:=by decide +kernel
theorem sH {ys:Ys}{f:Addr}{fd:FuncData}(F:yS K "ended" "Yard.ended" fG f fd)(T:dJ mg)(Y:eU K ys):y2 P w K mg base az 1 f fd ["self"] (ik K ys):=by
 refine F.ok Qg (fun _ _ _ _ h=>?_) (fun _ _ _ s H _ Q E hr h=>?_)
 ·obtain⟨y,dy,tb,ro,la,le,li,dn,st,rfl,_⟩:=h
  rfl
 ·obtain⟨y,dy,tb,ro,la,le,li,dn,st,rfl,hY,h9,h92,q⟩:=h
  refine⟨_,ah (ar (c8 bN (au (mH rfl) rfl T.sum PyProof.Rows.boot_sum (aa (bH (own:=["letter"]) (capN:=[]) (cap:=[]) Qh rfl (bz (al (pv 0) rfl)) (fun C s' H' fp=>⟨ay (i:=0) Qj rfl (Or.inl rfl),ci,(show PE _ _ (iA K (gY 0) "length") from al (pv 0) rfl)⟩)) ad))
   (au (mH rfl) rfl T.sum PyProof.Rows.boot_sum (aa (bH (own:=["pieces"]) (capN:=[]) (cap:=[]) Qi rfl (bz (al (pv 0) rfl)) (fun C s' H' fp=>⟨ay (i:=0) Qk rfl (Or.inl rfl),ci,au (show cE _ (.builtin "len") (Po K) from aq) rfl T.len PySem.boot_len (aa (pv 0) ad)⟩)) ad)) (aB _))),?_⟩
  obtain⟨yH,zB,pl⟩:=hY.hle
  have As:=Paired.length pl
  refine⟨_,rfl,y,ys.y3,dy,_,_,rfl,hY.ins,Y.cl,Y.n4,rfl,le,rfl,⟨_,y6.of zB⟩,?_⟩
  refine jR (fun i => .int (st.U.getD i ⟨0,0,0,0,0,[]⟩).len) (by rw[sizeLine_eq];omega) (y6.of zB) (fun i x N hx h=>?_) (fun D hD=>?_)
  ·obtain⟨lt,yR,x',dx,wa,rfl,Bz,_⟩:=Paired.at pl hx
   rw[getD_eq_getElem?_getD,yR]at h
   exact⟨_,rfl,x',ys.y4,dx,_,_,rfl,Bz,Y.ct,Y.t3,rfl,h⟩
  have e1:(List.range yH.length).map (fun i=>V.int (st.U.getD i ⟨0,0,0,0,0,[]⟩).len)=(st.U.map (·.len)).map V.int:=by
   rw[As,map_map]
   exact iS st.U _ fun s=>V.int s.len
  rw[e1]
  have s1:=(y1.refl H).new (o := .lst ((st.U.map (·.len)).map V.int)) hD
  have gD:(upd H D (.lst ((st.U.map (·.len)).map V.int))) D=some (.lst ((st.U.map (·.len)).map V.int)):=ac
  generalize upd H D (.lst ((st.U.map (·.len)).map V.int))=H1 at s1 gD ⊢
  refine⟨D,_,rfl,y6.of gD,?_⟩
  have zM:=hY.same s1
  obtain⟨Aj,C1,ph⟩:=zM.Ai
  have Ql:=Paired.length ph
  refine⟨_,rfl,y,ys.y3,dy,_,_,rfl,zM.ins,Y.cl,Y.n5,rfl,li,rfl,⟨_,y6.of C1⟩,?_⟩
  refine jR (fun i => .int ((st.lies.getD i []).length:Nat)) (by rw[sizeLine_eq];omega) (y6.of C1) (fun i x N hx h=>?_) (fun D2 zI=>?_)
  ·obtain⟨qs,Ap,t,vs,rfl,ht,hL⟩:=Paired.at ph hx
   rw[getD_eq_getElem?_getD,Ap]at h
   have CF:vs.length=qs.length:=Paired.length hL
   refine⟨_,rfl,t,vs,rfl, .inr (yD.of ht),?_⟩
   rw[CF]
   exact h
  have e2:(List.range Aj.length).map (fun i=>V.int ((st.lies.getD i []).length:Nat))=(st.lies.map fun q=>(q.length:Int)).map V.int:=by
   rw[Ql,map_map]
   exact iS st.lies _ fun q=>V.int (q.length:Nat)
  rw[e2]
  refine⟨D2,_,rfl,y6.of ac,rfl,?_⟩
  rw[bO]
  exact q _ (s1.new zI)
noncomputable def Qm:Option Nat->Nat
 | none=>0
 | some k=>k + 1
theorem jL {n:Int}{ps:List (Int × Int)}{r:Rw}(h:dZ n ps r=true):∀ k ∈ r.s,k < ps.length:=by
 unfold dZ at h
 simp only[Bool.and_eq_true,all_eq_true,decide_eq_true_eq]at h
 intro k hk
 exact mem_range.mp (mem_filter.mp (h.2.2 k hk)).1
noncomputable def lw (rs:List Rw)(k:fN):Nat:=match dH rs k with
 | some r=>Yd.zC r.s 0
 | none=>0
theorem lX {rs:List Rw}{k:fN}{r:Rw}(h:dH rs k=some r):r ∈ rs:=mem_reverse.mp (List.mem_of_find?_eq_some h)
noncomputable def HG (rs:List Rw):Wf:=fun p g k=>mN (lw rs (bA ⟨(p:Int),(g:Int),k,[]⟩))
noncomputable def yN (P:Program)(w:World)(ts:Ts):TJ:=fun H x n wy=>∃ (dx de:Addr)(lv:V)(kvs:List cC)(rs:List Rw),H x=some (.ins ts.told dx [("land",lv),("entries", .ref de)])/\zp P w H de kvs/\(∀ k,cP kvs k=(dH rs k).map rC)/\(∀ r ∈ rs,∀ k ∈ r.s,k < 40)/\wy=HG rs
theorem yN.keep {P:Program}{w:World}{ts:Ts}{H H':Hp}{x:Addr}{n:Nat}{wy:Wf}(h:yN P w ts H x n wy)(k:yX H H'):yN P w ts H' x n wy:=by
 obtain⟨dx,de,lv,kvs,rs,h1,⟨h2,h3⟩,h4⟩:=h
 exact⟨dx,de,lv,kvs,rs,k _ _ h1 True.intro,⟨k _ _ h2 True.intro,fun y hy=>k _ _ (h3 y hy) True.intro⟩,h4⟩
theorem xM {ks:List Nat}{z:Nat}(h:z ∈ mN (Yd.zC ks 0)):z ∈ ks:=by
 have:=(mem_filter.mp h).2
 have h2:(Yd.zC ks 0).testBit z=true:=this
 rw[pQ,decide_eq_true_eq]at h2
 obtain⟨n,hn,e⟩:=Ah.mp h2
 have:n=z:=by omega
 exact this ▸ hn
theorem sX (m:Nat):(mN m).Nodup:=List.nodup_range.filter _
theorem qM {rs:List Rw}{n:Nat}(h:∀ r ∈ rs,∀ k ∈ r.s,k < n)(p g:Nat)(k:Option Nat):(∀ z ∈ HG rs p g k,z < n)/\(HG rs p g k).length <= n:=by
 have h1:∀ z ∈ HG rs p g k,z < n:=fun z hz=>by
  unfold HG lw at hz
  cases hl:dH rs (bA ⟨(p:Int),(g:Int),k,[]⟩) with
  | none=>rw[hl]at hz;exact absurd hz (by show z ∉ mN 0;intro h;cases h)
  | some r=>rw[hl]at hz;exact h r (lX hl) z (xM hz)
 exact⟨h1,eP n _ (sX _) h1⟩
theorem mY {ts:Ts}{f:Addr}{fd:FuncData}(G:y2 P w K mg base az 3 f fd ["self", "place", "goal", "came"] (oI P w ts)):y2 P w K mg base az 3 f fd ["self", "place", "goal", "came"] (fQ (yN P w ts)) :=
 G.imp fun vs H Q E y8=>by
 obtain⟨x,n,wy,p,g,k,e,⟨dx,de,lv,kvs,rs,h1,h2,h3,h4,h5⟩,hp,hg,q⟩:=y8
 exact⟨x,dx,de,lv,kvs,⟨(p:Int),(g:Int),k,[]⟩,lw rs (bA ⟨(p:Int),(g:Int),k,[]⟩),e,h1,h2,by
  rw[h3]
  unfold lw
  cases dH rs (bA ⟨(p:Int),(g:Int),k,[]⟩)<;>rfl,by
  unfold lw
  cases hl:dH rs (bA ⟨(p:Int),(g:Int),k,[]⟩) with
  | none=>exact Nat.two_pow_pos _
  | some r=>exact lt_of_lt_of_le (wx (h4 r (lX hl))) (Nat.pow_le_pow_right (by decide) (by decide)),fun H' D s' hD=>q D _ (s'.new hD) (s'.free hD) (by rw[ac,h5];rfl)⟩
theorem vt {sel:Int × Int->Int}{ps:List (Int × Int)}{pl:Int}{g:TG}{tt:TT}{te:TE}{σ0:St}{H:Hp}{Q:VK}(hn:ps.length < sizeLine)
  (hs:∀ (i:Nat)(acc:List V)(N:List V->Hp->Prop)(pr:Int × Int),ps[i]? = some pr->N (if decide (sel pr=pl)=true then acc ++ [V.int i] else acc) H->g (.int i) σ0 H fun σ2 H2=>tt σ2 H2 fun b H3=>if b=true then te σ2 H3 fun y H4=>N (acc ++ [y]) H4 else N acc H3)
  (hq:∀ D,H D=none->Q (.ref D) (upd H D (.lst (bM (fO sel ps pl))))):dB (vB 0 ps.length) g tt te σ0 Q H:=by
 refine mD (lo:=0) (fun k=>decide (sel (ps.getD k (0,0))=pl)) (fun k=>V.int k) hn (fun i acc N hi h=>?_) hq
 obtain⟨pr,BQ⟩:∃ pr,ps[i]? = some pr:=⟨ps[i],getElem?_eq_getElem hi⟩
 have eg:ps.getD i (0,0)=pr:=by rw[getD_eq_getElem?_getD,BQ];rfl
 rw[zero_add]
 rw[eg]at h
 exact hs i acc N pr BQ h
theorem Qn (m k:Nat):decide (V.int (Builtin.bitAnd ((m:Int) / 2 ^ (k:Int).toNat) 1)=V.int 1)=m.testBit k:=by
 rw[jl,toNat_natCast,← Yd.Cc m k]
theorem jQ {K:Frag}{a:Addr}{xs:List Nat}{g:TG}{tt:TT}{te:TE}{σ0:St}{H:Hp}{Q:VK}(q:Nat->Bool)(hn:xs.length < sizeLine)(ha:y6 K H a (bM xs))
  (hs:∀ (k:Nat)(acc:List V)(N:List V->Hp->Prop),k ∈ xs->N (if q k then acc ++ [V.int (k:Int)] else acc) H->g (.int (k:Int)) σ0 H fun σ2 H2=>tt σ2 H2 fun b H3=>if b=true then te σ2 H3 fun y H4=>N (acc ++ [y]) H4 else N acc H3)
  (hq:∀ D,H D=none->Q (.ref D) (upd H D (.lst (bM (xs.filter q))))):dB (tY K a) g tt te σ0 Q H:=by
 refine gj (xs:=bM xs) (fun v=>match v with | .int k=>q k.toNat | _=>false) (fun v=>v) (by unfold bM;rw[length_map];exact hn) ha (fun x acc N hx h=>?_) fun D hD=>?_
 ·obtain⟨k,hk,rfl⟩:=mem_map.mp hx
  exact hs k acc N hk h
 ·have e:((bM xs).filter (fun v=>match v with | .int k=>q k.toNat | _=>false)).map (fun v=>v)=bM (xs.filter q):=by
   unfold bM
   rw[List.map_id'',List.filter_map]
   ·congr 1
   ·intro _;rfl
  rw[e]
  exact hq D hD
theorem tJ {n:Nat}{ps:List (Int × Int)}(h1:1 <= n)(h2:n <= 12)(h3:ps.length <= 40)(h:∀ p ∈ ps,gG n p=true):eD n ps = .good:=by
 unfold eD
 rw[decide_eq_true (show (1:Int) <= (n:Int)/\(n:Int) <= 12 by omega),if_neg (by decide),if_neg (by omega),js h]
noncomputable def KD (s:Stmt):Scope:=match s with
 | .Assign _ (.ListComp _ _ sc _) _=>sc
 | _=>zQ0
noncomputable def sN (b:List Stmt)(i:Nat):Stmt:=b.getD i (.Pass ⟨0,0,0,0⟩)
noncomputable def ot (s:Stmt):List Stmt:=match s with
 | .For _ _ b _ _=>b
 | _=>[]
theorem jt {H H2:Hp}{D t1:Addr}{yB:List V}{ps:List (Int × Int)}{x y:Int}(hD:H D=none)(s2:y1 H H2)(gD:H2 D=some (.lst yB))(CG:yT H2 yB ps)(h1:H2 t1=none) :
  (upd H2 t1 (.tup [.int x, .int y])) D=some (.lst yB)/\y1 H (upd (upd H2 t1 (.tup [.int x, .int y])) D (.lst (yB ++ [.ref t1])))/\yT (upd (upd H2 t1 (.tup [.int x, .int y])) D (.lst (yB ++ [.ref t1]))) (yB ++ [.ref t1]) (ps ++ [(x,y)]):=by
 have u1:=(y1.refl H2).new (o := .tup [.int x, .int y]) h1
 have v1:(upd H2 t1 (.tup [.int x, .int y])) t1=some (.tup [.int x, .int y]):=ac
 generalize upd H2 t1 (.tup [.int x, .int y])=H3 at u1 v1 ⊢
 have U8:=u1 _ _ gD
 have kk:yX H3 (upd H3 D (.lst (yB ++ [.ref t1]))):=dG U8
 exact⟨U8,fun b o e=>by rw[af (ag e hD)];exact u1 _ _ (s2 _ _ e),yT.snoc (p:=(x,y)) ⟨t1,rfl,kk _ _ v1 True.intro⟩ (kk.CB (yT.same u1 CG))⟩
theorem sL {n x y:Int}(h1:0 <= x)(h2:x < n)(h3:0 <= y)(h4:y < n)(h5:x ≠ y):gG n (x,y)=true:=by
 unfold gG
 simp only[Bool.and_eq_true,decide_eq_true_eq,Bool.not_eq_true',decide_eq_false_iff_not]
 exact⟨⟨by omega,by omega⟩,⟨by omega,by omega⟩,h5⟩
theorem kK {n x o:Int}(h1:0 <= x)(h2:x < n)(h3:0 <= o)(h4:o < n - 1):0 <= (x + 1 + o) % n/\(x + 1 + o) % n < n/\x ≠ (x + 1 + o) % n:=by
 have Gq:0 < n:=by omega
 refine⟨emod_nonneg _ (by omega),emod_lt_of_pos _ Gq,fun z=>?_⟩
 rcases Int.lt_or_le (x + 1 + o) n with h | h
 ·rw[Int.emod_eq_of_lt (by omega) h]at z;omega
 ·rw[show x + 1 + o=(x + 1 + o - n) + n by omega,Int.add_emod_right,Int.emod_eq_of_lt (by omega) (by omega)]at z;omega
end K70
namespace L2
open PySem PySem.Spec PyProof.Rows
section
variable {X:Cx}{a:Expr}{ta:TE}{pos:Pos}
noncomputable def KG (K:Frag)(ta:TE):TE:=fun σ H Q=>ta σ H fun x H1=>∃ k,yr K x H1 k/\Q (.bl (!k)) H1
theorem ux (ha:PE X a ta):PE X (.UnaryOp .Not a pos) (KG X.K ta):=by
 intro pins s σ H Q I h
 refine UnaryOp_ (b5 (ha pins s σ H _ I h) fun v s1 y8=>?_)
 obtain⟨x,H1,I1,r1,q1⟩:=y8
 obtain⟨k,t,q1⟩:=q1
 refine not_of (b5 (qT pins s1 σ H1 x v (fun b H2=>b=k/\H2=H1) I1 r1 ⟨k,t,rfl,rfl⟩) fun b s2 y8=>?_)
 obtain⟨H2,I2,e1,e2⟩:=y8
 subst e1 e2
 exact⟨.bl (!b),H2,I2,rfl,q1⟩
end
end L2
namespace K70
open PySem L2
variable {P:Program}{w:World}{K:Frag}{mg:Str->Option Value}{base:Heap}
noncomputable def bq (a:YA)(s:YS):Bool:=(aI a s).isEmpty && !KC s
noncomputable def fR (K:Frag)(c:Cs)(TC:Addr)(J:TJ)(ys:Ys):Sp:=fun vs H Q _=>∃ (a:YA)(s:YS),vs=[.ref a.y]/\BG K c TC J ys H a s/\∀ H',y1 H H'->Q (.bl (bq a s)) H'
theorem KH:ap ["yard"] ["yard"] (aj nv):=L2.yW
theorem sr {c:Cs}{ys:Ys}{J:TJ}{TC f fw fm fe:Addr}{fd dw dm de:FuncData}(F:yS K "still" "still" nv f fd)(Y:eU K ys)(W:Wy K TC fw dw J)
  (mm:bB K ys.y3 "moves" fm) (bm:Binds K dm ["self"] []) (Gm:y2 P w K mg base az 7 fm dm ["self"] (eI K c TC J ys)) (me:bB K ys.y3 "ended" fe) (be:Binds K de ["self"] []) (Ge:y2 P w K mg base az 1 fe de ["self"] (ik K ys)) :
  y2 P w K mg base az 8 f fd ["yard"] (fR K c TC J ys):=by
 refine F.ok KH (fun _ _ _ _ h=>?_) (fun _ _ _ s H _ Q E hr h=>?_)
 ·obtain⟨a,s,rfl,_⟩:=h
  rfl
 ·obtain⟨a,st,rfl,hI,q⟩:=h
  have zi:yC 1 _:=hr.mono (by decide)
  refine⟨_,ah (ar (cG (ux (aO (pv 0) Y.cl mm Gm hr bm .nil ao)) (cF (kP (aO (pv 0) Y.cl me Ge zi be .nil ao))))),?_⟩
  have Bf:=hI.G.zl
  have KI:=hI.G.lies
  have hn:=hI.T.Hv
  refine⟨_,rfl,a.y,a.dy,_,rfl,hI.Y.ins,rfl,a,st,rfl,hI,fun D yQ H1 s1 hD gD hp=>⟨_, .inl ⟨_,y6.of gD,rfl⟩,_,rfl,?_⟩⟩
  have hl:yQ.isEmpty=(aI a st).isEmpty:=by
   have:=Paired.length hp
   rw[length_map]at this
   cases yQ<;>cases h:aI a st<;>first | rfl | (rw[h]at this;cases this)
  unfold bq at q
  rw[hl]
  cases hb:(aI a st).isEmpty with
  | false =>
   rw[hb]at q
   exact aF (q H1 s1)
  | true =>
   rw[hb]at q
   have Bm:=hI.same W s1
   exact aK ⟨_,rfl,a.y,a.dy,_,rfl,Bm.Y.ins,rfl,a.y,a.dy,a.tb,a.ro,a.la,a.le,a.li,a.dn,st,rfl,Bm.Y,by omega,by omega,fun H2 s2=>⟨_,rfl,q H2 (s1.trans s2)⟩⟩
abbrev YA.twin (a:YA)(y dy ro la le li dn:Addr):YA:={ a with y:=y,dy:=dy,ro:=ro,la:=la,le:=le,li:=li,dn:=dn }
noncomputable def sh (m:Nat)(A:Nat->YA)(j:Nat):List Addr:=((List.range m).filter fun k=>decide (k ≠ j)).flatMap fun k=>(A k).four
noncomputable def vy (m:Nat)(A:Nat->YA):List Addr:=(List.range m).flatMap fun k=>(A k).four
theorem zN {m:Nat}{A:Nat->YA}{j:Nat}{z:Addr}:z ∈ sh m A j↔∃ k,k < m/\k ≠ j/\z ∈ (A k).four:=by
 unfold sh
 rw[mem_flatMap]
 constructor
 ·rintro⟨k,hk,hz⟩
  obtain⟨h1,h2⟩:=mem_filter.mp hk
  exact⟨k,mem_range.mp h1,of_decide_eq_true h2,hz⟩
 ·rintro⟨k,h1,h2,hz⟩
  exact⟨k,mem_filter.mpr ⟨mem_range.mpr h1,decide_eq_true h2⟩,hz⟩
theorem B9 {m:Nat}{A:Nat->YA}{z:Addr}:z ∈ vy m A↔∃ k,k < m/\z ∈ (A k).four:=by
 unfold vy
 rw[mem_flatMap]
 constructor
 ·rintro⟨k,hk,hz⟩
  exact⟨k,mem_range.mp hk,hz⟩
 ·rintro⟨k,h1,hz⟩
  exact⟨k,mem_range.mpr h1,hz⟩
noncomputable def AZ (a0 a:YA):Prop:=a=a0.twin a.y a.dy a.ro a.la a.le a.li a.dn
theorem AZ.tat {c:Cs}{TC:Addr}{J:TJ}{H:Hp}{a0 a:YA}(e:AZ a0 a)(h:v6 c TC J H a0):v6 c TC J H a:=by rw[e];exact h
theorem AZ.tok {a0 a:YA}(e:AZ a0 a)(h:v5 a0):v5 a:=by rw[e];exact⟨h.ends,h.zl⟩
theorem AZ.ps {a0 a:YA}(e:AZ a0 a):a.ps=a0.ps:=by rw[e]
theorem AZ.wy {a0 a:YA}(e:AZ a0 a):a.wy=a0.wy:=by rw[e]
theorem AZ.n {a0 a:YA}(e:AZ a0 a):a.n=a0.n:=by rw[e]
theorem AZ.twin {a0 a:YA}(e:AZ a0 a)(y dy ro la le li dn:Addr):AZ a0 (a.twin y dy ro la le li dn):=by
 unfold AZ
 rw[e]
theorem je {a a':YA}{s:YS}(h1:a'.ps=a.ps)(h2:a'.wy=a.wy):aI a' s=aI a s:=by
 obtain⟨y,dy,tb,ro,la,le,li,dn,lx,zb,lt,n,yH,ps,wy⟩:=a
 obtain⟨y',dy',tb',ro',la',le',li',dn',lx',Qo,lt',n',B6,ps',wy'⟩:=a'
 simp only at h1 h2
 subst h1 h2
 rfl
theorem zS.to {a a':YA}{s s':YS}{m:Mv}(h1:a'.ps=a.ps)(h2:a'.wy=a.wy)(h:zS a s m s'):zS a' s m s':=by
 obtain⟨y,dy,tb,ro,la,le,li,dn,lx,zb,lt,n,yH,ps,wy⟩:=a
 obtain⟨y',dy',tb',ro',la',le',li',dn',lx',Qo,lt',n',B6,ps',wy'⟩:=a'
 simp only at h1 h2
 subst h1 h2
 cases h with
 | zT ht hg hl yZ ho=>exact .zT ht hg hl yZ ho
 | on hk hq ht hl yZ ho=>exact .on hk hq ht hl yZ ho
 | AQ hk hq ht hg he Ap=>exact .AQ hk hq ht hg he Ap
 | back hk hb=>exact .back hk hb
theorem AZ.K4 {a0 a:YA}{s:YS}(e:AZ a0 a)(h:zE a s):zE a0 s:=by
 rw[e]at h
 exact⟨h.lanes,h.lies,h.zl,h.B8,h.lets,h.zy,h.zw,h.Ak,h.zt,h.last,h.head,h.first,h.Cm,h.sum⟩
theorem AZ.KJ {a0 a:YA}{s:YS}(e:AZ a0 a)(h:zE a0 s):zE a s:=by
 rw[e]
 exact⟨h.lanes,h.lies,h.zl,h.B8,h.lets,h.zy,h.zw,h.Ak,h.zt,h.last,h.head,h.first,h.Cm,h.sum⟩
theorem za.ext {K:Frag}{ys:Ys}{H:Hp}{a:YA}{s:YS}{Tb:Addr} {φ:Heap->Prop} {u:HO} (g:H Tb=some (.ext φ)) (h:za K ys H a s):za K ys (upd H Tb u) a s:=by
 have l:∀ b xs,H b=some (.lst xs)->upd H Tb u b=some (.lst xs):=fun b xs e=>by rw[af (aR e g (by intro z;cases z))];exact e
 have t:∀ b xs,H b=some (.tup xs)->upd H Tb u b=some (.tup xs):=fun b xs e=>by rw[af (aR e g (by intro z;cases z))];exact e
 have n:∀ b C d fs,H b=some (.ins C d fs)->upd H Tb u b=some (.ins C d fs):=fun b C d fs e=>by rw[af (aR e g (by intro z;cases z))];exact e
 have ll:∀ {vs:List V}{ps:List (Int × Int)},yT H vs ps->yT (upd H Tb u) vs ps:=fun h=>yT.imp (fun _ _ y8=>by obtain⟨x,e,q⟩:=y8;exact⟨x,e,t _ _ q⟩) h
 obtain⟨v1,a1,p1⟩:=h.zx
 obtain⟨v2,a2,p2⟩:=h.hle
 obtain⟨v3,a3,p3⟩:=h.Ai
 obtain⟨v4,a4,p4⟩:=h.zD
 refine⟨n _ _ _ _ h.ins,?_,⟨v1,l _ _ a1,Paired.mono (fun v ln z=>?_) p1⟩,⟨v2,l _ _ a2,Paired.mono (fun v t z=>?_) p2⟩,⟨v3,l _ _ a3,Paired.mono (fun v q z=>?_) p3⟩,⟨v4,l _ _ a4,Paired.mono (fun v m z=>?_) p4⟩,h.ne,fun b hb=>let ⟨xs,e⟩:=h.hex b hb; ⟨xs,l _ _ e⟩⟩
 ·rcases h.ED with (e | ⟨o,e⟩) | e
  ·exact .inl (.inl (t _ _ e))
  ·exact .inl (.inr ⟨o,by rw[af (aR e g (by intro z;cases z))];exact e⟩)
  ·exact .inr e
 ·obtain⟨x,dx,pa,yJ,e,L,n'⟩:=z
  exact⟨x,dx,pa,yJ,e,⟨n _ _ _ _ L.ins,l _ _ L.lst,ll L.zw⟩,n'⟩
 ·obtain⟨x,dx,wa,e,h1,h2,n'⟩:=z
  exact⟨x,dx,wa,e,n _ _ _ _ h1,l _ _ h2,n'⟩
 ·obtain⟨x,vs,e,h1,h2⟩:=z
  exact⟨x,vs,e,t _ _ h1,ll h2⟩
 ·obtain⟨x,e,h1⟩:=z
  exact⟨x,e,t _ _ h1⟩
structure zf (K:Frag)(c:Cs)(TC:Addr)(J:TJ)(ys:Ys)(a0:YA)(X:List Addr)(m:Nat)(H:Hp)(A:Nat->YA)(S:Nat->YS):Prop where
 T:v6 c TC J H a0
 O:v5 a0
 Y:∀ j,j < m->za K (yx ys (sh m A j ++ X)) H (A j) (S j)
 J:∀ j,j < m->zE (A j) (S j)
 E:∀ j,j < m->AZ a0 (A j)
 R:∀ j,j < m->jd a0.ps.length (S j).rooms=true
 N:∀ j,j < m->(S j).done.length <= 1000
 dj:∀ j k,j < m->k < m->j ≠ k->∀ z ∈ (A j).four,z ∉ (A k).four
 nx:∀ j,j < m->∀ z ∈ (A j).four,z ∉ X
noncomputable def iM (S:Nat->YS)(j:Nat)(s:YS):Nat->YS:=fun k=>if k=j then s else S k
theorem cI (S:Nat->YS)(j:Nat)(s:YS):iM S j s j=s:=if_pos rfl
theorem eL {S:Nat->YS}{j k:Nat}{s:YS}(h:k ≠ j):iM S j s k=S k:=if_neg h
noncomputable def bX {α:Type}(A:Nat->α)(m:Nat)(a:α):Nat->α:=fun k=>if k=m then a else A k
theorem aQ {α:Type}(A:Nat->α)(m:Nat)(a:α):bX A m a m=a:=if_pos rfl
theorem cM {α:Type}{A:Nat->α}{m k:Nat}{a:α}(h:k < m):bX A m a k=A k:=if_neg (by omega)
section
variable {K:Frag}{c:Cs}{TC fw:Addr}{dw:FuncData}{J:TJ}{ys:Ys}{a0:YA}{X:List Addr}{m:Nat}{H H':Hp}{A:Nat->YA}{S:Nat->YS}
theorem zf.KL (h:zf K c TC J ys a0 X m H A S){j:Nat}(hj:j < m):BG K c TC J (yx ys (sh m A j ++ X)) H (A j) (S j):=⟨h.Y j hj,(h.E j hj).tat h.T,(h.E j hj).tok h.O,(h.J j hj).ok⟩
theorem zf.same (W:Wy K TC fw dw J)(h:zf K c TC J ys a0 X m H A S)(e:y1 H H'):zf K c TC J ys a0 X m H' A S:=⟨zj.keep W h.T (y1.yF e),h.O,fun j hj=>yA.same (h.Y j hj) e,h.J,h.E,h.R,h.N,h.dj,h.nx⟩
theorem zf.step (W:Wy K TC fw dw J)(h:zf K c TC J ys a0 X m H A S){j:Nat}(hj:j < m){s':YS}(o:yG (A j).four H H')(hY:za K (yx ys (sh m A j ++ X)) H' (A j) s')(hJ:zE (A j) s')(hR:s'.rooms=(S j).rooms)(hN:s'.done.length <= 1000):zf K c TC J ys a0 X m H' A (iM S j s'):=by
 have kp:=yG.yF (fun z hz=>(h.Y j hj).AD z hz) o
 refine⟨zj.keep W h.T kp,h.O,fun k hk=>?_,fun k hk=>?_,h.E,fun k hk=>?_,fun k hk=>?_,h.dj,h.nx⟩
 ·by_cases e:k=j
  ·subst e
   rw[cI]
   exact hY
  ·rw[eL e]
   exact za.K6 (h.Y k hk) o (fun b hb=>mem_append_left _ (zN.mpr ⟨j,hj,Ne.symm e,hb⟩)) (fun b hb An=>h.dj k j hk hj e b hb An) (fun b hb=>hY.AD b hb)
 ·by_cases e:k=j
  ·subst e;rw[cI];exact hJ
  ·rw[eL e];exact h.J k hk
 ·by_cases e:k=j
  ·subst e;rw[cI,hR];exact h.R k hk
  ·rw[eL e];exact h.R k hk
 ·by_cases e:k=j
  ·subst e;rw[cI];exact hN
  ·rw[eL e];exact h.N k hk
theorem zf.put (W:Wy K TC fw dw J)(h:zf K c TC J ys a0 X m H A S){x:Addr}{xs zs:List V}(hx:x ∈ X)(g:H x=some (.lst xs)):zf K c TC J ys a0 X m (upd H x (.lst zs)) A S:=by
 refine⟨zj.keep W h.T (dG g),h.O,fun k hk=>?_,h.J,h.E,h.R,h.N,h.dj,h.nx⟩
 refine za.K6 (e:=[x]) (h.Y k hk) (fun b o nb e=>by rw[af (fun z=>nb (by rw[z];exact mem_singleton.mpr rfl))];exact e) (fun b hb=>mem_append_right _ (by rw[mem_singleton.mp hb];exact hx)) (fun b hb An=>h.nx k hk b hb (by rw[mem_singleton.mp An];exact hx)) (fun b hb=>⟨zs,by rw[mem_singleton.mp hb];exact ac⟩)
theorem zf.ext (h:zf K c TC J ys a0 X m H A S){x:Addr} {φ:Heap->Prop} {u:HO} (g:H x=some (.ext φ)) (hT:v6 c TC J (upd H x u) a0):zf K c TC J ys a0 X m (upd H x u) A S :=
 ⟨hT,h.O,fun k hk=>za.ext g (h.Y k hk),h.J,h.E,h.R,h.N,h.dj,h.nx⟩
theorem zf.grow (W:Wy K TC fw dw J)(h:zf K c TC J ys a0 X m H A S)(e:y1 H H'){x:Addr}{xs:List V}(hx:H x=none)(g:H' x=some (.lst xs)):zf K c TC J ys a0 (x :: X) m H' A S:=by
 refine⟨zj.keep W h.T (y1.yF e),h.O,fun k hk=>za.Fb (h.Y k hk) e fun b hb=>?_,h.J,h.E,h.R,h.N,h.dj,fun k hk z hz BF=>?_⟩
 ·rcases mem_append.mp hb with hb | hb
  ·exact .inl (mem_append_left _ hb)
  ·rcases mem_cons.mp hb with rfl | hb
   ·exact .inr ⟨hx,xs,g⟩
   ·exact .inl (mem_append_right _ hb)
 ·rcases mem_cons.mp BF with rfl | BF
  ·obtain⟨ws,hw⟩:=(h.Y k hk).AD z hz
   rw[hx]at hw;cases hw
  ·exact h.nx k hk z hz BF
theorem zf.less (h:zf K c TC J ys a0 X m H A S){X':List Addr}(hx:∀ x ∈ X',x ∈ X):zf K c TC J ys a0 X' m H A S :=
 ⟨h.T,h.O,fun k hk=>za.Fb (h.Y k hk) (y1.refl _) fun b hb => .inl ((mem_append.mp hb).elim (fun z=>mem_append_left _ z) fun z=>mem_append_right _ (hx b z)),h.J,h.E,h.R,h.N,h.dj,fun k hk z hz BF=>h.nx k hk z hz (hx z BF)⟩
theorem zf.add (W:Wy K TC fw dw J)(h:zf K c TC J ys a0 X m H A S)(e:y1 H H'){a:YA}{s:YS}(hY:za K (yx ys (vy m A ++ X)) H' a s)(hJ:zE a s)(hE:AZ a0 a)(hR:jd a0.ps.length s.rooms=true)(hN:s.done.length <= 1000)(fr:∀ z ∈ a.four,H z=none)(fx:∀ x ∈ X,∃ o,H x=some o):zf K c TC J ys a0 X (m + 1) H' (bX A m a) (bX S m s):=by
 have A1:∀ {k:Nat},k < m->bX A m a k=A k:=fun hk=>cM hk
 have S1:∀ {k:Nat},k < m->bX S m s k=S k:=fun hk=>cM hk
 have cs:∀ {k:Nat},k < m + 1->k=m∨k < m:=fun hk=>by omega
 refine⟨zj.keep W h.T (y1.yF e),h.O,fun k hk=>?_,fun k hk=>?_,fun k hk=>?_,fun k hk=>?_,fun k hk=>?_,fun j k hj hk hn z hz=>?_,fun k hk z hz BF=>?_⟩
 ·rcases cs hk with rfl | hk
  ·rw[aQ,aQ]
   refine za.Fb hY (y1.refl _) fun b hb => .inl ?_
   rcases mem_append.mp hb with hb | hb
   ·obtain⟨i,h1,h2,h3⟩:=zN.mp hb
    rw[A1 (by omega)]at h3
    exact mem_append_left _ (B9.mpr ⟨i,by omega,h3⟩)
   ·exact mem_append_right _ hb
  ·rw[A1 hk,S1 hk]
   refine za.Fb (h.Y k hk) e fun b hb=>?_
   rcases mem_append.mp hb with hb | hb
   ·obtain⟨i,h1,h2,h3⟩:=zN.mp hb
    rcases cs h1 with rfl | h1
    ·rw[aQ]at h3
     exact .inr ⟨fr b h3,hY.AD b h3⟩
    ·rw[A1 h1]at h3
     exact .inl (mem_append_left _ (zN.mpr ⟨i,h1,h2,h3⟩))
   ·exact .inl (mem_append_right _ hb)
 ·rcases cs hk with rfl | hk
  ·rw[aQ,aQ];exact hJ
  ·rw[A1 hk,S1 hk];exact h.J k hk
 ·rcases cs hk with rfl | hk
  ·rw[aQ];exact hE
  ·rw[A1 hk];exact h.E k hk
 ·rcases cs hk with rfl | hk
  ·rw[aQ];exact hR
  ·rw[S1 hk];exact h.R k hk
 ·rcases cs hk with rfl | hk
  ·rw[aQ];exact hN
  ·rw[S1 hk];exact h.N k hk
 ·have old:∀ {i:Nat},i < m->∀ z ∈ (A i).four,z ∉ a.four:=fun hi z hz BF=>by
   obtain⟨xs,hx⟩:=(h.Y _ hi).AD z hz
   rw[fr z BF]at hx;cases hx
  rcases cs hj with rfl | hj
  ·rcases cs hk with rfl | hk
   ·exact absurd rfl hn
   ·rw[aQ]at hz
    rw[A1 hk]
    exact fun BF=>old hk z BF hz
  ·rw[A1 hj]at hz
   rcases cs hk with rfl | hk
   ·rw[aQ];exact old hj z hz
   ·rw[A1 hk];exact h.dj j k hj hk hn z hz
 ·rcases cs hk with rfl | hk
  ·rw[aQ]at hz
   obtain⟨o,ho⟩:=fx z BF
   rw[fr z hz]at ho;cases ho
  ·rw[A1 hk]at hz
   exact h.nx k hk z hz BF
theorem zf.one {a:YA}{s:YS}(hI:BG K c TC J (yx ys X) H a s)(hJ:zE a s)(hR:jd a.ps.length s.rooms=true)(hN:s.done.length <= 1000)(nx:∀ z ∈ a.four,z ∉ X):zf K c TC J ys a X 1 H (fun _=>a) (fun _=>s):=by
 refine⟨hI.T,hI.O,fun j hj=>?_,fun j hj=>hJ,fun j hj=>rfl,fun j hj=>hR,fun j hj=>hN,fun j k hj hk hn=>absurd (show j=k by omega) hn,fun j hj=>nx⟩
 have e:sh 1 (fun _=>a) j=[]:=by
  refine List.eq_nil_iff_forall_not_mem.mpr fun z hz=>?_
  obtain⟨k,h1,h2,_⟩:=zN.mp hz
  omega
 rw[e,nil_append]
 exact hI.Y
end
structure Qp (K:Frag)(ys:Ys)(H:Hp)(a:YA)(s:YS):Prop where
 Y:za K ys H a s
 ok:jd a.ps.length s.rooms=true
 l1:s.lanes.length <= 900
 l2:s.U.length <= 900
 l3:s.lies.length <= 900
 l4:s.done.length <= 100000
noncomputable def kA (K:Frag)(c:Cs)(TC:Addr)(J:TJ)(ys:Ys):Sp:=fun vs H Q _=>∃ (a:YA)(s:YS),vs=[.ref a.y]/\Qp K ys H a s/\v6 c TC J H a /\
 ∀ (y dy ro la le li dn:Addr)(v1 v2 v3:List V)(H':Hp),y1 H H'->H y=none->H a.la=some (.lst v1)->H a.le=some (.lst v2)->H a.li=some (.lst v3)->H' y=some (.ins ys.y3 dy (oE a.tb ro la le li dn))->yD K H' ro s.rooms->H' la=some (.lst v1)->H' le=some (.lst v2)->H' li=some (.lst v3)->H' dn=some (.lst [])->(∀ b ∈ [la,le,li,dn],H b=none)->[la,le,li,dn].Nodup->Q (.ref y) H'
noncomputable def ng (K:Frag)(c:Cs)(TC:Addr)(J:TJ)(ys:Ys):Sp:=fun vs H Q _=>∃ (a:YA)(s:YS),vs=[.ref a.y]/\Qp K ys H a s/\v6 c TC J H a /\
 ∀ (y dy ro la le li dn:Addr)(H':Hp),y1 H H'->(∀ b ∈ [la,le,li,dn],H b=none)->za K (yx ys (a.four ++ ys.ex)) H' (a.twin y dy ro la le li dn) s->Q (.ref y) H'
theorem uX {m:Nat}{rs:List V}(h:jd m rs=true):rs.length=m/\∀ v ∈ rs,∃ r,v = .int r:=by
 unfold jd at h
 rw[Bool.and_eq_true,decide_eq_true_eq,all_eq_true]at h
 exact⟨h.1,fun v hv=>gc (h.2 v hv)⟩
structure Qq (K:Frag)(H B B':Hp)(C y dy la:Addr)(fs:Fs)(vs:List V):Prop where
 s:y1 H B'
 g:B' y=some (.ins C dy fs)
 l:B' la=some (.lst vs)
 n:H la=none
 k:∀ b xs,B b=some (.lst xs)->B' b=some (.lst xs)/\b ≠ la
 r:∀ r xs,yD K B r xs->yD K B' r xs
theorem fY {K:Frag}{H B:Hp}{C y dy la:Addr}{fs:Fs}{vs:List V}(f:Str)(sB:y1 H B)(ny:H y=none)(gy:B y=some (.ins C dy fs))(hl:B la=none) :
  Qq K H B (upd (upd B la (.lst vs)) y (.ins C dy (aN f (.ref la) fs))) C y dy la (aN f (.ref la) fs) vs:=by
 have u:=(y1.refl B).new (o := .lst vs) hl
 have nl:la ≠ y:=Ne.symm (ag gy hl)
 refine⟨fun b o e=>by rw[af (ag e ny)];exact u _ _ (sB _ _ e),ac,by rw[af nl];exact ac,sB.free hl,fun b xs e=>⟨?_,ag e hl⟩,fun r xs h=>dN (u _ _ gy) (b6 u h)⟩
 rw[af (aR e gy (by intro z;cases z))];exact u _ _ e
theorem oG {K:Frag}{ys:Ys}{H B:Hp}{a:YA}{s:YS}{y dy ro la le li dn:Addr}{v1 v2 v3 v4:List V}{dn':List (List V)}(hY:za K ys H a s)(sB:y1 H B)
  (g1:H a.la=some (.lst v1)) (g2:H a.le=some (.lst v2)) (g3:H a.li=some (.lst v3))
  (i:B y=some (.ins ys.y3 dy (oE a.tb ro la le li dn))) (r:yD K B ro s.rooms) (b1:B la=some (.lst v1)) (b2:B le=some (.lst v2)) (b3:B li=some (.lst v3)) (b4:B dn=some (.lst v4)) (p4:Paired (zu B) v4 dn')
  (fr:∀ b ∈ [la,le,li,dn],H b=none) (nd:[la,le,li,dn].Nodup):za K (yx ys (a.four ++ ys.ex)) B (a.twin y dy ro la le li dn) { s with done:=dn' }:=by
 obtain⟨w1,h1,p1⟩:=hY.zx
 obtain⟨w2,h2,p2⟩:=hY.hle
 obtain⟨w3,h3,p3⟩:=hY.Ai
 rw[g1]at h1;cases h1
 rw[g2]at h2;cases h2
 rw[g3]at h3;cases h3
 have K5:∀ p:Addr,(∃ o,H p=some o)->p ∉ a.la :: a.le :: a.li :: a.dn :: ys.ex->p ∉ la :: le :: li :: dn :: (yx ys (a.four ++ ys.ex)).ex:=fun p ⟨o,ho⟩ hn z=>by
  have e:la :: le :: li :: dn :: (yx ys (a.four ++ ys.ex)).ex=[la,le,li,dn] ++ (a.la :: a.le :: a.li :: a.dn :: ys.ex):=rfl
  rw[e]at z
  rcases mem_append.mp z with z | z
  ·rw[fr p z]at ho;cases ho
  ·exact hn z
 refine⟨i,r,⟨v1,b1,Paired.mono (fun v ln z=>?_) p1⟩,⟨v2,b2,Paired.mono (fun v t z=>?_) p2⟩,⟨v3,b3,Paired.mono (fun v q z=>z.keep (y1.yF sB)) p3⟩,⟨v4,b4,p4⟩,nd,fun b hb=>?_⟩
 ·obtain⟨x,dx,pa,yJ,ev,L,n⟩:=z
  exact⟨x,dx,pa,yJ,ev,L.same sB,K5 pa ⟨_,L.lst⟩ n⟩
 ·obtain⟨x,dx,wa,ev,hx,hw,n⟩:=z
  exact⟨x,dx,wa,ev,sB _ _ hx,sB _ _ hw,K5 wa ⟨_,hw⟩ n⟩
 ·obtain⟨xs,hz⟩:=yA.B5 hY b hb
  exact⟨xs,sB _ _ hz⟩
theorem KN:ap ["self", "other"] ["self"] (aj rW):=L2.yW
theorem uW {c:Cs}{ys:Ys}{J:TJ}{TC f EE fy:Addr}{fd EF dy:FuncData}(F:yS K "bare_twin" "Yard.bare_twin" rW f fd)(T:dJ mg)(Y:eU K ys)(W:Wy K TC EE EF J)
  (my:mg "Yard" = some (.ref ys.y3)) (My:Mk K ys.y3 fy) (HH:Binds K dy ["self", "table", "rooms"] []) (Gy:y2 P w K mg base az 4 fy dy ["self", "table", "rooms"] (iE K c TC J (yx ys []))) :
  y2 P w K mg base az 6 f fd ["self"] (kA K c TC J ys):=by
 refine F.ok KN (fun _ _ _ _ h=>?_) (fun _ _ _ s H _ Q E hr h=>?_)
 ·obtain⟨a,s,rfl,_⟩:=h
  rfl
 ·obtain⟨a,st,rfl,hW,hT,q⟩:=h
  have Gj:yC 5 _:=hr.mono (by decide)
  refine⟨_,ae (aw (i:=1) KN.nd rfl (Or.inl rfl) (dz My Gy Gj rfl my HH .nil ao (aa (al (pv 0) rfl) (aa (al (pv 0) rfl) ad))))
   (ae (bj (pv 1) (aJ bx rfl T.list PySem.Pv.boot_list (aa (al (pv 0) rfl) ad)) rfl)
   (ae (bj (pv 1) (aJ bx rfl T.list PySem.Pv.boot_list (aa (al (pv 0) rfl) ad)) rfl)
   (ae (bj (pv 1) (aJ bx rfl T.list PySem.Pv.boot_list (aa (al (pv 0) rfl) ad)) rfl)
   (ah (ar (pv 1)))))),?_⟩
  have hY:=hW.Y
  obtain⟨Cy,hri⟩:=uX hW.ok
  obtain⟨v1,g1,p1⟩:=hY.zx
  obtain⟨v2,g2,p2⟩:=hY.hle
  obtain⟨v3,g3,p3⟩:=hY.Ai
  have B8:=hT.zl
  refine⟨_,rfl,a.y,ys.y3,a.dy,_,_,rfl,hY.ins,Y.cl,Y.n1,rfl,_,rfl,a.y,ys.y3,a.dy,_,_,rfl,hY.ins,Y.cl,Y.n2,rfl,fun y dy ny K8 KA=>?_⟩
  have s1:y1 H (upd (upd H dy (.own y)) y (.ins ys.y3 dy [])):=y1.new (y1.new (y1.refl H) K8) (by rw[af (Ne.symm KA)];exact ny)
  refine⟨y,dy,a.tb,a.lx,a.zb,a.lt,a.n,a.yH,a.ps,a.wy,_,st.rooms,rfl,ac,zj.keep W hT (y1.yF s1),(fun b hb=>by cases hb), .inr ⟨a.ro,rfl, .inr (b6 s1 hY.ED),by omega,(fun v hv=>by obtain⟨r,rfl⟩:=hri v hv;exact .int r),fun h=>by rw[hW.ok]at h;cases h⟩,fun _ ro Pe JQ FD dn H5 o5 Ed EH Hx Hz hN=>⟨rfl,?_⟩⟩
  have s5:y1 H H5:=fun b o e=>o5 b o (fun z=>by rw[mem_singleton.mp z,ny]at e;cases e) (s1 _ _ e)
  have Pg:H dn=none:=s1.free Hz
  have g5:=hN.ins
  have ro5:yD K H5 ro st.rooms:=hN.ED
  have dn5:H5 dn=some (.lst []):=by
   obtain⟨vs,gv,pv⟩:=hN.zD
   have e:(Y0 st.rooms a.n).done=[]:=rfl
   rw[e]at pv
   cases pv
   exact gv
  clear hN o5 s1
  refine⟨_,rfl,a.y,ys.y3,a.dy,_,_,rfl,s5 _ _ hY.ins,Y.cl,Y.n3,rfl,a.la,v1,rfl, .inl (y6.of (s5 _ _ g1)),fun la zx=>?_⟩
  have S6:=fY (K:=K) (vs:=v1) "lanes" s5 ny g5 zx
  refine⟨_,rfl,y,ys.y3,dy,_,rfl,(y1.refl H5).new (o := .lst v1) zx _ _ g5,Y.cl,Y.n3,by show 6 < 1000;decide,?_⟩
  generalize upd (upd H5 la (.lst v1)) y (.ins ys.y3 dy (aN "lanes" (.ref la) (oE a.tb ro Pe JQ FD dn)))=H6 at S6 ⊢
  have g6:H6 y=some (.ins ys.y3 dy (oE a.tb ro la JQ FD dn)):=S6.g
  refine⟨_,rfl,a.y,ys.y3,a.dy,_,_,rfl,S6.s _ _ hY.ins,Y.cl,Y.n4,rfl,a.le,v2,rfl, .inl (y6.of (S6.s _ _ g2)),fun le hle=>?_⟩
  have S7:=fY (K:=K) (vs:=v2) "letters" S6.s ny g6 hle
  refine⟨_,rfl,y,ys.y3,dy,_,rfl,(y1.refl H6).new (o := .lst v2) hle _ _ g6,Y.cl,Y.n4,by show 6 < 1000;decide,?_⟩
  generalize upd (upd H6 le (.lst v2)) y (.ins ys.y3 dy (aN "letters" (.ref le) (oE a.tb ro la JQ FD dn)))=H7 at S7 ⊢
  have g7:H7 y=some (.ins ys.y3 dy (oE a.tb ro la le FD dn)):=S7.g
  refine⟨_,rfl,a.y,ys.y3,a.dy,_,_,rfl,S7.s _ _ hY.ins,Y.cl,Y.n5,rfl,a.li,v3,rfl, .inl (y6.of (S7.s _ _ g3)),fun li Ai=>?_⟩
  have S8:=fY (K:=K) (vs:=v3) "lies" S7.s ny g7 Ai
  refine⟨_,rfl,y,ys.y3,dy,_,rfl,(y1.refl H7).new (o := .lst v3) Ai _ _ g7,Y.cl,Y.n5,by show 6 < 1000;decide,?_⟩
  generalize upd (upd H7 li (.lst v3)) y (.ins ys.y3 dy (aN "lies" (.ref li) (oE a.tb ro la le FD dn)))=H8 at S8 ⊢
  have g8:H8 y=some (.ins ys.y3 dy (oE a.tb ro la le li dn)):=S8.g
  obtain⟨d6,nd6⟩:=S6.k _ _ dn5
  obtain⟨d7,nd7⟩:=S7.k _ _ d6
  obtain⟨d8,nd8⟩:=S8.k _ _ d7
  obtain⟨a7,na7⟩:=S7.k _ _ S6.l
  obtain⟨a8,na8⟩:=S8.k _ _ a7
  obtain⟨e8,ne8⟩:=S8.k _ _ S7.l
  have fr:∀ b ∈ [la,le,li,dn],H b=none:=fun b hb=>by
   simp only[mem_cons,not_mem_nil,or_false]at hb
   rcases hb with rfl | rfl | rfl | rfl
   ·exact S6.n
   ·exact S7.n
   ·exact S8.n
   ·exact Pg
  refine⟨_,rfl,q y dy ro la le li dn v1 v2 v3 H8 S8.s ny g1 g2 g3 g8 (S8.r _ _ (S7.r _ _ (S6.r _ _ ro5))) a8 e8 S8.l d8 fr ?_⟩
  simp only[nodup_cons,mem_cons,not_mem_nil,or_false,not_or,not_false_eq_true,and_true,nodup_nil]
  exact⟨⟨na7,na8,Ne.symm nd6⟩,⟨ne8,Ne.symm nd7⟩,Ne.symm nd8⟩
theorem KO:ap ["self", "other"] ["self"] (aj nr):=L2.yW
theorem sm {c:Cs}{ys:Ys}{J:TJ}{TC f EE fb:Addr}{fd EF db:FuncData}(F:yS K "twin" "Yard.twin" nr f fd)(T:dJ mg)(Y:eU K ys)(W:Wy K TC EE EF J)
  (mb:bB K ys.y3 "bare_twin" fb) (bb:Binds K db ["self"] []) (Gb:y2 P w K mg base az 6 fb db ["self"] (kA K c TC J ys)) :
  y2 P w K mg base az 7 f fd ["self"] (ng K c TC J ys):=by
 refine F.ok KO (fun _ _ _ _ h=>?_) (fun _ _ _ s H _ Q E hr h=>?_)
 ·obtain⟨a,s,rfl,_⟩:=h
  rfl
 ·obtain⟨a,st,rfl,hW,hT,q⟩:=h
  refine⟨_,ae (aw (i:=1) KO.nd rfl (Or.inl rfl) (aO (pv 0) Y.cl mb Gb hr bb .nil ao))
   (ae (bj (pv 1) (aJ bx rfl T.list PySem.Pv.boot_list (aa (al (pv 0) rfl) ad)) rfl)
   (ah (ar (pv 1)))),?_⟩
  have hY:=hW.Y
  obtain⟨v4,g4,p4⟩:=hY.zD
  refine⟨_,rfl,a.y,a.dy,_,rfl,hY.ins,rfl,a,st,rfl,hW,hT,fun y dy ro la le li dn v1 v2 v3 H5 s5 ny g1 g2 g3 g5 r5 a5 e5 i5 d5 fr nd=>?_⟩
  refine⟨_,rfl,a.y,ys.y3,a.dy,_,_,rfl,s5 _ _ hY.ins,Y.cl,Y.n6,rfl,a.dn,v4,rfl, .inl (y6.of (s5 _ _ g4)),fun dn' zD=>?_⟩
  have S6:=fY (K:=K) (vs:=v4) "done" s5 ny g5 zD
  refine⟨_,rfl,y,ys.y3,dy,_,rfl,(y1.refl H5).new (o := .lst v4) zD _ _ g5,Y.cl,Y.n6,by show 6 < 1000;decide,?_⟩
  generalize upd (upd H5 dn' (.lst v4)) y (.ins ys.y3 dy (aN "done" (.ref dn') (oE a.tb ro la le li dn)))=H6 at S6 ⊢
  have g6:H6 y=some (.ins ys.y3 dy (oE a.tb ro la le li dn')):=S6.g
  obtain⟨c1,n1⟩:=S6.k _ _ a5
  obtain⟨c2,n2⟩:=S6.k _ _ e5
  obtain⟨c3,n3⟩:=S6.k _ _ i5
  have U9:∀ b ∈ [la,le,li,dn'],H b=none:=fun b hb=>by
   simp only[mem_cons,not_mem_nil,or_false]at hb
   rcases hb with rfl | rfl | rfl | rfl
   ·exact fr _ (by simp)
   ·exact fr _ (by simp)
   ·exact fr _ (by simp)
   ·exact S6.n
  refine⟨_,rfl,q y dy ro la le li dn' H6 S6.s U9 (oG (dn':=st.done) hY S6.s g1 g2 g3 g6 (S6.r _ _ r5) c1 c2 c3 S6.l (Paired.mono (fun v m z=>zu.keep (y1.yF S6.s) z) p4) U9 ?_)⟩
  simp only[nodup_cons,mem_cons,not_mem_nil,or_false,not_or,not_false_eq_true,and_true,nodup_nil]at nd ⊢
  exact⟨⟨nd.1.1,nd.1.2.1,n1⟩,⟨nd.2.1.1,n2⟩,n3⟩
noncomputable def rh:Sp:=fun vs H Q _=>∃ (c:Int)(k:Nat),vs=[.int c, .int k]/\k <= 1000000/\∀ d:Int,0 <= d->d < 2147483647->Q (.int d) H
noncomputable def il:Sp:=fun vs H Q _=>∃ (cl:Int)(am:Nat)(bs:Int),vs=[.int cl, .int am, .int bs]/\am <= 20000/\1 <= bs/\bs < 1000000/\∀ (D:Addr)(ds:List Int)(H':Hp),y1 H H'->H D=none->H' D=some (.lst (ds.map V.int))->ds.length=am->(∀ d ∈ ds,0 <= d)->Q (.ref D) H'
noncomputable def oP (K:Frag):Sp:=fun vs H Q _=>∃ (sc:Addr)(ns:List Int)(n:Nat),vs=[.ref sc, .int n]/\y6 K H sc (ns.map V.int)/\2 <= n/\n <= 12/\∀ (D:Addr)(yB:List V)(ps:List (Int × Int))(H':Hp),y1 H H'->H D=none->H' D=some (.lst yB)->yT H' yB ps->(∀ p ∈ ps,gG n p=true)->2 <= ps.length->ps.length <= 4->Q (.ref D) H'
theorem uL {f:Addr}{fd:FuncData}(F:yS K "_law_mixed" "_law_mixed" wK f fd):y2 P w K mg base az 1 f fd ["_law_cell", "_law_k"] rh:=by
 refine F.ok EA (fun _ _ _ _ h=>?_) (fun _ _ _ s H _ Q E hr h=>?_)
 ·obtain⟨c,k,rfl,_⟩:=h
  rfl
 ·obtain⟨c,k,rfl,hk,q⟩:=h
  refine⟨_,ae (aw (i:=2) EA.nd rfl (Or.inl rfl) (aA bC (aA jb (aA bG (aA bG (aA bC (pv 0) ai) (aA jb ai (pv 1))) ai) ai) ai))
   (ah (ar (aA bC (aA jb (pv 2) (aA bG (aA cj (pv 2) ai) ai)) ai))),?_⟩
  have pos:(0:Int) < 2147483647:=by decide
  refine⟨_,rfl,_,_,rfl,rfl,pos,_,rfl,_,_,rfl,rfl, .inl ⟨by decide,by decide⟩,_,_,rfl,rfl,_,_,rfl,rfl,_,_,rfl,rfl, .inr ⟨by decide,by decide⟩,_,_,rfl,rfl,pos,?_⟩
  dsimp only
  have h1:=emod_nonneg ((c % 2147483647 + 7919 * (k:Int) + 1) * 48271) (show (2147483647:Int) ≠ 0 by decide)
  have h2:=emod_lt_of_pos ((c % 2147483647 + 7919 * (k:Int) + 1) * 48271) pos
  generalize (c % 2147483647 + 7919 * (k:Int) + 1) * 48271 % 2147483647=m at h1 h2
  refine⟨_,rfl,_,rfl,_,_,rfl,rfl,⟨by decide,by decide⟩,_,_,rfl,rfl,_,_,rfl,rfl, .inl ⟨by omega,by omega⟩,_,_,rfl,rfl,pos,?_⟩
  exact q _ (emod_nonneg _ (by decide)) (emod_lt_of_pos _ pos)
abbrev NDr:List Str:=["_law_cell", "_law_amount", "_law_base", "_law_drawn", "_law_rest", "_law_k", "_law_number"]
theorem C3:ap NDr ["_law_cell", "_law_amount", "_law_base"] (aj nJ):=L2.yW
theorem sI {f fm:Addr}{fd dm:FuncData}(F:yS K "_law_draws" "_law_draws" nJ f fd)(T:dJ mg)(mm:mg "_law_mixed" = some (.ref fm))(km:keepIn K (.ref fm)=true)(bm:Binds K dm ["_law_cell", "_law_k"] [])(Gm:y2 P w K mg base az 1 fm dm ["_law_cell", "_law_k"] rh) :
  y2 P w K mg base az 2 f fd ["_law_cell", "_law_amount", "_law_base"] il:=by
 refine F.ok C3 (fun _ _ _ _ h=>?_) (fun _ _ _ s H _ Q E hr h=>?_)
 ·obtain⟨cl,am,bs,rfl,_⟩:=h
  rfl
 ·obtain⟨cl,am,bs,rfl,ham,hb1,hb2,q⟩:=h
  refine⟨_,ae (aw (i:=3) C3.nd rfl (Or.inl rfl) (aU ad))
   (ae (aw (i:=4) C3.nd rfl (Or.inl rfl) (aA cj (pv 0) ai))
   (ae (bL PassesOwn.never rfl (bE rfl T.range (aa (pv 1) ad)) (ay (i:=5) C3.nd rfl (Or.inl rfl))
    (ah (aP (ax bN (aA bC (pv 0) ai) ai (aB _))
     (ae (aL (bV plainAttrs_list PySem.F.slot_list_append PySem.F.type_list_append aV (pv 3) (aa (aA bC (pv 4) (pv 2)) ad)))
     (ah (aw (i:=4) C3.nd rfl (Or.inl rfl) (aA cj (pv 4) (pv 2)))))
     (ae (aw (i:=6) C3.nd rfl (Or.inl rfl) (av Gm hr rfl mm km bm .nil ao (aa (pv 4) (aa (pv 5) ad))))
     (ah (aL (bV plainAttrs_list PySem.F.slot_list_append PySem.F.type_list_append aV (pv 3) (aa (aA bC (aA jb (pv 6) (aA bG (aA cj (pv 6) ai) ai)) ai) ad))))))))
   (ah (ar (pv 3))))),?_⟩
  refine⟨zero_le _,fun D hD=>?_⟩
  have s0:=(y1.refl H).new (o := .lst []) hD
  refine⟨_,rfl,_,_,rfl,rfl,⟨by decide,by decide⟩,?_⟩
  dsimp only
  refine⟨_,rfl,(am:Int),rfl,by omega,by omega,?_⟩
  rw[toNat_natCast]
  refine bW (n:=am) (fun i σ H2=>∃ (a5 a6:Option V)(r:Int)(ds:List Int),y1 H H2/\H2 D=some (.lst (ds.map V.int))/\ds.length=i/\(∀ d ∈ ds,0 <= d)/\σ=[some (.int cl),some (.int am),some (.int bs),some (.ref D),some (.int r),a5,a6])
   ⟨none,none,_,[],s0,ac,rfl,(fun d hd=>by cases hd),rfl⟩ ?_ ?_
  ·rintro i σ H2 hi ⟨a5,a6,r,ds,s2,gD,hl,Qr,rfl⟩
   rw[zero_add]
   have more:∀ x:Int,0 <= x->y1 H (upd H2 D (.lst (ds.map V.int ++ [.int x])))/\(upd H2 D (.lst (ds.map V.int ++ [.int x]))) D=some (.lst ((ds ++ [x]).map V.int))/\(ds ++ [x]).length=i + 1/\∀ d ∈ ds ++ [x],0 <= d:=fun x hx =>
    ⟨fun b o e=>by rw[af (ag e hD)];exact s2 _ _ e,by rw[ac,map_append];rfl,by rw[length_append,hl];rfl,fun d hd=>by
     rcases mem_append.mp hd with hd | hd
     ·exact Qr d hd
     ·rw[mem_singleton.mp hd];exact hx⟩
   have hsz:(ds.map V.int).length < sizeLine:=by rw[length_map,sizeLine_eq];omega
   refine⟨_,rfl,_,_,rfl,rfl,(by show (0:Int) < 2;decide),rfl,_,rfl,?_⟩
   refine vh (fun _=>?_) fun _=>?_
   ·refine⟨_,rfl, .inl ⟨rfl,_,y6.of gD⟩,_,rfl,_,rfl,_,_,rfl,rfl,(by show 0 < bs;omega),D,_,_,rfl,rfl,gD,hsz,?_⟩
    obtain⟨m1,m2,m3,m4⟩:=more (r % bs) (emod_nonneg _ (by omega))
    exact⟨_,rfl,_,rfl,_,_,rfl,rfl,⟨by omega,by omega⟩,_,_,_,_,m1,m2,m3,m4,rfl⟩
   ·refine⟨_,rfl,_,rfl,r,i,rfl,by omega,fun d hd1 hd2=>?_⟩
    have e1:0 <= d / 613:=Int.ediv_nonneg hd1 (by decide)
    refine⟨_,rfl, .inl ⟨rfl,_,y6.of gD⟩,_,rfl,_,rfl,_,_,rfl,rfl,⟨by decide,by decide⟩,_,_,rfl,rfl,_,_,rfl,rfl, .inl ⟨by omega,by omega⟩,_,_,rfl,rfl,(by show (0:Int) < 2147483399;decide),D,_,_,rfl,rfl,gD,hsz,?_⟩
    obtain⟨m1,m2,m3,m4⟩:=more (d * (d / 613 + 40692) % 2147483399) (emod_nonneg _ (by decide))
    exact⟨_,_,_,_,m1,m2,m3,m4,rfl⟩
  ·rintro σ H2 ⟨a5,a6,r,ds,s2,gD,hl,Qr,rfl⟩
   exact⟨_,rfl,q D ds H2 s2 hD gD hl Qr⟩
abbrev NLn:List Str:=["_law_script", "_law_places", "_law_amount", "_law_lanes_here", "_law_draw"]
theorem Ej:ap NLn ["_law_script", "_law_places"] (aj nD):=L2.yW
theorem sD {f fm fc:Addr}{fd dm dc:FuncData}(F:yS K "_law_lanes" "_law_lanes" nD f fd)(T:dJ mg)(mm:mg "_law_draws" = some (.ref fm))(km:keepIn K (.ref fm)=true)(bm:Binds K dm ["_law_cell", "_law_amount", "_law_base"] [])(Gm:y2 P w K mg base az 2 fm dm ["_law_cell", "_law_amount", "_law_base"] il)
  (mc:mg "_law_cell_at" = some (.ref fc)) (kc:keepIn K (.ref fc)=true) (bc:Binds K dc ["_law_script", "_law_k"] []) (Gc:y2 P w K mg base az 1 fc dc ["_law_script", "_law_k"] (k4 K)):y2 P w K mg base az 3 f fd ["_law_script", "_law_places"] (oP K):=by
 refine F.ok Ej (fun _ _ _ _ h=>?_) (fun _ _ _ s H _ Q E hr h=>?_)
 ·obtain⟨sc,ns,n,rfl,_⟩:=h
  rfl
 ·obtain⟨sc,ns,n,rfl,hS,CN,Pa,q⟩:=h
  have zi:yC 1 _:=hr.mono (by decide)
  refine⟨_,ae (aw (i:=2) Ej.nd rfl (Or.inl rfl) (aA bG ai (aA bC (aA cj (av Gc zi rfl mc kc bc .nil ao (aa (pv 0) (aa ai ad))) ai) ai)))
   (ae (aw (i:=3) Ej.nd rfl (Or.inl rfl) (aU ad))
   (ae (bL PassesOwn.never rfl (bz (av Gm hr rfl mm km bm .nil ao (aa (aA cj (av Gc zi rfl mc kc bc .nil ao (aa (pv 0) (aa ai ad))) ai) (aa (pv 2) (aa ai ad))))) (ay (i:=4) Ej.nd rfl (Or.inl rfl))
    (ah (aP (ga (PW.pt (gA (ax bN (aA bC (av Gc zi rfl mc kc bc .nil ao (aa (pv 0) (aa ai ad))) ai) ai (aB _)) (fX (ax jD (au aq rfl T.len PySem.boot_len (aa (pv 3) ad)) (pv 1) (aB _))))))
     (ah (aL (bV plainAttrs_list PySem.F.slot_list_append PySem.F.type_list_append aV (pv 3) (aa (aW (aa (au aq rfl T.len PySem.boot_len (aa (pv 3) ad)) (aa (aA bC (aA bG (au aq rfl T.len PySem.boot_len (aa (pv 3) ad)) ai) (pv 1)) ad))) ad))))
     (ah (aL (bV plainAttrs_list PySem.F.slot_list_append PySem.F.type_list_append aV (pv 3) (aa (aW (aa (aA bC (pv 4) (pv 1)) (aa (aA bC (aA bG (aA bG (aA bC (pv 4) (pv 1)) ai) (aA bC (aA cj (pv 4) (pv 1)) (aA cT (pv 1) ai))) (pv 1)) ad))) ad)))))))
   (ah (ar (pv 3))))),?_⟩
  have two:(2:Nat) <= sizeLine:=by decide
  have Gq:(0:Int) < (n:Int):=by omega
  have UA:(0:Int) < (n:Int) - 1:=by omega
  refine⟨_,rfl,sc,ns,0,rfl,hS,fun d0=>⟨_,_,rfl,rfl,⟨by decide,by decide⟩,_,_,rfl,rfl,(by show (0:Int) < 3;decide),_,_,rfl,rfl,?_⟩⟩
  have am1:=emod_nonneg (d0 / 2) (show (3:Int) ≠ 0 by decide)
  have am2:=emod_lt_of_pos (d0 / 2) (show (0:Int) < 3 by decide)
  obtain⟨am,eam,ham⟩:∃ am:Nat,2 + d0 / 2 % 3=(am:Int)/\2 <= am/\am <= 4:=⟨(2 + d0 / 2 % 3).toNat,by omega,by omega,by omega⟩
  dsimp only
  rw[eam]
  refine⟨zero_le _,fun D hD=>?_⟩
  have s0:=(y1.refl H).new (o := .lst []) hD
  have g0:(upd H D (.lst [])) D=some (.lst []):=ac
  generalize upd H D (.lst [])=H1 at s0 g0 ⊢
  refine⟨_,rfl,sc,ns,1,rfl,s0.seq hS,fun d1=>⟨_,_,rfl,rfl,⟨by decide,by decide⟩,_,rfl,_,am,_,rfl,by omega,by decide,by decide,fun Dd ds H2 s2 UB UC CU zD=>⟨Dd,rfl,⟨_,y6.of UC⟩,?_⟩⟩⟩
  have sH2:=s0.trans s2
  have nDd:Dd ≠ D:=Ne.symm (ag g0 UB)
  have nHd:H Dd=none:=s0.free UB
  refine cx (K:=K) (a:=Dd) (xs:=ds.map V.int) (fun i σ H2=>∃ (a4:Option V)(yB:List V)(ps:List (Int × Int)),y1 H H2/\H2 Dd=some (.lst (ds.map V.int))/\H2 D=some (.lst yB)/\yT H2 yB ps/\(∀ p ∈ ps,gG n p=true)/\ps.length=i/\σ=[some (.ref sc),some (.int n),some (.int am),some (.ref D),a4])
   ⟨none,[],[],sH2,UC,s2 _ _ g0, .nil,(fun e he=>by cases he),rfl,rfl⟩ (fun i σ H2 _ y8=>by obtain⟨_,_,_,_,g,_⟩:=y8;exact y6.of g) ?_ ?_
  ·rintro i v σ H3 hv ⟨a4,yB,ps,s3,Qs,gD,CG,yE,hl,rfl⟩
   have hi:i < ds.length:=by have:=(gQ0 hv);rw[length_map]at this;exact this
   obtain⟨d,rfl⟩:∃ d,v=V.int d:=by
    rw[getElem?_map,getElem?_eq_getElem hi]at hv
    exact⟨_,(Option.some.inj hv).symm⟩
   have hS3:=s3.seq hS
   have As:yB.length=ps.length:=Paired.length CG
   have hsz:yB.length < sizeLine:=by rw[sizeLine_eq];omega
   have fin:∀ (x y:Int)(t1:Addr),H3 t1=none->gG n (x,y)=true->∃ (a4:Option V)(FN:List V)(ps:List (Int × Int)),y1 H (upd (upd H3 t1 (.tup [.int x, .int y])) D (.lst (yB ++ [.ref t1])))/\(upd (upd H3 t1 (.tup [.int x, .int y])) D (.lst (yB ++ [.ref t1]))) Dd=some (.lst (ds.map V.int))/\(upd (upd H3 t1 (.tup [.int x, .int y])) D (.lst (yB ++ [.ref t1]))) D=some (.lst FN)/\yT (upd (upd H3 t1 (.tup [.int x, .int y])) D (.lst (yB ++ [.ref t1]))) FN ps/\(∀ p ∈ ps,gG n p=true)/\ps.length=i + 1/\([some (.ref sc),some (.int n),some (.int am),some (.ref D),some (.int d)]:St)=[some (.ref sc),some (.int n),some (.int am),some (.ref D),a4]:=fun x y t1 h1 F5=>by
    obtain⟨e1,e2,e3⟩:=jt (x:=x) (y:=y) hD s3 gD CG h1
    refine⟨_,_,_,e2,by rw[af nDd,af (ag Qs h1)];exact Qs,ac,e3,fun p hp=>?_,by rw[length_append,hl];rfl,rfl⟩
    rcases mem_append.mp hp with hp | hp
    ·exact yE p hp
    ·rw[mem_singleton.mp hp];exact F5
   refine⟨fun b H'=>H' = H3/\(b=true->yB.length < n),?_,?_⟩
   ·refine⟨_,rfl,sc,ns,1,rfl,hS3,fun d2=>⟨_,_,rfl,rfl,(by show (0:Int) < 2;decide),rfl,_,rfl,?_⟩⟩
    refine vh (fun _=>⟨_,rfl,D,_,rfl, .inl (y6.of gD),_,rfl,_,_,rfl,rfl,_,rfl,rfl,fun h=>?_⟩) fun _=>⟨rfl,fun h=>by cases h⟩
    have:=of_decide_eq_true h
    omega
   rintro b H' ⟨rfl,hb⟩
   refine vh (fun h=>?_) fun _=>?_
   ·have yR:=hb h
    refine⟨_,rfl, .inl ⟨rfl,_,y6.of gD⟩,_,rfl,D,_,rfl, .inl (y6.of gD),_,rfl,D,_,rfl, .inl (y6.of gD),_,_,rfl,rfl,_,rfl,_,_,rfl,rfl,Gq,two,fun t1 h1=>?_⟩
    have r:=kK (n:=n) (x:=(yB.length:Int)) (o:=0) (by omega) (by omega) (by omega) (by omega)
    rw[Int.add_zero]at r
    obtain⟨e1,_,_⟩:=jt (x:=(yB.length:Int)) (y:=((yB.length:Int) + 1) % (n:Int)) hD s3 gD CG h1
    exact⟨D,yB,_,rfl,rfl,e1,hsz,fin _ _ t1 h1 (sL (by omega) (by omega) r.1 r.2.1 r.2.2)⟩
   ·have e1:=emod_nonneg d (show (n:Int) ≠ 0 by omega)
    have e2:=emod_lt_of_pos d Gq
    have e3:=emod_nonneg (d / (n:Int)) (show (n:Int) - 1 ≠ 0 by omega)
    have e4:=emod_lt_of_pos (d / (n:Int)) UA
    have r:=kK e1 e2 e3 e4
    refine⟨_,rfl, .inl ⟨rfl,_,y6.of gD⟩,_,rfl,_,rfl,_,_,rfl,rfl,Gq,_,rfl,_,rfl,_,_,rfl,rfl,Gq,_,_,rfl,rfl,_,rfl,_,rfl,_,_,rfl,rfl,⟨by omega,by omega⟩,_,rfl,_,_,rfl,rfl,_,_,rfl,rfl,UA,_,_,rfl,rfl,_,rfl,_,_,rfl,rfl,Gq,two,fun t1 h1=>?_⟩
    obtain⟨f1,_,_⟩:=jt (x:=d % (n:Int)) (y:=(d % (n:Int) + 1 + d / (n:Int) % ((n:Int) - 1)) % (n:Int)) hD s3 gD CG h1
    exact⟨D,yB,_,rfl,rfl,f1,hsz,fin _ _ t1 h1 (sL e1 e2 r.1 r.2.1 r.2.2)⟩
  ·rintro σ H3 ⟨a4,yB,ps,s3,Qs,gD,CG,yE,hl,rfl⟩
   rw[length_map]at hl
   exact⟨_,rfl,q D yB ps H3 s3 hD gD CG yE (by omega) (by omega)⟩
noncomputable def rY (r:Rw):Nat:=(r.g.toNat * 100 + Qm r.c) * 100 + r.p.toNat
theorem xQ {a b:Rw}(h:bA a=bA b):rY a=rY b:=by
 unfold bA at h
 injection h with h1 h2
 injection h2 with h2 h3
 injection h3 with h3 _
 injection h1 with h1
 injection h2 with h2
 have h4:a.c=b.c:=by
  cases ha:a.c with
  | none=>cases hb:b.c with
   | none=>rfl
   | some k=>rw[ha,hb]at h3;cases h3
  | some k=>cases hb:b.c with
   | none=>rw[ha,hb]at h3;cases h3
   | some k' =>
    rw[ha,hb]at h3
    have h3:some (k:Int)=some (k':Int):=h3
    injection h3 with h3
    rw[show k=k' by omega]
 unfold rY
 rw[h1,h2,h4]
structure C4 (n:Nat)(ps:List (Int × Int))(B:Nat)(rs:List Rw):Prop where
 sort:(rs.map rY).Pairwise (· < ·)
 low:∀ r ∈ rs,rY r < B
 fit:∀ r ∈ rs,dZ n ps r=true
 zl:∀ r ∈ rs,r.s.length <= 40
theorem C4.up {n:Nat}{ps:List (Int × Int)}{B B':Nat}{rs:List Rw}(h:C4 n ps B rs)(l:B <= B'):C4 n ps B' rs:=⟨h.sort,fun r hr=>lt_of_lt_of_le (h.low r hr) l,h.fit,h.zl⟩
theorem C4.snoc {n:Nat}{ps:List (Int × Int)}{B:Nat}{rs:List Rw}{r:Rw}(h:C4 n ps B rs)(hr:B <= rY r)(hf:dZ n ps r=true)(hl:r.s.length <= 40):C4 n ps (rY r + 1) (rs ++ [r]):=by
 refine⟨?_,fun x hx=>?_,fun x hx=>?_,fun x hx=>?_⟩
 ·rw[map_append,List.pairwise_append]
  refine⟨h.sort,by simp,fun x hx y hy=>?_⟩
  obtain⟨r',D7,rfl⟩:=mem_map.mp hx
  have hy:y=rY r:=by simpa using hy
  rw[hy]
  exact lt_of_lt_of_le (h.low r' D7) hr
 ·rcases mem_append.mp hx with hx | hx
  ·have:=h.low x hx;omega
  ·rw[mem_singleton.mp hx];omega
 ·rcases mem_append.mp hx with hx | hx
  ·exact h.fit x hx
  ·rw[mem_singleton.mp hx];exact hf
 ·rcases mem_append.mp hx with hx | hx
  ·exact h.zl x hx
  ·rw[mem_singleton.mp hx];exact hl
theorem C4.good {n:Nat}{ps:List (Int × Int)}{B:Nat}{rs:List Rw}(h:C4 n ps B rs):cY n ps rs rs.length=none:=by
 refine fj fun k hk=>?_
 have hr:rs[k]? = some rs[k]:=getElem?_eq_getElem hk
 have MG:rs.getD k ⟨0,0,none,[]⟩ = rs[k]:=by rw[getD_eq_getElem?_getD,hr];rfl
 rw[MG,gm,h.fit _ (getElem_mem hk)]
 have Qt:((rs.take k).any fun a=>decide (bA a=bA rs[k]))=false:=by
  rw[List.any_eq_false]
  intro a ha hd
  have e:=xQ (of_decide_eq_true hd)
  obtain⟨j,hj,ea⟩:=List.mem_take_iff_getElem.mp ha
  have MZ:j < k:=by omega
  have:=List.pairwise_iff_getElem.mp h.sort j k (by rw[length_map];omega) (by rw[length_map];exact hk) MZ
  rw[getElem_map,getElem_map,ea]at this
  omega
 rw[Qt];rfl
noncomputable def Qu (x:Addr)(H:Hp)(v:V)(r:Rw):Prop:=∃ t l,v = .ref t/\F7 H t l r/\l ≠ x
abbrev AR (x:Addr)(H:Hp):List V->List Rw->Prop:=Paired (Qu x H)
theorem AR.imp {x:Addr}{H H':Hp}{G:V->Rw->Prop}(h:∀ v r,Qu x H v r->G v r):∀ {vs:List V}{rs:List Rw},AR x H vs rs->Paired G vs rs:=fun y8=>by
 induction y8 with
 | nil=>exact .nil
 | cons z r ih=>exact .cons (h _ _ z) ih
theorem AR.rws {x:Addr}{H:Hp}{vs:List V}{rs:List Rw}(h:AR x H vs rs):Cf H vs rs:=AR.imp (H':=H) (fun _ _ ⟨t,l,e,z,_⟩=>⟨t,l,e,z⟩) h
theorem AR.same {x:Addr}{H H':Hp}(s:y1 H H'){vs:List V}{rs:List Rw}(h:AR x H vs rs):AR x H' vs rs:=AR.imp (H':=H) (fun _ _ ⟨t,l,e,z,n⟩=>⟨t,l,e,z.same s,n⟩) h
theorem AR.off {x:Addr}{H:Hp}{xs:List V}{o:HO}(hx:H x=some (.lst xs)){vs:List V}{rs:List Rw}(h:AR x H vs rs):AR x (upd H x o) vs rs :=
 AR.imp (H':=H) (fun _ _ y8=>by obtain⟨t,l,e,z,n⟩:=y8;exact⟨t,l,e,⟨by rw[af (aR z.1 hx (by intro z;cases z))];exact z.1,by rw[af n];exact z.2⟩,n⟩) h
theorem AR.snoc {x:Addr}{H:Hp}{v:V}{r:Rw}(h:Qu x H v r):∀ {vs:List V}{rs:List Rw},AR x H vs rs->AR x H (vs ++ [v]) (rs ++ [r]):=fun y8=>by
 induction y8 with
 | nil=>exact .cons h .nil
 | cons z t ih=>exact .cons z ih
noncomputable def gL (m:Nat):List (Option Nat):=none :: (List.range m).map some
theorem yq (m:Nat):[V.yK] ++ ((List.range m).map fun k:Nat=>V.int (k:Int))=(gL m).map cV:=by
 unfold gL
 rw[map_cons,map_map]
 rfl
theorem tW {m j:Nat}{v:V}(h:((gL m).map cV)[j]? = some v):∃ c,v=cV c/\Qm c=j/\∀ k,c=some k->k < m:=by
 rw[getElem?_map]at h
 cases j with
 | zero=>exact⟨none,(Option.some.inj h).symm,rfl,fun k e=>by cases e⟩
 | succ j =>
  unfold gL at h
  rw[List.getElem?_cons_succ,getElem?_map]at h
  by_cases hj:j < m
  ·rw[List.getElem?_range hj]at h
   exact⟨some j,(Option.some.inj h).symm,rfl,fun k e=>by cases e;exact hj⟩
  ·rw[List.getElem?_eq_none (by rw[length_range];omega)]at h
   cases h
theorem C4.len {n:Nat}{ps:List (Int × Int)}{B:Nat}{rs:List Rw}(h:C4 n ps B rs):rs.length <= B:=by
 have:=eP B (rs.map rY) (h.sort.imp fun h=>ne_of_lt h) fun x hx=>by
  obtain⟨r,hr,rfl⟩:=mem_map.mp hx
  exact h.low r hr
 rw[length_map]at this
 exact this
noncomputable def lim (xs:List Nat)(t:Nat):Nat:=if t=0 then 0 else xs.getD (t - 1) 0 + 1
theorem xN {xs:List Nat}(hs:xs.Pairwise (· < ·)){t p:Nat}(h:xs[t]? = some p):lim xs t <= p:=by
 unfold lim
 by_cases h0:t=0
 ·rw[if_pos h0];omega
 ·rw[if_neg h0]
  obtain⟨ht,e⟩:=List.getElem?_eq_some_iff.mp h
  have h1:=List.pairwise_iff_getElem.mp hs (t - 1) t (by omega) ht (by omega)
  rw[getD_eq_getElem?_getD,getElem?_eq_getElem (by omega)]
  rw[e]at h1
  exact h1
theorem sZ {xs:List Nat}{t p:Nat}(h:xs[t]? = some p):lim xs (t + 1)=p + 1:=by
 unfold lim
 rw[if_neg (by omega),Nat.add_sub_cancel,getD_eq_getElem?_getD,h];rfl
theorem vd {xs:List Nat}(h:∀ p ∈ xs,p < 100):lim xs xs.length <= 100:=by
 unfold lim
 by_cases h0:xs.length=0
 ·rw[if_pos h0];omega
 ·rw[if_neg h0,getD_eq_getElem?_getD,getElem?_eq_getElem (show xs.length - 1 < xs.length by omega)]
  exact h _ (getElem_mem _)
noncomputable def rn (P:Program)(w:World)(c:Cs)(ts:Ts):Sp:=fun vs H Q _=>∃ (l:Addr)(yB:List V)(ps:List (Int × Int))(n:Nat)(cl:Int),vs=[.ref l, .int n, .int cl]/\H l=some (.lst yB)/\yT H yB ps/\(∀ p ∈ ps,gG n p=true)/\ps.length <= 6/\2 <= n/\n <= 4 /\
 ∀ (x lx zb lt:Addr)(yH:List V)(wy:Wf)(H':Hp),y1 H H'->H x=none->zj c ts.told (yN P w ts) H' x lx zb lt n yH ps wy->(∀ p g k,(wy p g k).length <= 400)->Q (.ref x) H'
abbrev Na:List Str:=["_law_lanes_here", "_law_places", "_law_cell", "_law_rows", "_law_goal", "_law_came", "_law_some", "_law_place", "_law_draw", "_law_out", "_law_ways", "_law_draws_here"]
noncomputable def Qv (s:Stmt):Scope:=match s with
 | .For _ (.ListComp _ _ sc _) _ _ _=>sc
 | _=>zQ0
noncomputable def we:Stmt:=sN (ot (sN (ot (sN (aM iP) 2)) 0)) 2
noncomputable def p8:List Stmt:=ot we
noncomputable def DC (n:Nat):Nat->Nat
 | 0=>0
 | j + 1=>n + j
structure Gz (H:Hp)(DD:Addr)(ds:List Int)(H2:Hp):Prop where
 s:y1 H H2
 d:H2 DD=some (.lst (ds.map V.int))
theorem Gz.trans {H H2 H3:Hp}{DD:Addr}{ds:List Int}(h:Gz H DD ds H2)(k:y1 H2 H3):Gz H DD ds H3:=⟨h.s.trans k,k _ _ h.d⟩
theorem Av:ap Na ["_law_lanes_here", "_law_places", "_law_cell"] (aj iP):=L2.yW
theorem KP:zP Na (aj iP) (Qv we) ["_law_goal"] [4]:=L2.AN
theorem KQ:(["_law_place", "_law_goal"]:List Str).Nodup:=by decide +kernel
theorem KS:zP Na (aj iP) (KD (sN p8 1)) ["_law_lanes_here", "_law_place"] [0,7]:=L2.AN
theorem KU:zP Na (aj iP) (KD (sN p8 2)) ["_law_draw"] [8]:=L2.AN
theorem KW:(["_law_lane", "_law_lanes_here", "_law_place"]:List Str).Nodup:=by decide +kernel
theorem KY:(["_law_lane", "_law_draw"]:List Str).Nodup:=by decide +kernel
theorem uM {c:Cs}{ts:Ts}{f fm fi ft:Addr}{fd dm di dt:FuncData}(F:yS K "_law_table" "_law_table" iP f fd)(T:dJ mg)(mm:mg "_law_draws" = some (.ref fm))(km:keepIn K (.ref fm)=true)(bm:Binds K dm ["_law_cell", "_law_amount", "_law_base"] [])(Gm:y2 P w K mg base az 2 fm dm ["_law_cell", "_law_amount", "_law_base"] il)
  (mi:mg "Land" = some (.ref c.land)) (Mi:Mk K c.land fi) (bi:Binds K di ["self", "places", "lanes"] []) (Gi:y2 P w K mg base az 4 fi di ["self", "places", "lanes"] (r6 K c))
  (mt:mg "Told" = some (.ref ts.told)) (Mt:Mk K ts.told ft) (bt:Binds K dt ["self", "land", "rows"] []) (Gt:y2 P w K mg base az 5 ft dt ["self", "land", "rows"] (rb P w K c ts)) :
  y2 P w K mg base az 7 f fd ["_law_lanes_here", "_law_places", "_law_cell"] (rn P w c ts):=by
 refine F.ok Av (fun _ _ _ _ h=>?_) (fun _ _ _ s H _ Q E hr h=>?_)
 ·obtain⟨l,yB,ps,n,cl,rfl,_⟩:=h
  rfl
 ·obtain⟨l,yB,ps,n,cl,rfl,gl,BS,yE,Bq,CN,hn4,q⟩:=h
  have hu:=hr.units
  have zV:yC 2 _:=hr.mono (by decide)
  have Gj:yC 5 _:=hr.mono (by decide)
  refine⟨_,ae (aw (i:=3) Av.nd rfl (Or.inl rfl) (aU ad))
   (ae (aw (i:=11) Av.nd rfl (Or.inl rfl) (av Gm zV rfl mm km bm .nil ao (aa (pv 2) (aa (aA jb (pv 1) (aA bG (pv 1) (au aq rfl T.len PySem.boot_len (aa (pv 0) ad)))) (aa (aA nN ai ai) ad)))))
   (ae (bL PassesOwn.never rfl (bE rfl T.range (aa (pv 1) ad)) (ay (i:=4) Av.nd rfl (Or.inr rfl))
    (ah (bL PassesOwn.never rfl (bz (aA xf (aU (aa bS ad)) (aJ (fz rfl) rfl T.list PySem.Pv.boot_list (aa (aJ mI rfl T.range PyProof.Rows.boot_range (aa (au aq rfl T.len PySem.boot_len (aa (pv 0) ad)) ad)) ad)))) (ay (i:=5) Av.nd rfl (Or.inl rfl))
     (ae (aw (i:=6) Av.nd rfl (Or.inl rfl) (aJ (fz rfl) rfl T.list PySem.Pv.boot_list (aa (aJ mI rfl T.range PyProof.Rows.boot_range (aa (pv 1) ad)) ad)))
     (ae (ip (aP (ax ir (pv 5) bS (aB _)) (ah (aw (i:=6) Av.nd rfl (Or.inl rfl) (aU (aa (aC aE (aC aS (pv 0) (pv 5) (fun _ _=>rfl)) ai (fun _ _=>rfl)) ad)))) aD))
     (ah (bL PassesOwn.never rfl (bz (bH (own:=["_law_place"]) (capN:=["_law_goal"]) (cap:=[4]) KP rfl (bz (pv 6))
       (fun C s' H' fp=>⟨ay (i:=0) KQ rfl (Or.inl rfl),cK (ax oW (pv 0) (pv 1) (aB _)),pv 0⟩))) (ay (i:=7) Av.nd rfl (Or.inr rfl))
      (ae (aw (i:=8) Av.nd rfl (Or.inr rfl) (aC aS (pv 11) (au aq rfl T.len PySem.boot_len (aa (pv 3) ad)) (fun _ _=>rfl)))
      (ae (fI (i:=9) (own:=["_law_lane"]) (capN:=["_law_lanes_here", "_law_place"]) (cap:=[0,7]) KS rfl Av.nd rfl rfl (bE rfl T.range (aa (au aq rfl T.len PySem.boot_len (aa (pv 0) ad)) ad))
       (fun C s' H' fp=>⟨ay (i:=0) KW rfl (Or.inl rfl),cK (ax bN (aC (show qH _ (lI K) from aE) (aC (show qH _ (uq K) from aS) (pv 1) (pv 0) (fun _ _=>rfl)) ai (fun _ _=>rfl)) (pv 2) (aB _)),pv 0⟩))
      (ae (fI (i:=10) (own:=["_law_lane"]) (capN:=["_law_draw"]) (cap:=[8]) KU rfl Av.nd rfl rfl (bz (pv 9))
       (fun C s' H' fp=>⟨ay (i:=0) KY rfl (Or.inl rfl),cK (ax bN (aA sk (aA si (pv 1) (pv 0)) ai) ai (aB _)),pv 0⟩))
      (ae (ip (aP (PW.pt (gA (ax (xc hu) (pv 10) (aU ad) (aB _)) (fX (ax oX (aA bC (aA cj (pv 8) ai) ai) ai (aB _)))))
       (ah (aw (i:=10) Av.nd rfl (Or.inl rfl) (e9 fS (pv 9) kM (dP ai)))) aD))
      (ah (aL (bV plainAttrs_list PySem.F.slot_list_append PySem.F.type_list_append aV (pv 3) (aa (aW (aa (pv 7) (aa (pv 4) (aa (pv 5) (aa (pv 10) ad))))) ad)))))))))))))))
   (ah (ar (dz Mt Gt hr rfl mt bt .nil ao (aa (dz Mi Gi Gj rfl mi bi .nil ao (aa (pv 1) (aa (aJ bx rfl T.list PySem.Pv.boot_list (aa (pv 0) ad)) ad))) (aa (pv 3) ad))))))),?_⟩
  have As:yB.length=ps.length:=Paired.length BS
  refine⟨zero_le _,fun D hD=>?_⟩
  have s0:=(y1.refl H).new (o := .lst []) hD
  have g0:(upd H D (.lst [])) D=some (.lst []):=ac
  show cf 3 (V.ref D) _ _ _
  generalize upd H D (.lst [])=H0' at s0 g0 ⊢
  refine⟨_,rfl,_,rfl,_,rfl,_,rfl,l,_,rfl, .inl (y6.of (s0 _ _ gl)),_,_,rfl,rfl,_,_,rfl,rfl, .inl ⟨by omega,by omega⟩,_,_,rfl,rfl,⟨by decide,by decide,by decide⟩,cl,n * (n + ps.length),100000,?_,?_,by decide,by decide,fun DD ds H0 sd hDD gDD CU zD=>?_⟩
  ·rw[As,Int.natCast_mul,Int.natCast_add];rfl
  ·have:=Nat.mul_le_mul hn4 (show n + ps.length <= 10 by omega);omega
  have gD0:=sd _ _ g0
  have nDD:DD ≠ D:=Ne.symm (ag g0 hDD)
  have z0:Gz H DD ds H0:=⟨s0.trans sd,gDD⟩
  refine⟨_,rfl,(n:Int),rfl,by omega,by omega,?_⟩
  rw[toNat_natCast]
  refine bW (n:=n) (fun i σ H2=>∃ (a4 a5 a6 a7 a8 a9 CH:Option V)(yM:List V)(rs:List Rw),Gz H DD ds H2/\H2 D=some (.lst yM)/\AR D H2 yM rs/\C4 n ps (i * 10000) rs/\rs.length <= i * (n + ps.length)/\σ=[some (.ref l),some (.int n),some (.int cl),some (.ref D),a4,a5,a6,a7,a8,a9,CH,some (.ref DD)])
   ⟨none,none,none,none,none,none,none,[],[],z0,gD0, .nil,⟨List.Pairwise.nil,(fun r hr=>by cases hr),(fun r hr=>by cases hr),(fun r hr=>by cases hr)⟩,zero_le _,rfl⟩ ?_ ?_
  rotate_left
  ·rintro σ H2 ⟨a4,a5,a6,a7,a8,a9,CH,yM,rs,s2,g2,hR,hO,UD,rfl⟩
   have Cy:yM.length=rs.length:=Paired.length hR
   have hrm:=hO.len
   have gd:=tJ (ps:=ps) (n:=n) (by omega) (by omega) (by omega) yE
   refine⟨_,rfl,_,rfl,l,_,rfl, .inl (y6.of (s2.s _ _ gl)),fun l2 C9=>?_⟩
   have s3:=(y1.refl H2).new (o := .lst yB) C9
   have g3:(upd H2 l2 (.lst yB)) l2=some (.lst yB):=ac
   generalize upd H2 l2 (.lst yB)=H3 at s3 g3 ⊢
   refine fun xl Au nx JM EG=>?_
   have s4:y1 H3 (upd (upd H3 Au (.own xl)) xl (.ins c.land Au [])):=y1.new (y1.new (y1.refl H3) JM) (by rw[af (Ne.symm EG)];exact nx)
   refine⟨xl,Au,(n:Int),l2,yB,ps,rfl,ac,y6.of (s4 _ _ g3),yT.same (s2.s.trans (s3.trans s4)) BS,by omega,(fun h=>by rw[gd]at h;cases h),(fun k h=>by rw[gd]at h;cases h),(fun k h=>by rw[gd]at h;cases h),fun _ H5 lt yH off hL=>⟨rfl,?_⟩⟩
   have s5:y1 H3 H5:=fun b o e=>off b o (ag e nx) (s4 _ _ e)
   refine⟨_,rfl,fun tb KZ nt ndt net=>?_⟩
   have s6:y1 H5 (upd (upd H5 KZ (.own tb)) tb (.ins ts.told KZ [])):=y1.new (y1.new (y1.refl H5) ndt) (by rw[af (Ne.symm net)];exact nt)
   have UE:=s3.trans (s5.trans s6)
   refine⟨tb,KZ,xl,Au,lt,D,(n:Int),yH,yM,ps,rs,rfl,ac,⟨s6 _ _ hL.1,s6 _ _ hL.2.1,yT.same s6 hL.2.2⟩,y6.of (UE _ _ g2),Cf.same UE hR.rws,by omega,by omega,fun r hr=>⟨fun k hk=>by have:=jL (hO.fit r hr) k hk;omega,by have:=hO.zl r hr;omega⟩,(fun i e=>by rw[hO.good]at e;cases e),fun _ H7 de kvs Qw UG hd7 hv7=>⟨rfl,?_⟩⟩
   have s7:y1 H5 H7:=fun b o e=>Qw b o (ag e nt) (s6 _ _ e)
   have Ei:∀ r ∈ rs,∀ k ∈ r.s,k < ps.length:=fun r hr=>jL (hO.fit r hr)
   refine q tb xl Au lt yH (HG rs) H7 (s2.s.trans (s3.trans (s5.trans s7))) (s2.s.free (s3.free (s5.free nt))) ⟨⟨KZ,de,_,kvs,rs,UG,hd7,hv7,(fun r hr k hk=>by have:=Ei r hr k hk;omega),rfl⟩,⟨KZ,_,UG,rfl,rfl⟩,⟨s7 _ _ hL.1,s7 _ _ hL.2.1,yT.same s7 hL.2.2⟩,by omega,by omega,fun p g k _ _ z hz=>(qM Ei p g k).1 z hz⟩ (fun p g k=>by have:=(qM Ei p g k).2;omega)
  rintro i σ H2 hi ⟨a4,a5,a6,a7,a8,a9,CH,yM,rs,s2,g2,hR,hO,UD,rfl⟩
  rw[zero_add]
  refine⟨by show 1 <= sizeLine;decide,fun o1 UH=>?_⟩
  have t1:=(y1.refl H2).new (o := .lst [.yK]) UH
  have g1:(upd H2 o1 (.lst [.yK])) o1=some (.lst [.yK]):=ac
  generalize upd H2 o1 (.lst [.yK])=H3 at t1 g1 ⊢
  refine⟨_,rfl,l,_,rfl, .inl (y6.of (t1 _ _ (s2.s _ _ gl))),_,rfl,fun o2 zO=>?_⟩
  rw[As]
  have t2:=t1.new (o:=ie o2 (ps.length:Int)) zO
  have MW:(upd H3 o2 (ie o2 (ps.length:Int))) o2=some (ie o2 (ps.length:Int)):=ac
  have Kv:(upd H3 o2 (ie o2 (ps.length:Int))) o1=some (.lst [.yK]):=by rw[af (ag g1 zO)];exact g1
  generalize upd H3 o2 (ie o2 (ps.length:Int))=H4 at t2 MW Kv ⊢
  refine⟨o2,ps.length,rfl,MW,by omega,fun o3 UI=>?_⟩
  have t3:=t2.new (o := .lst ((List.range ps.length).map fun k:Nat=>V.int (k:Int))) UI
  have g3:(upd H4 o3 (.lst ((List.range ps.length).map fun k:Nat=>V.int (k:Int)))) o3=some (.lst ((List.range ps.length).map fun k:Nat=>V.int (k:Int))):=ac
  have La:(upd H4 o3 (.lst ((List.range ps.length).map fun k:Nat=>V.int (k:Int)))) o1=some (.lst [.yK]):=by rw[af (ag Kv UI)];exact Kv
  generalize upd H4 o3 (.lst ((List.range ps.length).map fun k:Nat=>V.int (k:Int)))=H5 at t3 g3 La ⊢
  refine⟨o1,o3,_,_,rfl,rfl,La,g3,by rw[length_map,length_range,sizeLine_eq];simp only[length_singleton];omega,fun C hC=>?_⟩
  rw[yq]
  have t4:=t3.new (o := .lst ((gL ps.length).map cV)) hC
  have gC:(upd H5 C (.lst ((gL ps.length).map cV))) C=some (.lst ((gL ps.length).map cV)):=ac
  have nC:C ≠ D:=Ne.symm (ag (t3 _ _ g2) hC)
  generalize upd H5 C (.lst ((gL ps.length).map cV))=H6 at t4 gC ⊢
  refine⟨C,rfl,⟨_,y6.of gC⟩,?_⟩
  have UJ:((gL ps.length).map cV).length=ps.length + 1:=by unfold gL;rw[length_map,length_cons,length_map,length_range]
  refine cx (K:=K) (a:=C) (xs:=(gL ps.length).map cV) (fun j σ H7=>∃ (a5 a6 a7 a8 a9 CH:Option V)(yM:List V)(rs:List Rw),Gz H DD ds H7/\H7 D=some (.lst yM)/\H7 C=some (.lst ((gL ps.length).map cV))/\AR D H7 yM rs/\C4 n ps ((i * 100 + j) * 100) rs/\rs.length <= i * (n + ps.length) + DC n j/\σ=[some (.ref l),some (.int n),some (.int cl),some (.ref D),some (.int (i:Int)),a5,a6,a7,a8,a9,CH,some (.ref DD)])
   ⟨_,_,_,_,_,_,yM,rs,s2.trans t4,t4 _ _ g2,gC,hR.same t4,hO.up (by omega),UD,rfl⟩ (fun j σ H7 _ y8=>by obtain⟨_,_,_,_,_,_,_,_,_,_,g,_⟩:=y8;exact y6.of g) ?_ ?_
  rotate_left
  ·rintro σ H7 ⟨a5,a6,a7,a8,a9,CH,yM,rs,s7,g7,_,Qx,Nb,Ek,rfl⟩
   rw[UJ]at Nb Ek
   exact⟨_,_,_,_,_,_,_,yM,rs,s7,g7,Qx,Nb.up (by omega),by rw[Nat.succ_mul];exact Ek,rfl⟩
  rintro j v σ H7 hv ⟨a5,a6,a7,a8,a9,CH,yM,rs,s7,g7,gC7,Qx,Nb,Ek,rfl⟩
  have hj:j < ps.length + 1:=by rw[← UJ];exact(gQ0 hv)
  obtain⟨cc,rfl,G0,Mo⟩:=tW hv
  refine⟨_,rfl,_,rfl,fun o5 ho5=>?_⟩
  have t5:=(y1.refl H7).new (o:=ie o5 (n:Int)) ho5
  have g5:(upd H7 o5 (ie o5 (n:Int))) o5=some (ie o5 (n:Int)):=ac
  generalize upd H7 o5 (ie o5 (n:Int))=H8 at t5 g5 ⊢
  refine⟨o5,n,rfl,g5,by omega,fun o6 UK=>?_⟩
  have t6:=t5.new (o := .lst ((List.range n).map fun k:Nat=>V.int (k:Int))) UK
  have g6:(upd H8 o6 (.lst ((List.range n).map fun k:Nat=>V.int (k:Int)))) o6=some (.lst (bM (List.range n))):=ac
  have n6:o6 ≠ D:=Ne.symm (ag (t5 _ _ g7) UK)
  generalize upd H8 o6 (.lst ((List.range n).map fun k:Nat=>V.int (k:Int)))=H9 at t6 g6 ⊢
  refine⟨fun σ Ha=>∃ (So:Addr)(xs:List Nat),y1 H7 Ha/\Ha So=some (.lst (bM xs))/\So ≠ D/\xs.Pairwise (· < ·)/\(∀ p ∈ xs,p < n/\∀ k,cc=some k->k ∈ fO Prod.snd ps (p:Int))/\DC n j + xs.length <= DC n (j + 1)/\σ=[some (.ref l),some (.int n),some (.int cl),some (.ref D),some (.int (i:Int)),some (cV cc),some (.ref So),a7,a8,a9,CH,some (.ref DD)],?_,?_⟩
  ·refine⟨_,rfl,rfl,_,rfl,?_⟩
   cases cc with
   | none=>exact aF ⟨o6,List.range n,t6,g6,n6,List.pairwise_lt_range,(fun p hp=>⟨mem_range.mp hp,fun k e=>by cases e⟩),by rw[← G0,length_range];show 0 + n <= n + 0;omega,rfl⟩
   | some k =>
    have hk:=Mo k rfl
    obtain⟨v,DL,u,rfl,gu⟩:=yT.F6 BS (getElem?_eq_getElem hk)
    have s9:=s7.s.trans t6
    refine aK ⟨_,rfl,_,rfl,l,yB,(k:Int),_,rfl,rfl,y6.of (s9 _ _ gl),ak DL,u,_,1,_,rfl,rfl,yD.of (s9 _ _ gu),ak (j:=1) rfl,by show 1 <= sizeLine;decide,fun So Dq=>?_⟩
    have Dp:=yE _ (getElem_mem hk)
    unfold gG at Dp
    simp only[Bool.and_eq_true,decide_eq_true_eq,Bool.not_eq_true',decide_eq_false_iff_not]at Dp
    obtain⟨p0,UL⟩:∃ p0:Nat,(ps[k]).2=(p0:Int):=⟨(ps[k]).2.toNat,by omega⟩
    have egk:ps.getD k (0,0)=ps[k]:=by rw[getD_eq_getElem?_getD,getElem?_eq_getElem hk];rfl
    refine⟨So,[p0],t6.new Dq,by rw[ac,UL];rfl,Ne.symm (ag (t6 _ _ g7) Dq),by simp,(fun p hp=>?_),by rw[← G0];show n + k + 1 <= n + (k + 1);omega,rfl⟩
    rw[mem_singleton.mp hp]
    refine⟨by omega,fun k' e=>?_⟩
    cases e
    exact mem_filter.mpr ⟨mem_range.mpr hk,decide_eq_true (by show(ps.getD k (0,0)).2=_;rw[egk];exact UL)⟩
  rintro σ Ha ⟨Lb,HI,UM,UN,nS',Lc,Ld,Le,rfl⟩
  refine⟨_,rfl,Lb,rfl,⟨_,y6.of UN⟩,?_⟩
  have Kr:HI.length <= n + ps.length:=by cases j<;>simp only[DC]at Le<;>omega
  refine jQ (fun k=>decide (k ≠ i)) (by rw[sizeLine_eq];omega) (y6.of UN) (fun k acc N hk h=>?_) (fun So Dq=>?_)
  ·refine⟨_,rfl,_,rfl,rfl,_,rfl,?_⟩
   rw[jl]
   by_cases hb:k=i
   ·rw[decide_eq_true (show (k:Int)=(i:Int) by omega)]
    rw[decide_eq_false (fun z:k ≠ i=>z hb)]at h
    exact aF h
   ·rw[decide_eq_false (show ¬ (k:Int)=(i:Int) by omega)]
    rw[decide_eq_true (show k ≠ i from hb)]at h
    exact aK ⟨_,rfl,h⟩
  have tS:=UM.new (o := .lst (bM (HI.filter fun k=>decide (k ≠ i)))) Dq
  have gS:(upd Ha So (.lst (bM (HI.filter fun k=>decide (k ≠ i))))) So=some (.lst (bM (HI.filter fun k=>decide (k ≠ i)))):=ac
  have nS:So ≠ D:=Ne.symm (ag (UM _ _ g7) Dq)
  generalize upd Ha So (.lst (bM (HI.filter fun k=>decide (k ≠ i))))=Ha2 at tS gS ⊢
  obtain⟨xs,Fb,Qy,UO,hbd⟩:∃ xs,(HI.filter fun k=>decide (k ≠ i))=xs/\xs.Pairwise (· < ·)/\(∀ p ∈ xs,p < n/\(∀ k,cc=some k->k ∈ fO Prod.snd ps (p:Int))/\p ≠ i)/\DC n j + xs.length <= DC n (j + 1):=by
   refine⟨_,rfl,Lc.filter _,fun p hp=>?_,le_trans (Nat.add_le_add_left (length_filter_le _ _) _) Le⟩
   obtain⟨h1,h2⟩:=mem_filter.mp hp
   exact⟨(Ld p h1).1,(Ld p h1).2,of_decide_eq_true h2⟩
  rw[Fb]at gS
  refine⟨So,rfl,⟨_,y6.of gS⟩,?_⟩
  refine cx (K:=K) (a:=So) (xs:=bM xs) (fun t σ Hb=>∃ (a7 a8 a9 CH:Option V)(yM:List V)(rs:List Rw),Gz H DD ds Hb/\Hb D=some (.lst yM)/\Hb C=some (.lst ((gL ps.length).map cV))/\Hb So=some (.lst (bM xs))/\AR D Hb yM rs/\C4 n ps ((i * 100 + j) * 100 + lim xs t) rs/\rs.length <= i * (n + ps.length) + DC n j + t/\σ=[some (.ref l),some (.int n),some (.int cl),some (.ref D),some (.int (i:Int)),some (cV cc),some (.ref Lb),a7,a8,a9,CH,some (.ref DD)])
   ⟨_,_,_,_,yM,rs,s7.trans tS,tS _ _ g7,tS _ _ gC7,gS,Qx.same tS,Nb.up (by omega),Ek,rfl⟩ (fun t σ Hb _ y8=>by obtain⟨_,_,_,_,_,_,_,_,_,g,_⟩:=y8;exact y6.of g) ?_ ?_
  rotate_left
  ·rintro σ Hb ⟨a7,a8,a9,CH,yM,rs,sb,gb,Qz,UP,Nc,Lf,Lg,rfl⟩
   have Q0:(bM xs).length=xs.length:=by unfold bM;rw[length_map]
   rw[Q0]at Lf Lg
   have:=vd (xs:=xs) fun p hp=>by have:=(UO p hp).1;omega
   exact⟨_,_,_,_,_,_,yM,rs,sb,gb,Qz,Nc,Lf.up (by omega),by omega,rfl⟩
  rintro t v σ Hb hv2 ⟨a7,a8,a9,CH,yM,rs,sb,gb,Qz,UP,Nc,Lf,Lg,rfl⟩
  obtain⟨p,hp,rfl⟩:=lT hv2
  obtain⟨hpn,hpc,hpi0⟩:=UO p (mem_of_getElem? hp)
  have hlp:=xN Qy hp
  have hls:=sZ hp
  have Cy:yM.length=rs.length:=Paired.length Nc
  have hrm:=Lf.len
  have ht:t < xs.length:=(gQ0 hp)
  have hqq:=Nat.mul_le_mul_right (n + ps.length) (show i + 1 <= n from hi)
  rw[Nat.succ_mul]at hqq
  have hbm:DC n (j + 1) <= n + ps.length:=by show n + j <= _;omega
  have yR:yM.length < ds.length:=by rw[CU,Cy];omega
  obtain⟨m,hm⟩:∃ m:Nat,ds[yM.length]=(m:Int):=⟨(ds[yM.length]).toNat,by have:=zD _ (getElem_mem yR);omega⟩
  refine⟨_,rfl,_,rfl,D,_,rfl, .inl (y6.of gb),DD,ds.map V.int,(yM.length:Int), .int m,rfl,rfl,y6.of sb.d,ak (by rw[getElem?_map,getElem?_eq_getElem yR,hm];rfl),?_⟩
  refine⟨_,rfl,l,_,rfl, .inl (y6.of (sb.s _ _ gl)),(yB.length:Int),rfl,by omega,by omega,?_⟩
  rw[toNat_natCast,As]
  refine vt (sel:=Prod.fst) (ps:=ps) (pl:=(p:Int)) (by rw[sizeLine_eq];omega) (fun z acc N pr BQ h=>?_) (fun Ou hOu=>?_)
  ·obtain⟨v,hv,u,rfl,gu⟩:=yT.F6 BS BQ
   refine⟨_,rfl,_,rfl,l,yB,_,_,rfl,rfl,y6.of (sb.s _ _ gl),ak hv,u,_,0,_,rfl,rfl,yD.of (sb.s _ _ gu),ak (j:=0) rfl,_,rfl,rfl,_,rfl,?_⟩
   rw[jl]
   cases hb:decide (pr.1=(p:Int)) with
   | true =>
    have An:decide (Prod.fst pr=(p:Int))=true:=hb
    rw[An]at h
    exact aK ⟨_,rfl,h⟩
   | false =>
    have An:decide (Prod.fst pr=(p:Int))=false:=hb
    rw[An]at h
    exact aF h
  have Fc:(fO Prod.fst ps (p:Int)).length <= 6:=by
   have:=length_filter_le (fun k=>decide (Prod.fst (ps.getD k (0,0))=(p:Int))) (List.range ps.length)
   rw[length_range]at this
   unfold fO
   omega
  have u1:=(y1.refl Hb).new (o := .lst (bM (fO Prod.fst ps (p:Int)))) hOu
  have gO:(upd Hb Ou (.lst (bM (fO Prod.fst ps (p:Int))))) Ou=some (.lst (bM (fO Prod.fst ps (p:Int)))):=ac
  show cf 9 (V.ref Ou) _ (upd Hb Ou (.lst (bM (fO Prod.fst ps (p:Int))))) _
  generalize upd Hb Ou (.lst (bM (fO Prod.fst ps (p:Int))))=Hc at u1 gO ⊢
  generalize Q2:fO Prod.fst ps (p:Int)=out at Fc gO ⊢
  refine⟨_,rfl,Ou,rfl,⟨_,y6.of gO⟩,?_⟩
  refine jQ (fun k=>m.testBit k) (by rw[sizeLine_eq];omega) (y6.of gO) (fun k acc N hk h=>?_) (fun Wa Q3=>?_)
  ·refine⟨_,rfl,_,rfl,_,_,rfl,rfl,(show (0:Int) <= (k:Int) by omega),_,_,rfl,rfl,rfl,_,rfl,?_⟩
   dsimp only
   rw[Qn]
   cases hb:m.testBit k with
   | true=>rw[hb]at h;exact aK ⟨_,rfl,h⟩
   | false=>rw[hb]at h;exact aF h
  have u2:=u1.new (o := .lst (bM (out.filter fun k=>m.testBit k))) Q3
  have gW:(upd Hc Wa (.lst (bM (out.filter fun k=>m.testBit k)))) Wa=some (.lst (bM (out.filter fun k=>m.testBit k))):=ac
  have Q4:(upd Hc Wa (.lst (bM (out.filter fun k=>m.testBit k)))) Ou=some (.lst (bM out)):=by rw[af (ag gO Q3)];exact gO
  have nW:Wa ≠ D:=Ne.symm (ag (u1 _ _ gb) Q3)
  show cf 10 (V.ref Wa) _ (upd Hc Wa (.lst (bM (out.filter fun k=>m.testBit k)))) _
  generalize upd Hc Wa (.lst (bM (out.filter fun k=>m.testBit k)))=Hd at u2 gW Q4 ⊢
  refine⟨fun σ He=>∃ (Wb:Addr)(us:List Nat),y1 Hb He/\He Wb=some (.lst (bM us))/\Wb ≠ D/\(∀ k ∈ us,k ∈ out)/\us.length <= 6/\σ=[some (.ref l),some (.int n),some (.int cl),some (.ref D),some (.int (i:Int)),some (cV cc),some (.ref Lb),some (.int (p:Int)),some (.int (m:Int)),some (.ref Ou),some (.ref Wb),some (.ref DD)],?_,?_⟩
  ·refine⟨_,rfl,zero_le _,fun o7 HJ=>?_⟩
   have u3:=u2.new (o := .lst []) HJ
   have Q5:(upd Hd o7 (.lst [])) Wa=some (.lst (bM (out.filter fun k=>m.testBit k))):=by rw[af (ag gW HJ)];exact gW
   have UQ:(upd Hd o7 (.lst [])) Ou=some (.lst (bM out)):=by rw[af (ag Q4 HJ)];exact Q4
   have UR:(upd Hd o7 (.lst [])) o7=some (.lst (([]:List Int).map V.int)):=ac
   generalize upd Hd o7 (.lst [])=He at u3 Q5 UQ UR ⊢
   have Af:∃ (Wb:Addr)(us:List Nat),y1 Hb He/\He Wb=some (.lst (bM us))/\Wb ≠ D/\(∀ k ∈ us,k ∈ out)/\us.length <= 6/\([some (.ref l),some (.int n),some (.int cl),some (.ref D),some (.int (i:Int)),some (cV cc),some (.ref Lb),some (.int (p:Int)),some (.int (m:Int)),some (.ref Ou),some (.ref Wa),some (.ref DD)]:St)=[some (.ref l),some (.int n),some (.int cl),some (.ref D),some (.int (i:Int)),some (cV cc),some (.ref Lb),some (.int (p:Int)),some (.int (m:Int)),some (.ref Ou),some (.ref Wb),some (.ref DD)] :=
    ⟨Wa,_,u3,Q5,nW,(fun k hk=>(mem_filter.mp hk).1),le_trans (length_filter_le _ _) Fc,rfl⟩
   refine⟨Wa,o7,iz (out.filter fun k=>m.testBit k),[],rfl,rfl,by rw[← uZ];exact y6.of Q5,y6.of UR,_,rfl,?_⟩
   cases hb:decide (iz (out.filter fun k=>m.testBit k)=[]) with
   | false=>exact aF (aF Af)
   | true =>
    refine aK ⟨_,rfl,_,_,rfl,rfl,⟨by decide,by decide⟩,_,_,rfl,rfl,(by show (0:Int) < 4;decide),_,_,rfl,rfl,_,rfl,?_⟩
    dsimp only
    cases hb2:decide ((0:Int) < (m:Int) / 64 % 4) with
    | false=>exact aF Af
    | true =>
     refine aK ⟨_,rfl,_,rfl,Ou,_,rfl,y6.of UQ,fun Wb US=>?_⟩
     refine⟨Wb,out.take 1,u3.new US,?_,Ne.symm (ag (u3 _ _ gb) US),(fun k hk=>mem_of_mem_take hk),by rw[length_take];omega,rfl⟩
     rw[ac,show((1:Int))=((1:Nat):Int) from rfl]
     exact congrArg (fun z=>some (HO.lst z)) (tO out 1)
  rintro σ He ⟨Wb,us,u4,UT,nWb,hus,MV,rfl⟩
  have Nd:¬ (p:Int)=(i:Int):=by omega
  refine⟨_,rfl, .inl ⟨rfl,_,y6.of (u4 _ _ gb)⟩,_,rfl,_,rfl,_,rfl,_,rfl,by show 4 <= sizeLine;decide,fun tt D6=>?_⟩
  have u5:=u4.new (o := .tup [.int (p:Int), .int (i:Int),cV cc, .ref Wb]) D6
  have gT:(upd He tt (.tup [.int (p:Int), .int (i:Int),cV cc, .ref Wb])) tt=some (.tup [.int (p:Int), .int (i:Int),cV cc, .ref Wb]):=ac
  have UU:(upd He tt (.tup [.int (p:Int), .int (i:Int),cV cc, .ref Wb])) Wb=some (.lst (bM us)):=by rw[af (ag UT D6)];exact UT
  generalize upd He tt (.tup [.int (p:Int), .int (i:Int),cV cc, .ref Wb])=Hf at u5 gT UU ⊢
  have UW:=u5 _ _ gb
  refine⟨D,yM,_,rfl,rfl,UW,by rw[sizeLine_eq];omega,?_⟩
  have Q6:dZ n ps ⟨(p:Int),(i:Int),cc,us⟩ = true:=by
   unfold dZ
   have ho:gG n ((p:Int),(i:Int))=true:=by
    unfold gG
    simp only[Bool.and_eq_true,decide_eq_true_eq,Bool.not_eq_true',decide_eq_false_iff_not]
    exact⟨⟨by omega,by omega⟩,⟨by omega,by omega⟩,Nd⟩
   rw[ho,Bool.true_and]
   have hs:(us.all fun z=>decide (z ∈ fO Prod.fst ps (p:Int)))=true:=by
    rw[all_eq_true]
    exact fun z hz=>decide_eq_true (by rw[Q2];exact hus z hz)
   dsimp only
   rw[hs,Bool.and_true]
   cases cc with
   | none=>rfl
   | some k=>exact decide_eq_true (hpc k rfl)
  have UX:rY ⟨(p:Int),(i:Int),cc,us⟩ = (i * 100 + j) * 100 + p:=by
   unfold rY
   show(((i:Int)).toNat * 100 + Qm cc) * 100 + ((p:Int)).toNat=_
   rw[toNat_natCast,toNat_natCast,G0]
  have hOn:=Lf.snoc (r:=⟨(p:Int),(i:Int),cc,us⟩) (by rw[UX];omega) Q6 (by show us.length <= 40;omega)
  refine⟨_,_,_,_,yM ++ [.ref tt],rs ++ [⟨(p:Int),(i:Int),cc,us⟩],⟨fun b o e=>by rw[af (ag e hD)];exact u5 _ _ (sb.s _ _ e),by rw[af nDD];exact u5 _ _ sb.d⟩,ac,?_,?_,?_,hOn.up (by rw[UX,hls];omega),by rw[length_append,length_singleton];omega,rfl⟩
  ·rw[af nC];exact u5 _ _ Qz
  ·rw[af nS];exact u5 _ _ UP
  ·have hRf:=AR.snoc (r:=⟨(p:Int),(i:Int),cc,us⟩) ⟨tt,Wb,rfl,⟨gT,UU⟩,nWb⟩ (Nc.same u5)
   exact AR.off UW hRf
theorem zS.det {a:YA}{s s1 s2:YS}{m:Mv}(h1:zS a s m s1)(h2:zS a s m s2):s1=s2:=by
 cases h1 with
 | zT ht hg hl yZ ho =>
  cases h2 with
  | zT HK hg' Ag AF BC =>
   rw[ht]at HK;cases HK
   rw[yZ]at AF;cases AF
   rfl
 | on hk hq ht hl yZ ho =>
  cases h2 with
  | on zL Be HK Ag AF BC =>
   rw[hk]at zL;cases zL
   rw[hq]at Be
   have e:=Option.some.inj Be
   have e1:=congrArg Prod.fst e
   have e2:=congrArg Prod.snd e
   have e1:=Int.ofNat.inj e1
   cases e1;cases e2
   rw[ht]at HK;cases HK
   rw[yZ]at AF;cases AF
   rfl
 | AQ hk hq ht hg he Ap =>
  cases h2 with
  | AQ zL Be HK hg' he' Lh =>
   rw[hk]at zL;cases zL
   rw[hq]at Be
   have e:=Option.some.inj Be
   have e1:=congrArg Prod.fst e
   have e2:=congrArg Prod.snd e
   have e1:=Int.ofNat.inj e1
   cases e1;cases e2
   rw[he]at he'
   have e3:=Int.ofNat.inj he'
   cases e3
   rw[Ap]at Lh;cases Lh
   rfl
 | back hk hb =>
  cases h2 with
  | back zL An=>rw[hk]at zL;cases zL;rfl
noncomputable def core (s:YS):YS:={ s with done:=[] }
theorem zS.core {a:YA}{s s':YS}{m:Mv}(h:zS a s m s'):zS a (core s) m (core s'):=by
 cases h with
 | zT ht hg hl yZ ho=>exact .zT (s:=K70.core s) ht hg hl yZ ho
 | on hk hq ht hl yZ ho=>exact .on (s:=K70.core s) hk hq ht hl yZ ho
 | AQ hk hq ht hg he Ap=>exact .AQ (s:=K70.core s) hk hq ht hg he Ap
 | back hk hb=>exact .back (s:=K70.core s) hk hb
theorem dR (a:YA)(s:YS):aI a (core s)=aI a s:=rfl
noncomputable def kq (s:YS):List cy × List (List Nat) × List (List (Int × Int)):=(s.lanes,s.U.map (·.way),s.lies)
structure cC where
 s:YS
 p:List Mv
structure i3 where
 L:List cC
 i:Nat
 j:Nat
noncomputable def New (a:YA)(c:i3)(s':YS)(p:List Mv):Prop:=∃ e m,c.L[c.i]? = some e/\(aI a e.s)[c.j]? = some m/\zS a e.s m s'/\(∀ x ∈ c.L,kq x.s ≠ kq s')/\p=e.p ++ [m]
inductive Nx (a:YA):i3->i3->Prop
 | skip {L:List cC} {i j:Nat} {e:cC} {m:Mv} {s':YS} (h1:L[i]? = some e) (h2:(aI a e.s)[j]? = some m) (h3:zS a e.s m s') (h4:∃ x ∈ L,kq x.s=kq s'):Nx a ⟨L,i,j⟩ ⟨L,i,j + 1⟩
 | new {L:List cC} {i j:Nat} {s':YS} {p:List Mv} (h1:New a ⟨L,i,j⟩ s' p) (h2:bq a s' = false):Nx a ⟨L,i,j⟩ ⟨L ++ [⟨s',p⟩],i,j + 1⟩
 | next {L:List cC} {i j:Nat} {e:cC} (h1:L[i]? = some e) (h2:(aI a e.s).length=j):Nx a ⟨L,i,j⟩ ⟨L,i + 1,0⟩
theorem New.det {a:YA}{c:i3}{s1 s2:YS}{p1 p2:List Mv}(h1:New a c s1 p1)(h2:New a c s2 p2):s1=s2/\p1=p2:=by
 obtain⟨e,m,a1,a2,a3,_,rfl⟩:=h1
 obtain⟨e',m',b1,b2,b3,_,rfl⟩:=h2
 rw[a1]at b1;cases b1
 rw[a2]at b2;cases b2
 exact⟨a3.det b3,rfl⟩
theorem New.nx {a:YA}{c c':i3}{s':YS}{p:List Mv}(h:New a c s' p)(n:Nx a c c'):bq a s' = false/\c' = ⟨c.L ++ [⟨s',p⟩],c.i,c.j + 1⟩:=by
 cases n with
 | skip h1 h2 h3 h4 =>
  obtain⟨e,m,a1,a2,a3,a4,_⟩:=h
  rw[h1]at a1;cases a1
  rw[h2]at a2;cases a2
  obtain⟨x,hx,hk⟩:=h4
  rw[h3.det a3]at hk
  exact absurd hk (a4 x hx)
 | new h1 h2 =>
  obtain⟨rfl,rfl⟩:=h.det h1
  exact⟨h2,rfl⟩
 | next h1 h2 =>
  obtain⟨e,m,a1,a2,_⟩:=h
  rw[h1]at a1;cases a1
  have:=(gQ0 a2)
  simp only at this
  omega
theorem Nx.det {a:YA}{c c1 c2:i3}(h1:Nx a c c1)(h2:Nx a c c2):c1=c2:=by
 cases h1 with
 | skip a1 a2 a3 a4 =>
  cases h2 with
  | skip=>rfl
  | new b1 b2=>have:=(b1.nx (.skip a1 a2 a3 a4)).2;exact this
  | next b1 b2 =>
   rw[a1]at b1;cases b1
   have:=(gQ0 a2)
   omega
 | new b1 b2=>exact((b1.nx h2).2).symm
 | next a1 a2 =>
  cases h2 with
  | skip b1 b2 b3 b4 =>
   rw[a1]at b1;cases b1
   have:=(gQ0 b2)
   omega
  | new b1 b2=>exact(b1.nx (.next a1 a2)).2
  | next=>rfl
theorem Nx.len {a:YA}{c c':i3}(h:Nx a c c'):c.L.length <= c'.L.length:=by
 cases h with
 | skip=>exact le_refl _
 | new=>simp
 | next=>exact le_refl _
theorem Nx.lt {a:YA}{c c':i3}(h:Nx a c c'):c.i < c.L.length:=by
 cases h with
 | skip h1=>exact(gQ0 h1)
 | new h1=>obtain⟨e,m,a1,_⟩:=h1;exact(gQ0 a1)
 | next h1=>exact(gQ0 h1)
noncomputable def Q7 (s:YS):i3:=⟨[⟨core s,[]⟩],0,0⟩
inductive Tr (a:YA)(s:YS):Nat->i3->Prop
 | nil:Tr a s 0 (Q7 s)
 | snoc {n:Nat} {c c':i3}:Tr a s n c->Nx a c c'->Tr a s (n + 1) c'
theorem Tr.det {a:YA}{s:YS}{n:Nat}{c1 c2:i3}(h1:Tr a s n c1)(h2:Tr a s n c2):c1=c2:=by
 induction h1 generalizing c2 with
 | nil=>cases h2;rfl
 | snoc _ n1 ih =>
  cases h2 with
  | snoc t2 n2 =>
   have:=ih t2
   subst this
   exact n1.det n2
theorem Tr.lt {a:YA}{s:YS}{n n':Nat}{c c':i3}(h1:Tr a s n c)(h2:Tr a s n' c')(hl:n < n'):∃ c1,Nx a c c1/\c1.L.length <= c'.L.length:=by
 induction h2 with
 | nil=>omega
 | @snoc k d d' t2 n2 ih =>
  by_cases e:n=k
  ·subst e
   have:=h1.det t2
   subst this
   exact⟨d',n2,le_refl _⟩
  ·obtain⟨c1,x1,x2⟩:=ih (by omega)
   exact⟨c1,x1,le_trans x2 n2.len⟩
theorem Tr.le {a:YA}{s:YS}{n n':Nat}{c c':i3}(h1:Tr a s n c)(h2:Tr a s n' c')(hl:n <= n'):c.L.length <= c'.L.length:=by
 by_cases e:n=n'
 ·subst e;rw[h1.det h2];exact le_refl _
 ·obtain⟨c1,x1,x2⟩:=h1.lt h2 (by omega)
  exact le_trans x1.len x2
inductive Rs
 | more | ends | zh (p:List Mv)
inductive Lr (a:YA)(s:YS):Nat->Option (List Mv)->Bool->Prop
 | now (h:bq a s=true):Lr a s 1 (some []) true
 | Q8 {n:Nat} {c:i3} {s':YS} {p:List Mv} (h0:bq a s=false) (h1:Tr a s n c) (h2:New a c s' p) (h3:bq a s' = true) (h4:c.L.length <= 30):Lr a s (c.L.length + 1) (some p) true
 | cut {n:Nat} {c:i3} {s':YS} {p:List Mv} (h0:bq a s=false) (h1:Tr a s n c) (h2:New a c s' p) (h3:bq a s' = false) (h4:c.L.length=30):Lr a s 30 none false
 | fin {n:Nat} {c:i3} (h0:bq a s=false) (h1:Tr a s n c) (h2:c.L.length <= c.i) (h3:c.L.length <= 30) (h4:1 <= c.L.length):Lr a s c.L.length none true
inductive Sr (a:YA)(s:YS)(most:Nat):Rs->Prop
 | now (h:bq a s=true):Sr a s most (.zh [])
 | more {n:Nat} {c:i3} {s':YS} {p:List Mv} (h0:bq a s=false) (h1:Tr a s n c) (h2:New a c s' p) (h3:c.L.length=most):Sr a s most .more
 | zh {n:Nat} {c:i3} {s':YS} {p:List Mv} (h0:bq a s=false) (h1:Tr a s n c) (h2:New a c s' p) (h3:bq a s' = true) (h4:c.L.length < most):Sr a s most (.zh p)
 | ends {n:Nat} {c:i3} (h0:bq a s=false) (h1:Tr a s n c) (h2:c.L.length <= c.i) (h3:c.L.length <= most):Sr a s most .ends
noncomputable def fL (most cnt:Nat)(mv:Option (List Mv))(th:Bool):Rs:=match mv with
 | some p=>if cnt <= most then .zh p else .more
 | none=>if th=true/\cnt <= most then .ends else .more
theorem tI {a:YA}{s:YS}{most cnt:Nat}{mv:Option (List Mv)}{th:Bool}{r:Rs}(h1:1 <= most)(hl:Lr a s cnt mv th)(hs:Sr a s most r)(hm:most <= cnt∨th=true):r=fL most cnt mv th:=by
 have nn:∀ {c c':i3}{s':YS}{p:List Mv},New a c s' p->bq a s' = true->Nx a c c'->False:=fun h k n=>by
  rw[(h.nx n).1]at k;cases k
 have ne:∀ {c c':i3},c.L.length <= c.i->Nx a c c'->False:=fun h n=>by have:=n.lt;omega
 have nw:∀ {c:i3}{s':YS}{p:List Mv},New a c s' p->c.i < c.L.length:=fun h=>by obtain⟨e,m,a1,_⟩:=h;exact(gQ0 a1)
 cases hl with
 | now h =>
  cases hs with
  | now=>unfold fL;simp only;rw[if_pos h1]
  | more h0=>rw[h]at h0;cases h0
  | zh h0=>rw[h]at h0;cases h0
  | ends h0=>rw[h]at h0;cases h0
 | @Q8 n c s1 p h0 t1 w1 k1 _ =>
  cases hs with
  | now h=>rw[h]at h0;cases h0
  | @more n' c' s2 p' _ t2 w2 e2 =>
   have:n' <= n:=by
    by_cases yR:n < n'
    ·obtain⟨c1,x1,_⟩:=t1.lt t2 yR
     exact(nn w1 k1 x1).elim
    ·omega
   have:=t2.le t1 this
   unfold fL;simp only;rw[if_neg (by omega)]
  | @zh n' c' s2 p' _ t2 w2 k2 e2 =>
   have:n' = n:=by
    rcases lt_trichotomy n n' with yR | e | yR
    ·obtain⟨c1,x1,_⟩:=t1.lt t2 yR
     exact(nn w1 k1 x1).elim
    ·exact e.symm
    ·obtain⟨c1,x1,_⟩:=t2.lt t1 yR
     exact(nn w2 k2 x1).elim
   subst this
   have:=t1.det t2
   subst this
   obtain⟨_,rfl⟩:=w1.det w2
   unfold fL;simp only;rw[if_pos (by omega)]
  | @ends n' c' _ t2 e2 l2 =>
   have:n' = n:=by
    rcases lt_trichotomy n n' with yR | e | yR
    ·obtain⟨c1,x1,_⟩:=t1.lt t2 yR
     exact(nn w1 k1 x1).elim
    ·exact e.symm
    ·obtain⟨c1,x1,_⟩:=t2.lt t1 yR
     exact(ne e2 x1).elim
   subst this
   have:=t1.det t2
   subst this
   have:=nw w1
   omega
 | @cut n c s1 p h0 t1 w1 k1 e1 =>
  have hm:most <= 30:=hm.elim id fun h=>by cases h
  cases hs with
  | now h=>rw[h]at h0;cases h0
  | more=>unfold fL;simp only;rw[if_neg (by rintro⟨h,_⟩;cases h)]
  | @zh n' c' s2 p' _ t2 w2 k2 e2 =>
   by_cases yR:n' < n
   ·obtain⟨c1,x1,_⟩:=t2.lt t1 yR
    exact(nn w2 k2 x1).elim
   ·have:=t1.le t2 (by omega)
    omega
  | @ends n' c' _ t2 e2 l2 =>
   rcases lt_trichotomy n n' with yR | e | yR
   ·obtain⟨c1,x1,x2⟩:=t1.lt t2 yR
    have:=(w1.nx x1).2
    subst this
    rw[length_append,length_singleton]at x2
    omega
   ·subst e
    have:=t1.det t2
    subst this
    have:=nw w1
    omega
   ·obtain⟨c1,x1,_⟩:=t2.lt t1 yR
    exact(ne e2 x1).elim
 | @fin n c h0 t1 e1 _ _ =>
  cases hs with
  | now h=>rw[h]at h0;cases h0
  | @more n' c' s2 p' _ t2 w2 e2 =>
   rcases lt_trichotomy n n' with yR | e | yR
   ·obtain⟨c1,x1,_⟩:=t1.lt t2 yR
    exact(ne e1 x1).elim
   ·subst e
    have:=t1.det t2
    subst this
    have:=nw w2
    omega
   ·obtain⟨c1,x1,x2⟩:=t2.lt t1 yR
    have:=(w2.nx x1).2
    subst this
    rw[length_append,length_singleton]at x2
    unfold fL;simp only;rw[if_neg (by omega)]
  | @zh n' c' s2 p' _ t2 w2 k2 e2 =>
   rcases lt_trichotomy n n' with yR | e | yR
   ·obtain⟨c1,x1,_⟩:=t1.lt t2 yR
    exact(ne e1 x1).elim
   ·subst e
    have:=t1.det t2
    subst this
    have:=nw w2
    omega
   ·obtain⟨c1,x1,x2⟩:=t2.lt t1 yR
    exact(nn w2 k2 x1).elim
  | @ends n' c' _ t2 e2 l2 =>
   have:n' = n:=by
    rcases lt_trichotomy n n' with yR | e | yR
    ·obtain⟨c1,x1,_⟩:=t1.lt t2 yR
     exact(ne e1 x1).elim
    ·exact e.symm
    ·obtain⟨c1,x1,_⟩:=t2.lt t1 yR
     exact(ne e2 x1).elim
   subst this
   have:=t1.det t2
   subst this
   unfold fL;simp only;rw[if_pos ⟨trivial,l2⟩]
noncomputable def oV (n:Nat)(q:Int × Int):Lv (n + 1):=([.inl (some q.1), .inl (some q.2)]:List (Option Int ⊕ Lv n))
noncomputable def cS (n:Nat)(qs:List (Int × Int)):Lv (n + 2):=(qs.map fun q=>Sum.inr (oV n q):List (Option Int ⊕ Lv (n + 1)))
noncomputable def dY (n:Nat)(ln:cy):Lv (n + 3):=([.inl (some ln.r), .inl (some ln.b), .inl ln.h, .inr (cS n ln.qs)]:List (Option Int ⊕ Lv (n + 2)))
noncomputable def cO (n:Nat)(w:List Nat):Lv (n + 1):=(w.map fun (k:Nat)=>Sum.inl (some (k:Int)):List (Option Int ⊕ Lv n))
noncomputable def kS (s:YS):Lv 5:=([.inr ((s.lanes.map fun ln=>Sum.inr (dY 0 ln):List (Option Int ⊕ Lv 3)):Lv 4), .inr ((s.U.map fun t=>Sum.inr (cO 2 t.way):List (Option Int ⊕ Lv 3)):Lv 4), .inr ((s.lies.map fun qs=>Sum.inr (cS 1 qs):List (Option Int ⊕ Lv 3)):Lv 4)]:List (Option Int ⊕ Lv 4))
noncomputable def kF (s:YS)(i j k:Nat):List (Lv 4):=(s.lanes.take i).map (dY 1) ++ (s.U.take j).map (fun t=>cO 3 t.way) ++ (s.lies.take k).map (cS 2)
noncomputable def kL (s:YS):Lv 5:=((kF s s.lanes.length s.U.length s.lies.length).map Sum.inr:List (Option Int ⊕ Lv 4))
theorem c9 {α β:Type}{f:α->β}(h:∀ x y,f x=f y->x=y):∀ {l l':List α},l.map f=l'.map f->l=l'
 | [],[],_=>rfl
 | [],_ :: _,e=>by cases e
 | _ :: _,[],e=>by cases e
 | x :: l,y :: l',e=>by
  rw[map_cons,map_cons]at e
  injection e with e1 e2
  rw[h x y e1,c9 h e2]
theorem qa {n:Nat}{x y:Int × Int}(h:oV n x=oV n y):x=y:=by
 unfold oV at h
 injection h with h1 h2
 injection h2 with h2 _
 injection h1 with h1
 injection h1 with h1
 injection h2 with h2
 injection h2 with h2
 exact Prod.ext h1 h2
theorem fJ {n:Nat}{x y:List (Int × Int)}(h:cS n x=cS n y):x=y:=c9 (fun a b e=>qa (by injection e)) h
theorem jK {n:Nat}{x y:cy}(h:dY n x=dY n y):x=y:=by
 unfold dY at h
 injection h with h1 h2
 injection h2 with h2 h3
 injection h3 with h3 h4
 injection h4 with h4 _
 injection h1 with h1
 injection h1 with h1
 injection h2 with h2
 injection h2 with h2
 injection h3 with h3
 injection h4 with h4
 replace h4:=fJ h4
 obtain⟨r,b,hh,qs⟩:=x
 obtain⟨r',b',hh',qs'⟩:=y
 simp only at h1 h2 h3 h4
 subst h1 h2 h3 h4
 rfl
theorem qN {n:Nat}{x y:List Nat}(h:cO n x=cO n y):x=y:=c9 (f:=fun (k:Nat)=>(Sum.inl (some (k:Int)):Option Int ⊕ Lv n)) (fun a b e=>by
 injection e with e
 injection e with e
 omega) h
theorem lu {n:Nat}{x y:List cp}(h:(x.map fun t=>cO n t.way)=y.map fun t=>cO n t.way):x.map (·.way)=y.map (·.way):=by
 have e:∀ z:List cp,(z.map fun t=>cO n t.way)=(z.map (·.way)).map (cO n):=fun z=>by rw[map_map];rfl
 rw[e,e]at h
 exact c9 (fun a b=>qN) h
theorem xT {s s':YS}:kS s=kS s'↔kq s=kq s':=by
 constructor
 ·intro h
  unfold kS at h
  injection h with h1 h2
  injection h2 with h2 h3
  injection h3 with h3 _
  injection h1 with h1
  injection h2 with h2
  injection h3 with h3
  have e1:s.lanes=s'.lanes:=c9 (fun a b e=>jK (by injection e)) h1
  have e3:s.lies=s'.lies:=c9 (fun a b e=>fJ (by injection e)) h3
  have e:∀ z:List cp,(z.map fun t=>(Sum.inr (cO 2 t.way):Option Int ⊕ Lv 3))=(z.map (fun t=>cO 2 t.way)).map Sum.inr:=fun z=>by rw[map_map];rfl
  have M9:(s.U.map fun t=>(Sum.inr (cO 2 t.way):Option Int ⊕ Lv 3))=s'.U.map fun t=>Sum.inr (cO 2 t.way):=h2
  rw[e,e]at M9
  have e2:=lu (c9 (fun a b e=>by injection e) M9)
  unfold kq
  rw[e1,e2,e3]
 ·intro h
  unfold kq at h
  injection h with h1 h2
  injection h2 with h2 h3
  have e:∀ z:List cp,(z.map fun t=>(Sum.inr (cO 2 t.way):Option Int ⊕ Lv 3))=(z.map (·.way)).map fun w=>Sum.inr (cO 2 w):=fun z=>by rw[map_map];rfl
  unfold kS
  rw[e,e,h1,h2,h3]
theorem xU {s s':YS}(l1:s.lanes.length=s'.lanes.length)(l2:s.U.length=s'.U.length):kL s=kL s'↔kq s=kq s':=by
 have f:∀ z:YS,kF z z.lanes.length z.U.length z.lies.length=z.lanes.map (dY 1) ++ z.U.map (fun t=>cO 3 t.way) ++ z.lies.map (cS 2):=fun z=>by
  unfold kF
  rw[take_length,take_length,take_length]
 constructor
 ·intro h
  have h:=c9 (fun a b (e:(Sum.inr a:Option Int ⊕ Lv 4)=Sum.inr b)=>by injection e) h
  rw[f,f]at h
  obtain⟨h12,h3⟩:=List.append_inj h (by rw[length_append,length_append,length_map,length_map,length_map,length_map,l1,l2])
  obtain⟨h1,h2⟩:=List.append_inj h12 (by rw[length_map,length_map,l1])
  unfold kq
  rw[c9 (fun a b=>jK) h1,lu h2,c9 (fun a b=>fJ) h3]
 ·intro h
  unfold kq at h
  injection h with h1 h2
  injection h2 with h2 h3
  have e:∀ z:List cp,(z.map fun t=>cO 3 t.way)=(z.map (·.way)).map (cO 3):=fun z=>by rw[map_map];rfl
  unfold kL
  rw[f,f,h1,e,e,h2,h3]
theorem yL.keep {H H':Hp}(k:yX H H'):∀ {n:Nat}{x:Lv n}{b:Addr},yL n H x b->yL n H' x b
 | 0,_,_,h=>h.elim
 | n + 1,_,_,⟨vs,e,p⟩=>⟨vs,k _ _ e True.intro,Paired.mono (fun v x h=>by
  cases x with
  | inl o=>exact h
  | inr l=>obtain⟨c,e,h⟩:=h;exact⟨c,e,yL.keep k h⟩) p⟩
theorem Paired.mapR {α β γ:Type}{R:α->β->Prop}{R':α->γ->Prop}{f:β->γ}(h:∀ a b,R a b->R' a (f b)):∀ {as:List α}{bs:List β},Paired R as bs->Paired R' as (bs.map f):=fun y8=>by
 induction y8 with
 | nil=>exact .nil
 | cons x r ih=>exact .cons (h _ _ x) ih
theorem ld {H:Hp}{n:Nat}{vs:List V}{qs:List (Int × Int)}{t:Addr}(g:H t=some (.tup vs))(h:yT H vs qs):yL (n + 2) H (cS n qs) t:=⟨vs,g,Paired.mapR (fun v q ⟨t,e,z⟩=>⟨t,e,_,z, .cons rfl (.cons rfl .nil)⟩) h⟩
theorem Li (h:Option Int):hV h=nP h:=by cases h<;>rfl
theorem lY {H:Hp}{n:Nat}{ln:cy}{t q:Addr}{yJ:List V}(g:H t=some (.tup [.int ln.r, .int ln.b,hV ln.h, .ref q]))(gq:H q=some (.tup yJ))(h:yT H yJ ln.qs):yL (n + 3) H (dY n ln) t :=
 ⟨_,g, .cons rfl (.cons rfl (.cons (Li _) (.cons ⟨q,rfl,ld gq h⟩ .nil)))⟩
theorem iZ {n:Nat}{H:Hp}:∀ w:List Nat,Paired (fun v (e:Option Int ⊕ Lv n)=>match e with | .inl o=>v=nP o | .inr l=>∃ c,v = .ref c/\yL n H l c) (nV w) (w.map fun (k:Nat)=>Sum.inl (some (k:Int)))
 | [] => .nil
 | _ :: w => .cons rfl (iZ w)
theorem pi {H:Hp}{n:Nat}{w:List Nat}{t:Addr}(g:H t=some (.tup (nV w))):yL (n + 1) H (cO n w) t:=⟨_,g,iZ w⟩
noncomputable def KR (n:Nat)(H:Hp)(v:V)(k:Lv n):Prop:=∃ c,v = .ref c/\yL n H k c
theorem KR.same {n:Nat}{H H':Hp}(s:y1 H H'){v:V}{k:Lv n}(h:KR n H v k):KR n H' v k:=by
 obtain⟨c,e,h⟩:=h
 exact⟨c,e,h.same s⟩
theorem nY {H:Hp}{n:Nat}{vs:List V}{ks:List (Lv n)}{t:Addr}(g:H t=some (.tup vs))(h:Paired (KR n H) vs ks):yL (n + 1) H ((ks.map Sum.inr:List (Option Int ⊕ Lv n))) t:=⟨vs,g,Paired.mapR (f:=Sum.inr) (fun v k h=>h) h⟩
theorem ji {n:Nat}{H H2:Hp}{L:Addr}{vs:List V}{v:V}{ks:List (Lv n)}{k:Lv n}(hL:H L=none)(s:y1 H H2)(g:H2 L=some (.lst vs))(p:Paired (KR n H2) vs ks)(hv:KR n H2 v k) :
  y1 H (upd H2 L (.lst (vs ++ [v])))/\(upd H2 L (.lst (vs ++ [v]))) L=some (.lst (vs ++ [v]))/\Paired (KR n (upd H2 L (.lst (vs ++ [v])))) (vs ++ [v]) (ks ++ [k]):=by
 have kk:yX H2 (upd H2 L (.lst (vs ++ [v]))):=dG g
 have f:∀ x y,KR n H2 x y->KR n (upd H2 L (.lst (vs ++ [v]))) x y:=fun x y y8=>by obtain⟨c,e,h⟩:=y8;exact⟨c,e,yL.keep kk h⟩
 exact⟨fun b o e=>by rw[af (ag e hL)];exact s _ _ e,ac,Paired.snoc (f _ _ hv) (Paired.mono f p)⟩
noncomputable def Lj (K:Frag):List V->Hp->VK->Prop:=fun xs H Q=>∃ p ys,xs=[.ref p]/\((y6 K H p ys/\∀ l,H l=none->Q (.ref l) (upd H l (.tup ys)))∨(yD K H p ys/\Q (.ref p) H))
theorem jP {α:Type}{R:Hp->V->α->Prop}{K:Frag}{p:Addr}{xs:List V}{g:TG}{te:TE}{σ0:St}{H:Hp}{Q:VK}(mono:∀ {H H':Hp},y1 H H'->∀ v a,R H v a->R H' v a)(as:List α)(hl:xs.length=as.length)(ha:H p=some (.lst xs))(hn:as.length < sizeLine)
  (hs:∀ (i:Nat)(x:V)(a:α)(H1:Hp)(N:V->Hp->Prop),xs[i]? = some x->as[i]? = some a->y1 H H1->(∀ v H2,y1 H1 H2->R H2 v a->N v H2)->g x σ0 H1 fun σ2 H2=>te σ2 H2 N)
  (hq:∀ D vs H1,y1 H H1->H1 D=none->Paired (R H1) vs as->Q (.ref D) (upd H1 D (.lst vs))):dB (tY K p) g l8 te σ0 Q H:=by
 refine bZ as.length hn (fun i acc H'=>y1 H H'/\Paired (R H') acc (as.take i)) ⟨y1.refl _, .nil⟩ (fun i acc H' h=>by rw[Paired.length h.2];exact length_take_le _ _) (fun i acc H' hi h=>?_) (fun acc H' h=>?_)
 ·obtain⟨s,hL⟩:=h
  have hx:xs[i]? = some (xs[i]'(by omega)):=getElem?_eq_getElem (by omega)
  refine⟨⟨xs,_,y6.of (s _ _ ha),hx⟩,fun v H2 y=>?_⟩
  obtain⟨rfl,y⟩:=y
  have hv:=y xs (y6.of (s _ _ ha))
  refine hs i v as[i] H2 (fun y H4=>y1 H H4/\Paired (R H4) (acc ++ [y]) (as.take (i + 1))) hv (getElem?_eq_getElem hi) s fun v H3 s3 hv=>⟨s.trans s3,?_⟩
  rw[take_succ,getElem?_eq_getElem hi]
  exact Paired.snoc hv (Paired.mono (mono s3) hL)
 ·obtain⟨s,hL⟩:=h
  rw[take_length]at hL
  exact⟨⟨xs,y6.of (s _ _ ha),by omega⟩,fun D hD=>hq D acc H' s hD hL⟩
noncomputable def Q9 (s:Stmt):Scope:=match s with
 | .Assign _ (.ListComp _ _ sc _) _=>sc
 | _=>zQ0
noncomputable def QA (s:Stmt):Scope:=match s with
 | .Return (some (.Tuple [_, .Call _ [.ListComp _ _ sc _] _ _,_] _ _)) _=>sc
 | _=>zQ0
noncomputable def rc (K:Frag)(ys:Ys):Sp:=fun vs H Q _=>∃ (a:YA)(s:YS),vs=[.ref a.y]/\za K ys H a s/\s.lanes.length <= 900/\s.U.length <= 900/\∀ (t:Addr)(H':Hp),y1 H H'->yL 5 H' (kS s) t->Q (.ref t) H'
structure KyM (P:Program)(w:World)(K:Frag)(mg:Str->Option Value)(base:Heap)(ys:Ys)(ft fw fp fy:Addr)(dt dw dp dy:FuncData):Prop where
 mt:bB K ys.y3 "lane_told" ft
 bt:Binds K dt ["self", "lane"] []
 Gt:y2 P w K mg base az 2 ft dt ["self", "lane"] (oQ K ys)
 mw:bB K ys.y3 "way_told" fw
 bw:Binds K dw ["self", "number"] []
 Gw:y2 P w K mg base az 1 fw dw ["self", "number"] (qY K ys)
 mp:bB K ys.y3 "posted" fp
 bp:Binds K dp ["self"] []
 Gp:y2 P w K mg base az 1 fp dp ["self"] (lA K ys)
 my:bB K ys.y3 "lying" fy
 PY:Binds K dy ["self", "place"] []
 Gy:y2 P w K mg base az 1 fy dy ["self", "place"] (oN K ys)
noncomputable def rp (K:Frag)(ys:Ys):Sp:=fun vs H Q _=>∃ (a:YA)(s:YS)(ll:Addr)(yB:List V),vs=[.ref a.y, .ref ll, .int (s.lies.length:Nat)]/\H ll=some (.lst yB)/\yB.length=s.lanes.length/\za K ys H a s/\s.lanes.length <= 900/\s.U.length <= 900/\s.lies.length <= 900/\∀ (t:Addr)(H':Hp),y1 H H'->yL 5 H' (kL s) t->Q (.ref t) H'
abbrev NKy:List Str:=["_law_yard_here", "_law_lanes_here", "_law_places", "_law_found", "_law_lane", "_law_rights", "_law_back", "_law_holder", "_law_queue", "_law_letter", "_law_place"]
theorem Fe:ap ["self", "lanes"] ["self"] (aj n0):=L2.yW
theorem yk:zP ["self", "lanes"] (aj n0) (Q9 ((aM n0).getD 0 (.Pass ⟨0,0,0,0⟩))) [] []:=L2.AN
theorem yj:zP ["self", "lanes"] (aj n0) (QA ((aM n0).getD 1 (.Pass ⟨0,0,0,0⟩))) [] []:=L2.AN
theorem xH:(["lane"]:List Str).Nodup:=by decide +kernel
theorem xG:(["letter"]:List Str).Nodup:=by decide +kernel
theorem xj {ys:Ys}{f:Addr}{fd:FuncData}(F:yS K "stand" "Yard.stand" n0 f fd)(T:dJ mg)(Y:eU K ys):y2 P w K mg base az 1 f fd ["self"] (rc K ys):=by
 refine F.ok Fe (fun vs H Q E h=>?_) (fun cdv A outer s0 H vs Q E hr h=>?_)
 ·obtain⟨a,s,rfl,_⟩:=h
  rfl
 ·obtain⟨a,s,rfl,hY,HB,C9,q⟩:=h
  refine⟨_,ae (fI (i:=1) (own:=["lane"]) (capN:=[]) (cap:=[]) yk rfl Fe.nd rfl rfl (bz (al (pv 0) rfl)) (fun C s' H' fp=>⟨ay (i:=0) xH rfl (Or.inl rfl),ci,
    aW (aa (show PE _ _ (iA K (gY 0) "rights") from al (pv 0) rfl) (aa (show PE _ _ (iA K (gY 0) "returning") from al (pv 0) rfl) (aa (show PE _ _ (iA K (gY 0) "holder") from al (pv 0) rfl) (aa (aJ (show cE _ (.type "tuple") (Lj K) from aT) rfl T.tuple PySem.Pv.boot_tuple (aa (show PE _ _ (iA K (gY 0) "pieces") from al (pv 0) rfl) ad)) ad))))⟩))
   (ah (ar (aW (aa (aJ aT rfl T.tuple PySem.Pv.boot_tuple (aa (pv 1) ad))
    (aa (aJ aT rfl T.tuple PySem.Pv.boot_tuple (aa (bH (own:=["letter"]) (capN:=[]) (cap:=[]) yj rfl (bz (al (pv 0) rfl)) (fun C s' H' fp=>⟨ay (i:=0) xG rfl (Or.inl rfl),ci,aJ (show cE _ (.type "tuple") (Lj K) from aT) rfl T.tuple PySem.Pv.boot_tuple (aa (show PE _ _ (iA K (gY 0) "way") from al (pv 0) rfl) ad)⟩)) ad))
    (aa (aJ aT rfl T.tuple PySem.Pv.boot_tuple (aa (al (pv 0) rfl) ad)) ad)))))),?_⟩
  have ml:∀ {n:Nat}{H H':Hp},y1 H H'->∀ (v:V)(k:Lv n),KR n H v k->KR n H' v k:=fun s v k h=>h.same s
  obtain⟨yB,zm,pl⟩:=hY.zx
  refine⟨_,rfl,a.y,ys.y3,a.dy,_,_,rfl,hY.ins,Y.cl,Y.n3,rfl,a.la,rfl,⟨_,y6.of zm⟩,?_⟩
  refine jP (R:=KR 3) ml (s.lanes.map (dY 0)) (by rw[length_map];exact Paired.length pl) zm (by rw[length_map,sizeLine_eq];omega) (fun i x k H1 N hx hk s1 hN=>?_) (fun L vs H1 s1 hL pL=>?_)
  ·obtain⟨ln,yZ,x',dx,pa,yJ,rfl,L,_⟩:=Paired.at pl hx
   rw[getElem?_map,yZ]at hk
   cases hk
   have L1:=L.same s1
   refine⟨_,rfl,x',ys.yO,dx,_,_,rfl,L1.ins,Y.L.cl,Y.L.n1,rfl,_,rfl,x',ys.yO,dx,_,_,rfl,L1.ins,Y.L.cl,Y.L.n2,rfl,_,rfl,x',ys.yO,dx,_,_,rfl,L1.ins,Y.L.cl,Y.L.n3,rfl,_,rfl,x',ys.yO,dx,_,_,rfl,L1.ins,Y.L.cl,Y.L.n4,rfl,pa,yJ,rfl, .inl ⟨y6.of L1.lst,fun t ht=>⟨by show 4 <= sizeLine;decide,fun u hu=>?_⟩⟩⟩
   have s2:=(y1.refl H1).new (o := .tup yJ) ht
   have s3:=s2.new (o := .tup [.int ln.r, .int ln.b,hV ln.h, .ref t]) hu
   exact hN _ _ s3 ⟨u,rfl,lY ac (by rw[af (ag ac hu)];exact ac) (yT.same s3 L1.zw)⟩
  have s2:=s1.new (o := .lst vs) hL
  have g2:(upd H1 L (.lst vs)) L=some (.lst vs):=ac
  have p2:Paired (KR 3 (upd H1 L (.lst vs))) vs (s.lanes.map (dY 0)):=Paired.mono (fun v k h=>h.same ((y1.refl H1).new hL)) pL
  show cf 1 (V.ref L) _ (upd H1 L (.lst vs)) _
  generalize upd H1 L (.lst vs)=H2 at s2 g2 p2 ⊢
  refine⟨_,rfl,L,vs,rfl, .inl ⟨y6.of g2,fun t1 UY=>?_⟩⟩
  have s3:=s2.new (o := .tup vs) UY
  have k1:yL 4 (upd H2 t1 (.tup vs)) (((s.lanes.map (dY 0)).map Sum.inr:List (Option Int ⊕ Lv 3))) t1:=nY ac (Paired.mono (fun v k h=>h.same ((y1.refl H2).new UY)) p2)
  generalize upd H2 t1 (.tup vs)=H3 at s3 k1 ⊢
  have AO:=yA.same hY s3
  obtain⟨yH,zB,pt⟩:=AO.hle
  refine⟨_,rfl,a.y,ys.y3,a.dy,_,_,rfl,AO.ins,Y.cl,Y.n4,rfl,a.le,rfl,⟨_,y6.of zB⟩,?_⟩
  refine jP (R:=KR 3) ml (s.U.map fun t=>cO 2 t.way) (by rw[length_map];exact Paired.length pt) zB (by rw[length_map,sizeLine_eq];omega) (fun i x k H4 N hx hk s4 hN=>?_) (fun D ws H4 s4 hD pW=>?_)
  ·obtain⟨lt,yR,x',dx,wa,rfl,Bz,hw,_⟩:=Paired.at pt hx
   rw[getElem?_map,yR]at hk
   cases hk
   exact⟨_,rfl,x',ys.y4,dx,_,_,rfl,s4 _ _ Bz,Y.ct,Y.t6,rfl,wa,_,rfl, .inl ⟨y6.of (s4 _ _ hw),fun t ht=>hN _ _ ((y1.refl H4).new ht) ⟨t,rfl,pi ac⟩⟩⟩
  have s5:=s4.new (o := .lst ws) hD
  have g5:(upd H4 D (.lst ws)) D=some (.lst ws):=ac
  have p5:Paired (KR 3 (upd H4 D (.lst ws))) ws (s.U.map fun t=>cO 2 t.way):=Paired.mono (fun v k h=>h.same ((y1.refl H4).new hD)) pW
  generalize upd H4 D (.lst ws)=H5 at s5 g5 p5 ⊢
  refine⟨D,ws,rfl, .inl ⟨y6.of g5,fun t2 zq=>?_⟩⟩
  have s6:=s5.new (o := .tup ws) zq
  have k2:yL 4 (upd H5 t2 (.tup ws)) (((s.U.map fun t=>cO 2 t.way).map Sum.inr:List (Option Int ⊕ Lv 3))) t2:=nY ac (Paired.mono (fun v k h=>h.same ((y1.refl H5).new zq)) p5)
  generalize upd H5 t2 (.tup ws)=H6 at s6 k2 ⊢
  have UZ:=yA.same AO s6
  obtain⟨Aj,C1,ph⟩:=UZ.Ai
  refine⟨_,rfl,a.y,ys.y3,a.dy,_,_,rfl,UZ.ins,Y.cl,Y.n5,rfl,a.li,Aj,rfl, .inl ⟨y6.of C1,fun t3 QB=>?_⟩⟩
  have s7:=s6.new (o := .tup Aj) QB
  have k3:yL 4 (upd H6 t3 (.tup Aj)) ((s.lies.map fun qs=>Sum.inr (cS 1 qs):List (Option Int ⊕ Lv 3))) t3:=⟨Aj,ac,Paired.mapR (f:=fun qs=>Sum.inr (cS 1 qs)) (fun v qs h=>by
   obtain⟨t,vs,e,h1,h2⟩:=h
   exact⟨t,e,yL.same ((y1.refl H6).new QB) (ld (n:=1) h1 h2)⟩) ph⟩
  have Va:=(y1.refl H6).new (o := .tup Aj) QB
  generalize upd H6 t3 (.tup Aj)=H7 at s7 k3 Va ⊢
  refine⟨by show 3 <= sizeLine;decide,fun t ht=>?_⟩
  have u:=(y1.refl H7).new (o := .tup [.ref t1, .ref t2, .ref t3]) ht
  refine q t _ ((s3.trans s7).trans u) ⟨_,ac, .cons ⟨t1,rfl,?_⟩ (.cons ⟨t2,rfl,?_⟩ (.cons ⟨t3,rfl,k3.same u⟩ .nil))⟩
  ·have:=(k1.same s7).same u
   rw[map_map]at this
   exact this
  ·have:=(k2.same Va).same u
   rw[map_map]at this
   exact this
theorem Bn:ap NKy ["_law_yard_here", "_law_lanes_here", "_law_places"] (aj wP):=L2.yW
theorem x8 {ys:Ys}{f ft fw fp fy:Addr}{fd dt dw dp dy:FuncData}(F:yS K "_law_key" "_law_key" wP f fd)(T:dJ mg)(Y:eU K ys)(M:KyM P w K mg base ys ft fw fp fy dt dw dp dy):y2 P w K mg base az 3 f fd ["_law_yard_here", "_law_lanes_here", "_law_places"] (rp K ys):=by
 refine F.ok Bn (fun vs H Q E h=>?_) (fun cdv A outer s0 H vs Q E hr h=>?_)
 ·obtain⟨a,s,ll,yB,rfl,_⟩:=h
  rfl
 ·obtain⟨a,s,ll,yB,rfl,Nf,As,hY,HB,C9,Ui,q⟩:=h
  have zi:yC 1 _:=hr.mono (by decide)
  have zV:yC 2 _:=hr.mono (by decide)
  refine⟨_,ae (aw (i:=3) Bn.nd rfl (Or.inl rfl) (aU ad))
   (ae (bL PassesOwn.never rfl (bE rfl T.range (aa (au aq rfl T.len PySem.boot_len (aa (pv 1) ad)) ad)) (ay (i:=4) Bn.nd rfl (Or.inl rfl))
    (ae (iX (aH (pv 0) Y.cl M.mt M.Gt zV M.bt .nil ao (aa (pv 4) ad)) (gE rfl (bF (ay (i:=5) Bn.nd rfl (Or.inl rfl)) (bF (ay (i:=6) Bn.nd rfl (Or.inl rfl)) (bF (ay (i:=7) Bn.nd rfl (Or.inl rfl)) (bF (ay (i:=8) Bn.nd rfl (Or.inl rfl)) eM))))))
    (ah (aL (bV plainAttrs_list PySem.F.slot_list_append PySem.F.type_list_append aV (pv 3) (aa (aW (aa (pv 5) (aa (pv 6) (aa (pv 7) (aa (aJ aT rfl T.tuple PySem.Pv.boot_tuple (aa (pv 8) ad)) ad))))) ad))))))
   (ae (bL PassesOwn.never rfl (bE rfl T.range (aa (aO (pv 0) Y.cl M.mp M.Gp zi M.bp .nil ao) ad)) (ay (i:=9) Bn.nd rfl (Or.inl rfl))
    (ah (aL (bV plainAttrs_list PySem.F.slot_list_append PySem.F.type_list_append aV (pv 3) (aa (aJ aT rfl T.tuple PySem.Pv.boot_tuple (aa (aH (pv 0) Y.cl M.mw M.Gw zi M.bw .nil ao (aa (pv 9) ad)) ad)) ad)))))
   (ae (bL PassesOwn.never rfl (bE rfl T.range (aa (pv 2) ad)) (ay (i:=10) Bn.nd rfl (Or.inl rfl))
    (ah (aL (bV plainAttrs_list PySem.F.slot_list_append PySem.F.type_list_append aV (pv 3) (aa (aJ aT rfl T.tuple PySem.Pv.boot_tuple (aa (aH (pv 0) Y.cl M.my M.Gy zi M.PY .nil ao (aa (pv 10) ad)) ad)) ad)))))
   (ah (ar (aJ aT rfl T.tuple PySem.Pv.boot_tuple (aa (pv 3) ad))))))),?_⟩
  refine⟨zero_le _,fun L hL=>?_⟩
  have s0:=(y1.refl H).new (o := .lst []) hL
  have g0:(upd H L (.lst [])) L=some (.lst []):=ac
  show cf 3 (V.ref L) _ (upd H L (.lst [])) _
  generalize upd H L (.lst [])=H0 at s0 g0 ⊢
  have QC:∀ i j k,(kF s i j k).length <= 2700:=fun i j k=>by
   unfold kF
   rw[length_append,length_append,length_map,length_map,length_map,length_take,length_take,length_take]
   omega
  have QD:∀ {H':Hp}{vs:List V}{i j k:Nat},Paired (KR 4 H') vs (kF s i j k)->vs.length < sizeLine:=fun {H' vs i j k} p=>by
   have:=QC i j k
   rw[Paired.length p,sizeLine_eq];omega
  refine⟨_,rfl,ll,_,rfl, .inl (y6.of (s0 _ _ Nf)),(yB.length:Int),rfl,by omega,by omega,?_⟩
  rw[toNat_natCast,As]
  refine bW (n:=s.lanes.length) (fun i σ H'=>∃ (vs:List V)(a4 a5 a6 a7 a8:Option V),y1 H H'/\H' L=some (.lst vs)/\Paired (KR 4 H') vs (kF s i 0 0)/\σ=[some (.ref a.y),some (.ref ll),some (.int (s.lies.length:Nat)),some (.ref L),a4,a5,a6,a7,a8,none,none])
   ⟨[],none,none,none,none,none,s0,g0, .nil,rfl⟩ ?_ ?_
  ·rintro i σ H1 hi ⟨vs,a4,a5,a6,a7,a8,s1,g1,p1,rfl⟩
   rw[zero_add]
   have yZ:=getElem?_eq_getElem hi
   generalize s.lanes[i]=ln at yZ
   have zM:=yA.same hY s1
   refine⟨_,rfl,a.y,a.dy,_,rfl,zM.ins,rfl,_,rfl,a.y,a.dy,a.tb,a.ro,a.la,a.le,a.li,a.dn,s,i,ln,rfl,zM,yZ,fun t ql yJ H2 s2 EB gt Pq QE=>?_⟩
   have Ci:=s1.trans s2
   have p2:Paired (KR 4 H2) vs (kF s i 0 0):=Paired.mono (fun v k h=>h.same s2) p1
   refine⟨t,_,rfl,yD.of gt,rfl,_,_,rfl,_,_,rfl,_,_,rfl,_,_,rfl,rfl,?_⟩
   refine⟨_,rfl, .inl ⟨rfl,_,y6.of (s2 _ _ g1)⟩,_,rfl,_,rfl,_,rfl,_,rfl,ql,yJ,rfl, .inl ⟨y6.of Pq,fun t2 zq=>⟨by show 4 <= sizeLine;decide,fun u hu=>?_⟩⟩⟩
   have s3:=(y1.refl H2).new (o := .tup yJ) zq
   have s4:=s3.new (o := .tup [.int ln.r, .int ln.b,hV ln.h, .ref t2]) hu
   have kk:yL 4 (upd (upd H2 t2 (.tup yJ)) u (.tup [.int ln.r, .int ln.b,hV ln.h, .ref t2])) (dY 1 ln) u:=lY ac (by rw[af (ag ac hu)];exact ac) (yT.same s4 QE)
   generalize upd (upd H2 t2 (.tup yJ)) u (.tup [.int ln.r, .int ln.b,hV ln.h, .ref t2])=H4 at s4 kk ⊢
   have g4:=s4 _ _ (s2 _ _ g1)
   obtain⟨r1,r2,r3⟩:=ji (v := .ref u) hL (Ci.trans s4) g4 (Paired.mono (fun v k h=>h.same s4) p2) ⟨u,rfl,kk⟩
   refine⟨L,vs,_,rfl,rfl,g4,QD p1,vs ++ [.ref u],_,_,_,_,_,r1,r2,?_,rfl⟩
   have e:kF s (i + 1) 0 0=kF s i 0 0 ++ [dY 1 ln]:=by
    unfold kF
    rw[take_succ,yZ,map_append]
    simp
   rw[e]
   exact r3
  rintro σ H1 ⟨vs,a4,a5,a6,a7,a8,s1,g1,p1,rfl⟩
  have zM:=yA.same hY s1
  refine⟨_,rfl,a.y,a.dy,_,rfl,zM.ins,rfl,a.y,a.dy,a.tb,a.ro,a.la,a.le,a.li,a.dn,s,rfl,zM,(s.U.length:Int),rfl,by omega,by omega,?_⟩
  rw[toNat_natCast]
  refine bW (n:=s.U.length) (fun i σ H'=>∃ (vs:List V)(a9:Option V),y1 H H'/\H' L=some (.lst vs)/\Paired (KR 4 H') vs (kF s s.lanes.length i 0)/\σ=[some (.ref a.y),some (.ref ll),some (.int (s.lies.length:Nat)),some (.ref L),a4,a5,a6,a7,a8,a9,none])
   ⟨vs,none,s1,g1,p1,rfl⟩ ?_ ?_
  ·clear p1 g1 zM s1
   rintro i σ H1 hi ⟨vs,a9,s1,g1,p1,rfl⟩
   rw[zero_add]
   have yR:=getElem?_eq_getElem hi
   generalize s.U[i]=lt at yR
   have zM:=yA.same hY s1
   refine⟨_,rfl, .inl ⟨rfl,_,y6.of g1⟩,_,rfl,a.y,a.dy,_,rfl,zM.ins,rfl,_,rfl,a.y,a.dy,a.tb,a.ro,a.la,a.le,a.li,a.dn,s,i,lt,rfl,zM,yR,fun t H2 s2 _ gt=>⟨t,_,rfl, .inl ⟨y6.of gt,fun u hu=>?_⟩⟩⟩
   have s4:=s2.new (o := .tup (nV lt.way)) hu
   have kk:yL 4 (upd H2 u (.tup (nV lt.way))) (cO 3 lt.way) u:=pi ac
   generalize upd H2 u (.tup (nV lt.way))=H4 at s4 kk ⊢
   have g4:=s4 _ _ g1
   obtain⟨r1,r2,r3⟩:=ji (v := .ref u) hL (s1.trans s4) g4 (Paired.mono (fun v k h=>h.same s4) p1) ⟨u,rfl,kk⟩
   refine⟨L,vs,_,rfl,rfl,g4,QD p1,vs ++ [.ref u],_,r1,r2,?_,rfl⟩
   have e:kF s s.lanes.length (i + 1) 0=kF s s.lanes.length i 0 ++ [cO 3 lt.way]:=by
    unfold kF
    rw[take_succ,yR,map_append]
    simp
   rw[e]
   exact r3
  clear p1 g1 zM s1
  rintro σ H1 ⟨vs,a9,s1,g1,p1,rfl⟩
  refine⟨_,rfl,(s.lies.length:Int),rfl,by omega,by omega,?_⟩
  rw[toNat_natCast]
  refine bW (n:=s.lies.length) (fun i σ H'=>∃ (vs:List V)(b0:Option V),y1 H H'/\H' L=some (.lst vs)/\Paired (KR 4 H') vs (kF s s.lanes.length s.U.length i)/\σ=[some (.ref a.y),some (.ref ll),some (.int (s.lies.length:Nat)),some (.ref L),a4,a5,a6,a7,a8,a9,b0])
   ⟨vs,none,s1,g1,p1,rfl⟩ ?_ ?_
  ·clear p1 g1 s1
   rintro i σ H1 hi ⟨vs,b0,s1,g1,p1,rfl⟩
   rw[zero_add]
   have Ap:=getElem?_eq_getElem hi
   generalize s.lies[i]=qs at Ap
   have zM:=yA.same hY s1
   refine⟨_,rfl, .inl ⟨rfl,_,y6.of g1⟩,_,rfl,a.y,a.dy,_,rfl,zM.ins,rfl,_,rfl,a,s,i,qs,rfl,zM,Ap,fun t yJ H2 s2 _ gt QE=>⟨t,_,rfl, .inl ⟨y6.of gt,fun u hu=>?_⟩⟩⟩
   have s3:=(y1.refl H2).new (o := .tup yJ) hu
   have s4:=s2.trans s3
   have kk:yL 4 (upd H2 u (.tup yJ)) (cS 2 qs) u:=ld ac (yT.same s3 QE)
   generalize upd H2 u (.tup yJ)=H4 at s4 kk ⊢
   have g4:=s4 _ _ g1
   obtain⟨r1,r2,r3⟩:=ji (v := .ref u) hL (s1.trans s4) g4 (Paired.mono (fun v k h=>h.same s4) p1) ⟨u,rfl,kk⟩
   refine⟨L,vs,_,rfl,rfl,g4,QD p1,vs ++ [.ref u],_,r1,r2,?_,rfl⟩
   have e:kF s s.lanes.length s.U.length (i + 1)=kF s s.lanes.length s.U.length i ++ [cS 2 qs]:=by
    unfold kF
    rw[take_succ,Ap,map_append,← append_assoc]
    rfl
   rw[e]
   exact r3
  clear p1 g1 s1
  rintro σ H1 ⟨vs,b0,s1,g1,p1,rfl⟩
  refine⟨_,rfl,L,vs,rfl, .inl ⟨y6.of g1,fun t ht=>?_⟩⟩
  exact q t _ (s1.new ht) (nY ac (Paired.mono (fun v k h=>h.same ((y1.refl H1).new ht)) p1))
end K70
namespace L2
open PySem PySem.Spec PyProof.Rows
theorem y2.ex {P:Program}{w:World}{K:Frag}{mg:Str->Option Value}{base:Heap}{CX:pJ}{k:Nat}{f:Addr}{fd:FuncData}{ps:List Str} {ι:Type} {sp:ι->Sp} (h:∀ i,y2 P w K mg base CX k f fd ps (sp i)):y2 P w K mg base CX k f fd ps (fun vs H Q E=>∃ i,sp i vs H Q E) :=
 ⟨fun vs H Q E y8=>by obtain⟨i,q⟩:=y8;exact(h i).len vs H Q E q,fun A outer s H args us vs Q E hr he hb hv y8=>by obtain⟨i,hs⟩:=y8;exact(h i).run A outer s H args us vs Q E hr he hb hv hs⟩
end L2
namespace K70
open PySem L2
variable {P:Program}{w:World}{K:Frag}{mg:Str->Option Value}{base:Heap}
structure Yg where
 a0:YA
 X:List Addr
 m:Nat
 A:Nat->YA
 S:Nat->YS
 j:Nat
noncomputable def lr (K:Frag)(c:Cs)(TC:Addr)(J:TJ)(ys:Ys)(H:Hp)(g:Yg):Prop:=g.j < g.m/\zf K c TC J ys g.a0 g.X g.m H g.A g.S
noncomputable def om (K:Frag)(c:Cs)(TC:Addr)(J:TJ)(ys:Ys):Sp:=fun vs H Q _=>∃ g:Yg,vs=[.ref (g.A g.j).y]/\lr K c TC J ys H g/\∀ (D:Addr)(yQ:List V)(H':Hp),y1 H H'->H D=none->H' D=some (.lst yQ)->Paired (zu H') yQ ((aI g.a0 (g.S g.j)).map cv)->Q (.ref D) H'
noncomputable def oj (K:Frag)(c:Cs)(TC:Addr)(J:TJ)(ys:Ys):Sp:=fun vs H Q _=>∃ g:Yg,vs=[.ref (g.A g.j).y]/\lr K c TC J ys H g/\∀ H',y1 H H'->Q (.bl (bq g.a0 (g.S g.j))) H'
noncomputable def Lk (K:Frag)(c:Cs)(TC:Addr)(J:TJ)(ys:Ys):Sp:=fun vs H Q _=>∃ g:Yg,vs=[.ref (g.A g.j).y]/\lr K c TC J ys H g/\∀ (t:Addr)(H':Hp),y1 H H'->yL 5 H' (kS (g.S g.j)) t->Q (.ref t) H'
noncomputable def wc (K:Frag)(c:Cs)(TC:Addr)(J:TJ)(ys:Ys):Sp:=fun vs H Q _=>∃ g:Yg,vs=[.ref (g.A g.j).y]/\lr K c TC J ys H g/\∀ (b:YA)(H':Hp),y1 H H'->(∀ z ∈ b.four,H z=none)->zf K c TC J ys g.a0 g.X (g.m + 1) H' (bX g.A g.m b) (bX g.S g.m (core (g.S g.j)))->Q (.ref b.y) H'
noncomputable def tE (K:Frag)(c:Cs)(TC:Addr)(J:TJ)(ys:Ys):Sp:=fun vs H Q _=>∃ g:Yg,vs=[.ref (g.A g.j).y]/\lr K c TC J ys H g/\∀ (b:YA)(H':Hp),y1 H H'->(∀ z ∈ b.four,H z=none)->zf K c TC J ys g.a0 g.X (g.m + 1) H' (bX g.A g.m b) (bX g.S g.m (g.S g.j))->Q (.ref b.y) H'
noncomputable def QF (K:Frag)(c:Cs)(TC:Addr)(J:TJ)(ys:Ys):Sp:=fun vs H Q _=>∃ (g:Yg)(p:Addr)(mv:Mv),vs=[.ref (g.A g.j).y, .ref p]/\lr K c TC J ys H g/\H p=some (.tup (cv mv))/\mv ∈ aI g.a0 (g.S g.j)/\(g.S g.j).done.length < 1000 /\
 ∀ (H':Hp)(s':YS),zS g.a0 (g.S g.j) mv s'->yG (g.A g.j).four H H'->zf K c TC J ys g.a0 g.X g.m H' g.A (iM g.S g.j { s' with done:=(g.S g.j).done ++ [cv mv] })->Q .yK H'
section
variable {P:Program}{w:World}{K:Frag}{mg:Str->Option Value}{base:Heap}{c:Cs}{TC fw:Addr}{dw:FuncData}{J:TJ}{ys:Ys}
theorem vk {n:Nat}{f:Addr}{fd:FuncData}(G:∀ ex,y2 P w K mg base az n f fd ["self"] (eI K c TC J (yx ys ex))):y2 P w K mg base az n f fd ["self"] (om K c TC J ys) :=
 (y2.ex G).imp fun vs H Q E y8=>by obtain⟨g,e,⟨hj,hD⟩,q⟩:=y8;exact⟨_,g.A g.j,g.S g.j,e,hD.KL hj,fun D yQ H' s' hn hl hp=>q D yQ H' s' hn hl (by rw[je (hD.E _ hj).ps (hD.E _ hj).wy]at hp;exact hp)⟩
theorem qW {a a':YA}{s:YS}(h1:a'.ps=a.ps)(h2:a'.wy=a.wy):bq a' s=bq a s:=by unfold bq;rw[je h1 h2]
theorem pA {n:Nat}{f:Addr}{fd:FuncData}{p:Str}(G:∀ ex,y2 P w K mg base az n f fd [p] (fR K c TC J (yx ys ex))):y2 P w K mg base az n f fd [p] (oj K c TC J ys) :=
 (y2.ex G).imp fun vs H Q E y8=>by obtain⟨g,e,⟨hj,hD⟩,q⟩:=y8;exact⟨_,g.A g.j,g.S g.j,e,hD.KL hj,fun H' s'=>by rw[qW (hD.E _ hj).ps (hD.E _ hj).wy];exact q H' s'⟩
theorem Ll {n:Nat}{f:Addr}{fd:FuncData}(G:∀ ex,y2 P w K mg base az n f fd ["self"] (rc K (yx ys ex))):y2 P w K mg base az n f fd ["self"] (Lk K c TC J ys) :=
 (y2.ex G).imp fun vs H Q E y8=>by obtain⟨g,e,⟨hj,hD⟩,q⟩:=y8;exact⟨_,g.A g.j,g.S g.j,e,hD.Y _ hj,by have:=(hD.J _ hj).lanes;have:=(hD.J _ hj).B8;omega,by have:=(hD.J _ hj).zl;omega,q⟩
theorem zf.Vb {a0:YA}{X:List Addr}{m:Nat}{H:Hp}{A:Nat->YA}{S:Nat->YS}(hD:zf K c TC J ys a0 X m H A S){j:Nat}(hj:j < m):Qp K (yx ys (sh m A j ++ X)) H (A j) (S j):=by
 have:=hD.J _ hj
 have h1:=this.lanes
 have h2:=this.B8
 have h3:=this.zl
 have h4:=this.lies
 have h5:=hD.T.Hv
 have h6:=(hD.E _ hj).n
 have h7:=hD.N _ hj
 exact⟨hD.Y _ hj,by rw[(hD.E _ hj).ps];exact hD.R _ hj,by omega,by omega,by omega,by omega⟩
theorem zf.Vc {a0:YA}{X:List Addr}{m:Nat}{H H':Hp}{A:Nat->YA}{S:Nat->YS}{j:Nat}{b:YA}{s:YS}(hY:za K (yx ys ((A j).four ++ (sh m A j ++ X))) H' b s):za K (yx ys (vy m A ++ X)) H' b s :=
 za.Fb hY (y1.refl _) fun z hz => .inl (by
  rcases mem_append.mp hz with hz | hz
  ·obtain⟨k,hk,hz⟩:=B9.mp hz
   by_cases e:k=j
   ·subst e;exact mem_append_left _ hz
   ·exact mem_append_right _ (mem_append_left _ (zN.mpr ⟨k,hk,e,hz⟩))
  ·exact mem_append_right _ (mem_append_right _ hz))
theorem ye {n:Nat}{f:Addr}{fd:FuncData}(W:Wy K TC fw dw J)(G:∀ ex,y2 P w K mg base az n f fd ["self"] (kA K c TC J (yx ys ex))):y2 P w K mg base az n f fd ["self"] (wc K c TC J ys) :=
 (y2.ex G).imp fun vs H Q E ⟨g,e,⟨hj,hD⟩,q⟩=>⟨_,g.A g.j,g.S g.j,e,hD.Vb hj,(hD.KL hj).T,fun y dy ro la le li dn v1 v2 v3 H' s' ny g1 g2 g3 gi gr a1 a2 a3 a4 fr nd=>by
  have hY:=oG (dn':=[]) (hD.Y _ hj) s' g1 g2 g3 gi gr a1 a2 a3 a4 .nil fr nd
  refine q ((g.A g.j).twin y dy ro la le li dn) H' s' fr (zf.add W hD s' (zf.Vc (a0:=g.a0) (H:=H) (S:=g.S) hY) (((hD.E _ hj).twin y dy ro la le li dn).KJ ((hD.E _ hj).K4 ((hD.J _ hj).done []))) ((hD.E _ hj).twin ..) (hD.R _ hj) (zero_le _) fr (fun x hx=>?_))
  obtain⟨xs,hx⟩:=(hD.Y _ hj).hex x (mem_append_right _ hx)
  exact⟨_,hx⟩⟩
theorem yc {n:Nat}{f:Addr}{fd:FuncData}(W:Wy K TC fw dw J)(G:∀ ex,y2 P w K mg base az n f fd ["self"] (ng K c TC J (yx ys ex))):y2 P w K mg base az n f fd ["self"] (tE K c TC J ys) :=
 (y2.ex G).imp fun vs H Q E ⟨g,e,⟨hj,hD⟩,q⟩=>⟨_,g.A g.j,g.S g.j,e,hD.Vb hj,(hD.KL hj).T,fun y dy ro la le li dn H' s' fr hY=>by
  refine q ((g.A g.j).twin y dy ro la le li dn) H' s' fr (zf.add W hD s' (zf.Vc (a0:=g.a0) (H:=H) (S:=g.S) hY) (((hD.E _ hj).twin y dy ro la le li dn).KJ ((hD.E _ hj).K4 (hD.J _ hj))) ((hD.E _ hj).twin ..) (hD.R _ hj) (hD.N _ hj) fr (fun x hx=>?_))
  obtain⟨xs,hx⟩:=(hD.Y _ hj).hex x (mem_append_right _ hx)
  exact⟨_,hx⟩⟩
theorem QG {n:Nat}{f:Addr}{fd:FuncData}(W:Wy K TC fw dw J)(G:∀ ex,y2 P w K mg base az n f fd ["self", "move"] (uf K c TC J (yx ys ex))):y2 P w K mg base az n f fd ["self", "move"] (QF K c TC J ys) :=
 (y2.ex G).imp fun vs H Q E ⟨g,p,mv,e,⟨hj,hD⟩,hp,hm,hd,q⟩=>⟨_,g.A g.j,g.S g.j,p,mv,e,hD.KL hj,hp,by rw[je (hD.E _ hj).ps (hD.E _ hj).wy];exact hm,(hD.J _ hj).U6 (by omega),fun H' s' hS o hY=>by
  have Dr:zS g.a0 (g.S g.j) mv s':=zS.to (hD.E _ hj).ps.symm (hD.E _ hj).wy.symm hS
  refine q H' s' Dr o (zf.step W hD hj o hY (((hD.J _ hj).step hS).done _) hS.rooms ?_)
  show((g.S g.j).done ++ [cv mv]).length <= 1000
  rw[length_append,length_singleton];omega⟩
end
noncomputable def HL (H:Hp)(v:V)(e:Option (Nat × Mv)):Prop:=match e with
 | none=>v = .yK
 | some (k,m)=>∃ t mt,v = .ref t/\H t=some (.tup [.int (k:Int), .ref mt])/\H mt=some (.tup (cv m))
structure HM (es:List (Option (Nat × Mv)))(ps:List (List Mv)):Prop where
 len:es.length=ps.length
 root:∀ (i:Nat),es[i]? = some none->ps[i]? = some []
 step:∀ (i k:Nat)(m:Mv),es[i]? = some (some (k,m))->∃ p,k < i/\ps[k]? = some p/\ps[i]? = some (p ++ [m])
theorem HM.snoc {es:List (Option (Nat × Mv))}{ps:List (List Mv)}(h:HM es ps){k:Nat}{m:Mv}{p:List Mv}(hk:ps[k]? = some p):HM (es ++ [some (k,m)]) (ps ++ [p ++ [m]]):=by
 have hl:=h.len
 have AY:=(gQ0 hk)
 refine⟨by rw[length_append,length_append,h.len];rfl,fun i hi=>?_,fun i k' m' hi=>?_⟩
 ·by_cases e:i < es.length
  ·rw[getElem?_append_left e]at hi
   rw[getElem?_append_left (by omega)]
   exact h.root i hi
  ·have:=(gQ0 hi)
   rw[length_append,length_singleton]at this
   obtain rfl:i=es.length:=by omega
   rw[getElem?_concat_length]at hi
   cases hi
 ·by_cases e:i < es.length
  ·rw[getElem?_append_left e]at hi
   obtain⟨q,h1,h2,h3⟩:=h.step i k' m' hi
   exact⟨q,h1,by rw[getElem?_append_left (by omega)];exact h2,by rw[getElem?_append_left (by omega)];exact h3⟩
  ·have:=(gQ0 hi)
   rw[length_append,length_singleton]at this
   obtain rfl:i=es.length:=by omega
   rw[getElem?_concat_length]at hi
   cases hi
   refine⟨p,by omega,by rw[getElem?_append_left AY];exact hk,?_⟩
   rw[hl,getElem?_concat_length]
theorem QH:HM [none] [[]]:=by
 refine⟨rfl,fun i hi=>?_,fun i k m hi=>?_⟩
 ·have:=(gQ0 hi)
  obtain rfl:i=0:=by simp at this;omega
  rfl
 ·have:=(gQ0 hi)
  obtain rfl:i=0:=by simp at this;omega
  cases hi
noncomputable def rg:Sp:=fun vs H Q _=>∃ (St:Addr)(zZ:List V)(es:List (Option (Nat × Mv)))(ps:List (List Mv))(i:Nat)(p:List Mv),vs=[.ref St, .int (i:Int)]/\H St=some (.lst zZ)/\Paired (HL H) zZ es/\HM es ps/\ps[i]? = some p/\es.length <= 10000/\∀ (D:Addr)(yQ:List V)(H':Hp),y1 H H'->H D=none->H' D=some (.lst yQ)->Paired (zu H') yQ (p.map cv)->Q (.ref D) H'
theorem Paired.rev {α β:Type}{R:α->β->Prop}:∀ {as:List α}{bs:List β},Paired R as bs->Paired R as.reverse bs.reverse
 | _,_, .nil => .nil
 | _,_, .cons h r=>by
  rw[List.reverse_cons,List.reverse_cons]
  exact Paired.snoc h (Paired.rev r)
theorem El:ap ["steps", "number", "back", "step"] ["steps", "number"] (aj rN):=L2.yW
theorem uI {f:Addr}{fd:FuncData}(F:yS K "moves_to" "moves_to" rN f fd)(T:dJ mg):y2 P w K mg base az 1 f fd ["steps", "number"] rg:=by
 refine F.ok El (fun vs H Q E h=>?_) (fun cdv A outer s0 H vs Q E hr h=>?_)
 ·obtain⟨St,zZ,es,ps,i,p,rfl,_⟩:=h
  rfl
 ·obtain⟨St,zZ,es,ps,i,p,rfl,gS,pS,hP,hp,U4,q⟩:=h
  refine⟨_,ae (aw (i:=2) El.nd rfl (Or.inl rfl) (aU ad))
   (ae (aw (i:=3) El.nd rfl (Or.inl rfl) (aC aS (pv 0) (pv 1) (fun _ _=>rfl)))
   (ae (iW PassesOwn.never (ax ir (pv 3) bS (aB _))
    (ae (aL (bV plainAttrs_list PySem.F.slot_list_append PySem.F.type_list_append aV (pv 2) (aa (aC aE (pv 3) ai (fun _ _=>rfl)) ad)))
    (ah (aw (i:=3) El.nd rfl (Or.inl rfl) (aC aS (pv 0) (aC aE (pv 3) ai (fun _ _=>rfl)) (fun _ _=>rfl))))))
   (ah (ar (pY rfl rfl T.list rfl T.rev (aa (pv 2) ad)))))),?_⟩
  refine⟨zero_le _,fun B hB=>?_⟩
  have s0:=(y1.refl H).new (o := .lst []) hB
  have g0:(upd H B (.lst [])) B=some (.lst []):=ac
  show cf 2 (V.ref B) _ (upd H B (.lst [])) _
  generalize upd H B (.lst [])=H0 at s0 g0 ⊢
  have Fc:=(gQ0 hp)
  have Hs:zZ.length=ps.length:=by rw[Paired.length pS,hP.len]
  have Bq:=hP.len
  have Vd:zZ[i]? = some (zZ[i]'(by omega)):=getElem?_eq_getElem (by omega)
  refine⟨_,rfl,_,rfl,St,zZ,(i:Int),_,rfl,rfl,y6.of (s0 _ _ gS),ak Vd,?_⟩
  refine⟨fun k σ H'=>∃ (v:V)(b:List Mv)(BH:List V)(pk:List Mv),y1 H H'/\H' B=some (.lst BH)/\Paired (zu H') BH (b.map cv)/\zZ[k]? = some v/\ps[k]? = some pk/\p=pk ++ b.reverse/\b.length + k <= i/\σ=[some (.ref St),some (.int (i:Int)),some (.ref B),some v],
   ⟨i,_,[],[],p,s0,g0, .nil,Vd,hp,by rw[List.reverse_nil,append_nil],by simp,rfl⟩,?_⟩
  rintro k σ H1 ⟨v,b,BH,pk,s1,g1,p1,hv,Ve,ep,hbk,rfl⟩
  obtain⟨e,he,hS⟩:=Paired.at pS hv
  refine⟨_,rfl,rfl,_,rfl,?_⟩
  have hbl:BH.length=b.length:=by rw[Paired.length p1,length_map]
  cases e with
  | none =>
   have HC:v = .yK:=hS
   subst HC
   refine aF ?_
   have:=hP.root k he
   rw[Ve]at this
   cases this
   refine⟨_,rfl,B,BH,rfl,y6.of g1,fun t ht=>?_⟩
   refine q t _ _ (s1.new ht) (s1.free ht) ac ?_
   rw[ep,nil_append,List.map_reverse]
   exact Paired.mono (fun v m z=>z.keep (y1.yF ((y1.refl H1).new ht))) (Paired.rev p1)
  | some x =>
   obtain⟨k',m⟩:=x
   obtain⟨t,mt,rfl,h1,h2⟩:=hS
   obtain⟨pk',zL,Lm,Nd⟩:=hP.step k k' m he
   rw[Ve]at Nd
   cases Nd
   refine aK ⟨fun σ' H'=>∃ (v:V)(b:List Mv)(BH:List V)(pk:List Mv),y1 H H'/\H' B=some (.lst BH)/\Paired (zu H') BH (b.map cv)/\zZ[k']? = some v/\ps[k']? = some pk/\p=pk ++ b.reverse/\b.length + k' <= i/\σ' = [some (.ref St),some (.int (i:Int)),some (.ref B),some v],fun σ' H' h=>⟨k',zL,h⟩,?_⟩
   refine⟨_,rfl, .inl ⟨rfl,_,y6.of g1⟩,_,rfl,t,_,(1:Int),_,rfl,rfl,yD.of (s1 _ _ h1),rfl,B,BH,_,rfl,rfl,g1,by rw[sizeLine_eq];omega,?_⟩
   have kk:yX H1 (upd H1 B (.lst (BH ++ [.ref mt]))):=dG g1
   have s2:y1 H (upd H1 B (.lst (BH ++ [.ref mt]))):=fun b o e=>by rw[af (ag e hB)];exact s1 _ _ e
   have g2:(upd H1 B (.lst (BH ++ [.ref mt]))) B=some (.lst (BH ++ [.ref mt])):=ac
   have p2:Paired (zu (upd H1 B (.lst (BH ++ [.ref mt])))) (BH ++ [.ref mt]) ((b ++ [m]).map cv):=by
    rw[map_append]
    exact Paired.snoc ⟨mt,rfl,s2 _ _ h2⟩ (Paired.mono (fun v m z=>z.keep kk) p1)
   generalize upd H1 B (.lst (BH ++ [.ref mt]))=H2 at s2 g2 p2 ⊢
   have AY:=(gQ0 Lm)
   have DL:zZ[k']? = some (zZ[k']'(by omega)):=getElem?_eq_getElem (by omega)
   refine⟨_,rfl,_,rfl,t,_,(0:Int),_,rfl,rfl,yD.of (s2 _ _ h1),rfl,St,zZ,(k':Int),_,rfl,rfl,y6.of (s2 _ _ gS),ak DL,?_⟩
   exact⟨_,b ++ [m],_,pk',s2,g2,p2,DL,Lm,by rw[ep,List.reverse_append,append_assoc];rfl,by rw[length_append,length_singleton];omega,rfl⟩
theorem Vf {k:Nat}{A:Around}(r:yC k A):A.units + 8 < cLine:=by have:=r.units;omega
noncomputable def ia (H H':Hp):Prop:=∀ b vs,H b=some (.tup vs)->H' b=some (.tup vs)
theorem yL.tup {H H':Hp}(k:ia H H'):∀ {n:Nat}{x:Lv n}{b:Addr},yL n H x b->yL n H' x b
 | 0,_,_,h=>h.elim
 | n + 1,_,_,⟨vs,e,p⟩=>⟨vs,k _ _ e,Paired.mono (fun v x h=>by
  cases x with
  | inl o=>exact h
  | inr l=>obtain⟨c,e,h⟩:=h;exact⟨c,e,yL.tup k h⟩) p⟩
theorem HL.tup {H H':Hp}(k:ia H H'){v:V}{e:Option (Nat × Mv)}(h:HL H v e):HL H' v e:=by
 cases e with
 | none=>exact h
 | some x=>obtain⟨t,mt,e,h1,h2⟩:=h;exact⟨t,mt,e,k _ _ h1,k _ _ h2⟩
theorem qR {H H':Hp}(s:y1 H H'):ia H H':=fun b vs e=>s _ _ e
theorem jZ {H:Hp}{x:Addr}{xs:List V}{u:HO}(g:H x=some (.lst xs)):ia H (upd H x u):=fun b vs e=>by rw[af (aR e g (by intro z;cases z))];exact e
theorem ig {H:Hp}{x:Addr} {φ:Heap->Prop} {u:HO} (g:H x=some (.ext φ)):ia H (upd H x u):=fun b vs e=>by rw[af (aR e g (by intro z;cases z))];exact e
theorem vq {s:YS}(h:s.done=[]):core s=s:=by
 obtain⟨r,l,t,i,d⟩:=s
 simp only at h
 subst h
 rfl
noncomputable def QI (S:Nat->YS)(m:Nat)(k:Nat)(e:cC):Prop:=k < m/\core (S k)=e.s
noncomputable def Kn (kf:YS->Lv 5)(kvs:List c6)(L:List cC):Prop:=kvs.length <= L.length/\∀ x:YS,(∀ e ∈ L,e.s.lanes.length=x.lanes.length/\e.s.U.length=x.U.length)->((cu kvs (kf x)).isSome=true↔∃ e ∈ L,kq e.s=kq x)
structure DE (P:Program)(w:World)(K:Frag)(c:Cs)(TC:Addr)(J:TJ)(ys:Ys)(a0:YA)(H:Hp)(Ln St Sn:Addr)(m:Nat)(H':Hp)(A:Nat->YA)(S:Nat->YS)(ix:List Nat)(L:List cC):Prop where
 s:y1 H H'
 D:zf K c TC J ys a0 [St,Ln] m H' A S
 ln:H' Ln=some (.lst (ix.map fun k => .ref (A k).y))
 st:∃ zZ es,H' St=some (.lst zZ)/\Paired (HL H') zZ es/\HM es (L.map (·.p))
 dn:∃ kvs,zd P w H' Sn kvs/\Kn kS kvs L
 ix:Paired (QI S m) ix L
theorem Paired.Em {α β:Type}{R:α->β->Prop}:∀ {as:List α}{bs:List β},Paired R as bs->∀ a ∈ as,∃ b,R a b
 | _,_, .nil,_,h=>by cases h
 | _,_, .cons x r,a,h=>by
  rcases mem_cons.mp h with rfl | h
  ·exact⟨_,x⟩
  ·exact Paired.Em r a h
section
variable {P:Program}{w:World}{K:Frag}{c:Cs}{TC fw:Addr}{dw:FuncData}{J:TJ}{ys:Ys}{a0:YA}{H:Hp}{Ln St Sn:Addr}{m:Nat}{H1 H3:Hp}{A:Nat->YA}{S:Nat->YS}{ix:List Nat}{L:List cC}
theorem DE.turn (h:DE P w K c TC J ys a0 H Ln St Sn m H1 A S ix L)(e:y1 H1 H3){m':Nat}{A':Nat->YA}{S':Nat->YS}(D3:zf K c TC J ys a0 [St,Ln] m' H3 A' S')(hm:m <= m')(hA:∀ k,k < m->A' k=A k)(hS:∀ k,k < m->S' k=S k):DE P w K c TC J ys a0 H Ln St Sn m' H3 A' S' ix L:=by
 refine⟨h.s.trans e,D3,?_,?_,?_,Paired.mono (fun k x z=>⟨lt_of_lt_of_le z.1 hm,by rw[hS k z.1];exact z.2⟩) h.ix⟩
 ·rw[e _ _ h.ln]
  congr 2
  refine map_congr_left fun k hk=>?_
  obtain⟨x,z,_⟩:=Paired.Em h.ix k hk
  rw[hA k z]
 ·obtain⟨zZ,es,h1,h2,h3⟩:=h.st
  exact⟨zZ,es,e _ _ h1,Paired.mono (fun v x z=>z.tup (qR e)) h2,h3⟩
 ·obtain⟨kvs,h1,h2⟩:=h.dn
  exact⟨kvs,h1.same e,h2⟩
theorem DE.same (W:Wy K TC fw dw J)(h:DE P w K c TC J ys a0 H Ln St Sn m H1 A S ix L)(e:y1 H1 H3):DE P w K c TC J ys a0 H Ln St Sn m H3 A S ix L:=h.turn e (h.D.same W e) (le_refl _) (fun _ _=>rfl) (fun _ _=>rfl)
end
theorem tm {kf:YS->Lv 5}{kvs:List c6}{L:List cC}{s':YS}{p:List Mv}{t:Addr}{v:V}(hk:∀ x y:YS,x.lanes.length=y.lanes.length->x.U.length=y.U.length->(kf x=kf y↔kq x=kq y))(h:Kn kf kvs L)(hs:∀ e ∈ L,e.s.lanes.length=s'.lanes.length/\e.s.U.length=s'.U.length):Kn kf (bI kvs (kf s') t v) (L ++ [⟨s',p⟩]):=by
 refine⟨?_,fun x hx=>?_⟩
 ·have:=fZ (kvs:=kvs) (k:=kf s') (b:=t) (v:=v)
  have:=h.1
  rw[length_append,length_singleton];omega
 ·have zY:∀ e ∈ L,e.s.lanes.length=x.lanes.length/\e.s.U.length=x.U.length:=fun e he=>hx e (mem_append_left _ he)
  obtain⟨q1,q2⟩:=hx ⟨s',p⟩ (mem_append_right _ (mem_singleton.mpr rfl))
  rw[pK]
  by_cases e:kf x=kf s'
  ·rw[if_pos e]
   exact⟨fun _=>⟨⟨s',p⟩,mem_append_right _ (mem_singleton.mpr rfl),((hk x s' q1.symm q2.symm).mp e).symm⟩,fun _=>rfl⟩
  ·rw[if_neg e,h.2 x zY]
   constructor
   ·rintro⟨y,hy,z⟩
    exact⟨y,mem_append_left _ hy,z⟩
   ·rintro⟨y,hy,z⟩
    rcases mem_append.mp hy with hy | hy
    ·exact⟨y,hy,z⟩
    ·rw[mem_singleton.mp hy]at z
     exact absurd ((hk x s' q1.symm q2.symm).mpr z.symm) e
theorem tp {kf:YS->Lv 5}{s':YS}{p:List Mv}{t:Addr}{v:V}(hk:∀ x y:YS,x.lanes.length=y.lanes.length->x.U.length=y.U.length->(kf x=kf y↔kq x=kq y)):Kn kf [(kf s',t,v)] [⟨s',p⟩]:=by
 refine⟨le_refl _,fun x hx=>?_⟩
 obtain⟨q1,q2⟩:=hx ⟨s',p⟩ (mem_singleton.mpr rfl)
 rw[bR]
 by_cases e:kf s' = kf x
 ·rw[if_pos e]
  exact⟨fun _=>⟨_,mem_singleton.mpr rfl,(hk s' x q1 q2).mp e⟩,fun _=>rfl⟩
 ·rw[if_neg e]
  constructor
  ·intro z;cases z
  ·rintro⟨y,hy,z⟩
   rw[mem_singleton.mp hy]at z
   exact absurd ((hk s' x q1 q2).mpr z) e
noncomputable def Vg (H0 H:Hp)(v:V):Rs->Prop
 | .more=>∃ t,v = .ref t/\H0 t=none/\H t=some (.tup [.str "more"])
 | .ends=>∃ t,v = .ref t/\H0 t=none/\H t=some (.tup [.str "ends"])
 | .zh p=>∃ t D yQ,v = .ref t/\H0 t=none/\H t=some (.tup [.str "still", .ref D])/\H0 D=none/\H D=some (.lst yQ)/\Paired (zu H) yQ (p.map cv)
noncomputable def l9 (K:Frag)(c:Cs)(TC:Addr)(J:TJ)(ys:Ys):Sp:=fun vs H Q _=>∃ (a:YA)(s:YS)(most:Nat),vs=[.ref a.y, .int (most:Int)]/\BG K c TC J (yx ys []) H a s/\zE a s/\jd a.ps.length s.rooms=true/\s.done.length <= 900/\1 <= most/\most <= 900 /\
 ∀ (v:V)(H':Hp)(r:Rs),y1 H H'->Sr a s most r->Vg H H' v r->Q v H'
structure SrM (P:Program)(w:World)(K:Frag)(mg:Str->Option Value)(base:Heap)(c:Cs)(TC:Addr)(J:TJ)(ys:Ys)(fm fb fd ft fs fv:Addr)(dm db dd dt ds dv:FuncData):Prop where
 mm:bB K ys.y3 "moves" fm
 bm:Binds K dm ["self"] []
 Gm:y2 P w K mg base az 7 fm dm ["self"] (om K c TC J ys)
 mb:bB K ys.y3 "bare_twin" fb
 bb:Binds K db ["self"] []
 Gb:y2 P w K mg base az 6 fb db ["self"] (wc K c TC J ys)
 md:bB K ys.y3 "do" fd
 bd:Binds K dd ["self", "move"] []
 Gd:y2 P w K mg base az 8 fd dd ["self", "move"] (QF K c TC J ys)
 mt:bB K ys.y3 "stand" ft
 bt:Binds K dt ["self"] []
 Gt:y2 P w K mg base az 1 ft dt ["self"] (Lk K c TC J ys)
 ms:mg "still" = some (.ref fs)
 ks:keepIn K (.ref fs)=true
 bs:Binds K ds ["yard"] []
 Gs:y2 P w K mg base az 8 fs ds ["yard"] (oj K c TC J ys)
 mv:mg "moves_to" = some (.ref fv)
 kv:keepIn K (.ref fv)=true
 bv:Binds K dv ["steps", "number"] []
 Gv:y2 P w K mg base az 1 fv dv ["steps", "number"] rg
noncomputable def WI (P:Program)(w:World)(K:Frag)(c:Cs)(TC:Addr)(J:TJ)(ys:Ys)(a:YA)(s:YS)(most:Nat)(H:Hp)(Ln St Sn:Addr)(i:Nat):L2.St->Hp->Prop:=fun σ H'=>∃ (n m:Nat)(B:Nat->YA)(S:Nat->YS)(ix:List Nat)(L:List cC)(a6 a7 a8 a9:Option V),Tr a s n ⟨L,i,0⟩/\L.length <= most/\(∀ e ∈ L,e.s.lanes.length=s.lanes.length/\e.s.U.length=s.U.length)/\DE P w K c TC J ys a H Ln St Sn m H' B S ix L /\
 σ=[some (.ref a.y),some (.int (most:Int)),some (.ref Ln),some (.ref St),some (.ref Sn),some (.int (i:Int)),a6,a7,a8,a9]
noncomputable def FI (P:Program)(w:World)(K:Frag)(c:Cs)(TC:Addr)(J:TJ)(ys:Ys)(a:YA)(s:YS)(most:Nat)(H:Hp)(Ln St Sn:Addr)(i:Nat)(Bk:YA)(Sk:YS)(k:Nat)(Dm:Addr)(yQ:List V)(j:Nat):L2.St->Hp->Prop:=fun σ H'=>∃ (n m:Nat)(B:Nat->YA)(S:Nat->YS)(ix:List Nat)(L:List cC)(a7 a8 a9:Option V),Tr a s n ⟨L,i,j⟩/\L.length <= most/\(∀ e ∈ L,e.s.lanes.length=s.lanes.length/\e.s.U.length=s.U.length)/\DE P w K c TC J ys a H Ln St Sn m H' B S ix L/\ix[i]? = some k/\B k=Bk/\core (S k)=core Sk/\H' Dm=some (.lst yQ)/\Paired (zu H') yQ ((aI a Sk).map cv) /\
 σ=[some (.ref a.y),some (.int (most:Int)),some (.ref Ln),some (.ref St),some (.ref Sn),some (.int (i:Int)),some (.ref Bk.y),a7,a8,a9]
abbrev NSr:List Str:=["yard", "most", "line", "steps", "seen", "looked_at", "here", "move", "other", "stand"]
theorem AS:ap NSr ["yard", "most"] (aj kD):=L2.yW
theorem qg {c:Cs}{ys:Ys}{J:TJ}{TC fw f fm fb fd ft fs fv:Addr}{dw f' dm db dd dt ds dv:FuncData}(F:yS K "search" "search" kD f f')(T:dJ mg)(Y:eU K ys)(W:Wy K TC fw dw J)(M:SrM P w K mg base c TC J ys fm fb fd ft fs fv dm db dd dt ds dv) :
  y2 P w K mg base az 9 f f' ["yard", "most"] (l9 K c TC J ys):=by
 refine F.ok AS (fun vs H Q E h=>?_) (fun cdv A outer s0 H vs Q E hr h=>?_)
 ·obtain⟨a,s,most,rfl,_⟩:=h
  rfl
 ·obtain⟨a,s,most,rfl,hI,hJ,hR,zD,Px,hm9,q⟩:=h
  have hu:=Vf hr
  have zi:yC 1 _:=hr.mono (by decide)
  have Qa:yC 6 _:=hr.mono (by decide)
  have CI:yC 7 _:=hr.mono (by decide)
  refine⟨_,(ae (aP (bD (av M.Gs hr rfl M.ms M.ks M.bs .nil ao (aa (pv 0) ad)))
    (ah (ar (aW (aa bP (aa (aU ad) ad)))))
    aD)
   (ae (aw (i:=2) AS.nd rfl (Or.inl rfl) (aU (aa (pv 0) ad)))
   (ae (aw (i:=3) AS.nd rfl (Or.inl rfl) (aU (aa bS ad)))
   (ae (aw (i:=4) AS.nd rfl (Or.inl rfl) (show PE _ _ (nc P w _ _) from lM hu (aO (pv 0) Y.cl M.mt M.Gt zi M.bt .nil ao) dA))
   (ae (aw (i:=5) AS.nd rfl (Or.inl rfl) ai)
   (ae (iW PassesOwn.never (ax jD (pv 5) (au aq rfl T.len PySem.boot_len (aa (pv 2) ad)) (aB _))
    (ae (aw (i:=6) AS.nd rfl (Or.inl rfl) (aC aS (pv 2) (pv 5) (fun _ _=>rfl)))
   (ae (bL PassesOwn.never rfl (bz (aO (pv 6) Y.cl M.mm M.Gm CI M.bm .nil ao)) (ay (i:=7) AS.nd rfl (Or.inl rfl))
    (ae (aw (i:=8) AS.nd rfl (Or.inl rfl) (aO (pv 6) Y.cl M.mb M.Gb Qa M.bb .nil ao))
   (ae (aL (aH (pv 8) Y.cl M.md M.Gd hr M.bd .nil ao (aa (pv 7) ad)))
   (ae (aw (i:=9) AS.nd rfl (Or.inl rfl) (aO (pv 8) Y.cl M.mt M.Gt zi M.bt .nil ao))
   (ah (aP (nL (show PC _ _ _ _ (i9 P w _ _) from iY hu (pv 9) (pv 4)))
    (ae (aP (ax bN (au aq rfl T.len PySem.boot_len (aa (pv 2) ad)) (pv 1) (aB _))
    (ah (ar (aW (aa bP ad))))
    aD)
   (ae (show PS _ _ (n8 P w _ _ _) from lJ hu (pv 4) (pv 9) dA rfl)
   (ae (aL (bV plainAttrs_list PySem.F.slot_list_append PySem.F.type_list_append aV (pv 2) (aa (pv 8) ad)))
   (ae (aL (bV plainAttrs_list PySem.F.slot_list_append PySem.F.type_list_append aV (pv 3) (aa (aW (aa (pv 5) (aa (pv 7) ad))) ad)))
   (ah (aP (bD (av M.Gs hr rfl M.ms M.ks M.bs .nil ao (aa (pv 8) ad)))
    (ah (ar (aW (aa bP (aa (av M.Gv zi rfl M.mv M.kv M.bv .nil ao (aa (pv 3) (aa (aA cT (au aq rfl T.len PySem.boot_len (aa (pv 3) ad)) ai) ad))) ad)))))
    aD))))))
    aD))))))
   (ah (wV (i:=5) AS.nd rfl (Or.inl rfl) ai xX)))))
   (ah (ar (aW (aa bP ad)))))))))),?_⟩
  have Ff:zf K c TC J ys a [] 1 H (fun _=>a) (fun _=>s):=zf.one hI hJ hR (by omega) (fun z _ h=>by cases h)
  have G5:∀ x y:YS,x.lanes.length=y.lanes.length->x.U.length=y.U.length->(kS x=kS y↔kq x=kq y):=fun x y _ _=>xT
  refine⟨_,rfl,⟨a,[],1,fun _=>a,fun _=>s,0⟩,rfl,⟨zero_lt_one,Ff⟩,fun H1 s1=>⟨_,rfl,?_⟩⟩
  dsimp only
  cases Bp:bq a s with
  | true =>
   refine aK ⟨zero_le _,fun D hD=>⟨by show 2 <= sizeLine;decide,fun t ht=>?_⟩⟩
   have s2:=s1.new (o := .lst []) hD
   exact q _ _ (.zh []) (s2.new ht) (.now Bp) ⟨t,D,[],rfl,s2.free ht,ac,s1.free hD,by rw[af (ag ac ht)];exact ac, .nil⟩
  | false =>
  refine aF ?_
  refine⟨_,rfl,by show 1 <= sizeLine;decide,fun Ln BS=>?_⟩
  have s2:=s1.new (o := .lst [.ref a.y]) BS
  have u2:=(y1.refl H1).new (o := .lst [.ref a.y]) BS
  have g2:(upd H1 Ln (.lst [.ref a.y])) Ln=some (.lst [.ref a.y]):=ac
  have zI:=zf.grow W (Ff.same W s1) u2 BS g2
  show cf 2 (V.ref Ln) _ (upd H1 Ln (.lst [.ref a.y])) _
  generalize upd H1 Ln (.lst [.ref a.y])=H2 at s2 u2 g2 zI ⊢
  refine⟨by show 1 <= sizeLine;decide,fun St En=>?_⟩
  have s3:=s2.new (o := .lst [.yK]) En
  have u3:=(y1.refl H2).new (o := .lst [.yK]) En
  have g3:(upd H2 St (.lst [.yK])) St=some (.lst [.yK]):=ac
  have CJ:=zf.grow W zI u3 En g3
  show cf 3 (V.ref St) _ (upd H2 St (.lst [.yK])) _
  generalize upd H2 St (.lst [.yK])=H3 at s3 u3 g3 CJ ⊢
  have Vh:Ln ≠ St:=ag g2 En
  have QJ:H Ln=none:=s1.free BS
  have QK:H St=none:=s2.free En
  intro Sn Ng
  have s4:=s3.new (o:=aZ P w Sn []) Ng
  have u4:=(y1.refl H3).new (o:=aZ P w Sn []) Ng
  have g4:(upd H3 Sn (aZ P w Sn [])) Sn=some (aZ P w Sn []):=ac
  have Bt:=CJ.same W u4
  generalize upd H3 Sn (aZ P w Sn [])=H4 at s4 u4 g4 Bt ⊢
  have Lo:H Sn=none:=s3.free Ng
  refine⟨_,rfl,a.y,a.dy,_,rfl,(Bt.Y 0 (by decide)).ins,rfl,⟨a,[St,Ln],1,fun _=>a,fun _=>s,0⟩,rfl,⟨zero_lt_one,Bt⟩,fun t H5 s5 kt=>⟨kS s,t,rfl,s5 _ _ g4,kt,?_⟩⟩
  have zX:=Bt.same W s5
  have g5:=s5 _ _ g4
  have x5:H5 Sn=some (.ext (fA P w Sn [])):=g5
  have s6:y1 H (upd H5 Sn (aZ P w Sn [(kS s,t, .bl true)])):=fun b o e=>by rw[af (ag e Lo)];exact s5 _ _ (s4 _ _ e)
  have Eo:=zf.ext zX (u:=aZ P w Sn [(kS s,t, .bl true)]) x5 (zj.keep W hI.T (y1.yF s6))
  have BI:DE P w K c TC J ys a H Ln St Sn 1 (upd H5 Sn (aZ P w Sn [(kS s,t, .bl true)])) (fun _=>a) (fun _=>s) [0] [⟨core s,[]⟩]:=by
   have gl:H5 Ln=some (.lst [.ref a.y]):=s5 _ _ (u4 _ _ (u3 _ _ g2))
   have gs:H5 St=some (.lst [.yK]):=s5 _ _ (u4 _ _ g3)
   refine⟨s6,Eo,by rw[af (aR gl x5 (by intro z;cases z))];exact gl,⟨[.yK],[none],by rw[af (aR gs x5 (by intro z;cases z))];exact gs, .cons rfl .nil,QH⟩,⟨_,⟨ac,fun x hx=>?_⟩,tp (s':=core s) G5⟩, .cons ⟨by decide,rfl⟩ .nil⟩
   rw[mem_singleton.mp hx]
   exact yL.tup (ig x5) kt
  show cf 4 (V.ref Sn) _ (upd H5 Sn (aZ P w Sn [(kS s,t, .bl true)])) _
  generalize upd H5 Sn (aZ P w Sn [(kS s,t, .bl true)])=H6 at s6 BI ⊢
  clear Eo zX Bt CJ zI g2 g3 g4 g5 x5 s2 s3 s4 u2 u3 u4 s5 kt BS En Ng
  show mZ _ _ _ _ _
  refine⟨fun k σ H'=>∃ i,k=most + 1 - i/\WI P w K c TC J ys a s most H Ln St Sn i σ H',⟨_,0,rfl,0,1,_,_,_,_,none,none,none,none, .nil,Px,(fun e he=>by rw[mem_singleton.mp he];exact⟨rfl,rfl⟩),BI,rfl⟩,?_⟩
  clear BI s6
  rintro k σ H1 ⟨i,rfl,n,m,B,S,ix,L,a6,a7,a8,a9,Lp,Vi,G6,hS,rfl⟩
  have Fc:ix.length=L.length:=Paired.length hS.ix
  refine⟨_,rfl,_,rfl,Ln,_,rfl, .inl (y6.of hS.ln),_,_,rfl,rfl,_,rfl,?_⟩
  rw[length_map,Fc]
  by_cases yR:i < L.length
  rotate_left
  ·rw[decide_eq_false (by omega)]
   refine aF ⟨by show 1 <= sizeLine;decide,fun t ht=>?_⟩
   exact q _ _ .ends (hS.s.new ht) (.ends Bp Lp (by show L.length <= i;omega) Vi) ⟨t,rfl,hS.s.free ht,ac⟩
  rw[decide_eq_true (by omega)]
  refine aK ⟨WI P w K c TC J ys a s most H Ln St Sn (i + 1),fun σ' H' h=>⟨most + 1 - (i + 1),by omega,i + 1,rfl,h⟩,?_⟩
  obtain⟨k,hk,Lq,Vj⟩:=Paired.at2 hS.ix (getElem?_eq_getElem yR)
  have QL:(ix.map fun k=>V.ref (B k).y)[i]? = some (.ref (B k).y):=by rw[getElem?_map,hk];rfl
  refine⟨_,rfl,_,rfl,Ln,_,(i:Int),_,rfl,rfl,y6.of hS.ln,ak QL,?_⟩
  refine⟨_,rfl,(B k).y,(B k).dy,_,rfl,(hS.D.Y k Lq).ins,rfl,⟨a,[St,Ln],m,B,S,k⟩,rfl,⟨Lq,hS.D⟩,fun Dm yQ H2 s2 HN G7 pM=>⟨Dm,rfl,⟨_,y6.of G7⟩,?_⟩⟩
  dsimp only at pM
  obtain⟨QM,Vk,nD3⟩:Dm ≠ Ln/\Dm ≠ St/\Dm ≠ Sn:=by
   obtain⟨zZ,es,g,_⟩:=hS.st
   obtain⟨kvs,g',_⟩:=hS.dn
   exact⟨Ne.symm (ag hS.ln HN),Ne.symm (ag g HN),Ne.symm (ag g'.1 HN)⟩
  have FO:yQ.length=(aI a (S k)).length:=by rw[Paired.length pM,length_map]
  refine cx (K:=K) (a:=Dm) (xs:=yQ) (FI P w K c TC J ys a s most H Ln St Sn i (B k) (S k) k Dm yQ) ⟨n,m,B,S,ix,L,_,_,_,Lp,Vi,G6,hS.same W s2,hk,rfl,rfl,G7,pM,rfl⟩ (fun j σ H' _ y8=>by obtain⟨_,_,_,_,_,_,_,_,_,_,_,_,_,_,_,_,g,_⟩:=y8;exact y6.of g) ?_ ?_
  rotate_left
  ·rintro σ H3 ⟨n',m',B',S',AG,L',b7,b8,b9,Al,G8,zk,Cv,zL,hB,CL,Lu,QN,rfl⟩
   obtain⟨e',he',Ep,Am⟩:=Paired.at Cv.ix zL
   refine⟨_,rfl,_,_,rfl,rfl,n' + 1,m',B',S',AG,L',_,_,_,_, .snoc Al (.next he' ?_),G8,zk,Cv,rfl⟩
   rw[← Am,CL,dR,FO]
  rintro j v σ H3 hv ⟨n',m',B',S',AG,L',b7,b8,b9,Al,G8,zk,Cv,zL,hB,CL,Lu,QN,rfl⟩
  obtain⟨e',he',Ep,Am⟩:=Paired.at Cv.ix zL
  obtain⟨mvv,DW,mt,rfl,gmt⟩:=Paired.at QN hv
  rw[getElem?_map]at DW
  cases hmj':(aI a (S k))[j]? with
  | none=>rw[hmj']at DW;cases DW
  | some mv =>
  rw[hmj']at DW
  cases DW
  have hmo:aI a e'.s=aI a (S k):=by rw[← Am,CL,dR]
  rw[← hmo]at hmj'
  have Ds:=(Cv.D.Y k Ep).ins
  rw[hB]at Ds
  refine⟨_,rfl,(B k).y,_,_,rfl,Ds,rfl,⟨a,[St,Ln],m',B',S',k⟩,congrArg (fun z:YA=>[V.ref z.y]) hB.symm,⟨Ep,Cv.D⟩,fun b H4 s4 fr Bt=>?_⟩
  dsimp only at Bt
  have HP:=(Bt.Y m' (by omega)).ins
  rw[aQ]at HP
  refine⟨_,rfl,b.y,_,_,rfl,HP,rfl,_,rfl,⟨a,[St,Ln],m' + 1,bX B' m' b,bX S' m' (core (S' k)),m'⟩,mt,mv,congrArg (fun z:YA=>[V.ref z.y,V.ref mt]) (aQ B' m' b).symm,⟨by show m' < m' + 1;omega,Bt⟩,s4 _ _ gmt,?_,?_,?_⟩
  ·show mv ∈ aI a (bX S' m' (core (S' k)) m')
   rw[aQ,Am]
   exact mem_of_getElem? hmj'
  ·show(bX S' m' (core (S' k)) m').done.length < 1000
   rw[aQ]
   show 0 < 1000
   decide
  intro H5 s5 AH o5 zX
  dsimp only at AH o5 zX
  rw[aQ,Am]at AH
  rw[aQ]at o5
  have hd0:s5.done=[]:=by rw[AH.done,← Am];rfl
  have Er:y1 H3 H5:=fT s4 o5 fr
  have HQ:=Cv.turn Er zX (by omega) (fun k hk=>cM hk) (fun k hk=>by rw[eL (by omega),cM hk])
  rw[aQ]at zX HQ
  have Vl:core (iM (bX S' m' (core (S' k))) m' { s5 with done:=(core (S' k)).done ++ [cv mv] } m')=s5:=by
   rw[cI]
   exact vq hd0
  have G9:kS (iM (bX S' m' (core (S' k))) m' { s5 with done:=(core (S' k)).done ++ [cv mv] } m')=kS s5:=by
   rw[cI]
   rfl
  have Hs:bq a (iM (bX S' m' (core (S' k))) m' { s5 with done:=(core (S' k)).done ++ [cv mv] } m')=bq a s5:=by
   rw[cI]
   rfl
  have GA:=(zX.Y m' (by omega)).ins
  rw[aQ]at GA
  have Ad:∀ e ∈ L',e.s.lanes.length=s5.lanes.length/\e.s.U.length=s5.U.length:=by
   have j1:=(zX.J m' (by omega)).lanes
   rw[aQ,cI]at j1
   have j1:s5.lanes.length=b.ps.length:=j1
   have j2:=(zX.E m' (by omega)).ps
   rw[aQ]at j2
   have j3:=AH.len
   have j4:=hJ.lanes
   obtain⟨q1,q2⟩:=zk e' (mem_of_getElem? he')
   intro e he
   obtain⟨q3,q4⟩:=zk e he
   exact⟨by rw[q3,j1,j2,j4],by rw[q4,j3,q2]⟩
  generalize iM (bX S' m' (core (S' k))) m' { s5 with done:=(core (S' k)).done ++ [cv mv] } = S2 at zX HQ Vl G9 Hs
  have GB:bX B' m' b m' = b:=aQ ..
  have BV:bX B' m' b k=B' k:=cM Ep
  generalize bX B' m' b=B2 at zX HQ GB BV
  have hkm2:k < m' + 1:=by omega
  have AV:core (S2 k)=core (S k):=by
   obtain⟨e2,DV,_,QO⟩:=Paired.at HQ.ix zL
   rw[he']at DV
   cases DV
   rw[QO,← Am,CL]
  clear Bt HP o5 fr s4
  refine⟨_,rfl,b.y,_,_,rfl,GA,rfl,⟨a,[St,Ln],m' + 1,B2,S2,m'⟩,congrArg (fun z:YA=>[V.ref z.y]) GB.symm,⟨by show m' < m' + 1;omega,zX⟩,fun t H6 s6 kt=>?_⟩
  dsimp only at kt
  rw[G9]at kt
  have BI:=HQ.same W s6
  have Lw:=s6 _ _ (Er _ _ Lu)
  have Vm:Paired (zu H6) yQ ((aI a (S k)).map cv):=Paired.mono (fun v x z=>z.keep (y1.yF (Er.trans s6))) QN
  have QP:=s6 _ _ (Er _ _ gmt)
  clear HQ zX GA
  obtain⟨kvs,Bo,Es⟩:=BI.dn
  refine⟨_,rfl,_,rfl,Sn,_,rfl,⟨kvs,kS s5,t,Bo,rfl,kt,rfl⟩,_,rfl,?_⟩
  cases AI:(cu kvs (kS s5)).isSome with
  | true =>
   refine aF ?_
   obtain⟨x,hx,GC⟩:=(Es.2 s5 Ad).mp AI
   exact⟨n' + 1,m' + 1,B2,S2,AG,L',_,_,_, .snoc Al (.skip he' hmj' AH ⟨x,hx,GC⟩),G8,zk,BI,zL,by rw[BV,hB],AV,Lw,Vm,rfl⟩
  | false =>
  have GD:New a ⟨L',i,j⟩ s5 (e'.p ++ [mv]):=⟨e',mv,he',hmj',AH,(fun x hx GC=>by rw[(Es.2 s5 Ad).mpr ⟨x,hx,GC⟩]at AI;exact Bool.noConfusion AI),rfl⟩
  have C5:AG.length=L'.length:=Paired.length BI.ix
  refine aK ?_
  refine⟨_,rfl,Ln,_,rfl, .inl (y6.of BI.ln),_,rfl,rfl,_,rfl,?_⟩
  rw[bO,length_map,C5]
  by_cases AX:L'.length=most
  ·rw[decide_eq_true (by omega)]
   refine aK ⟨by show 1 <= sizeLine;decide,fun t2 zq=>?_⟩
   exact q _ _ .more (BI.s.new zq) (.more Bp Al GD AX) ⟨t2,rfl,BI.s.free zq,ac⟩
  rw[decide_eq_false (by omega)]
  refine aF ?_
  have AY:=Es.1
  refine⟨_,rfl,_,rfl,Sn,kvs,kS s5,t,rfl,Bo,rfl,kt,by rw[sizeLine_eq];omega,?_⟩
  have x6:H6 Sn=some (.ext (fA P w Sn kvs)):=Bo.1
  have s7:y1 H (upd H6 Sn (aZ P w Sn (bI kvs (kS s5) t (.bl true)))):=fun b o e=>by rw[af (ag e Lo)];exact BI.s _ _ e
  have HR:=zf.ext BI.D (u:=aZ P w Sn (bI kvs (kS s5) t (.bl true))) x6 (zj.keep W hI.T (y1.yF s7))
  have k7:ia H6 (upd H6 Sn (aZ P w Sn (bI kvs (kS s5) t (.bl true)))):=ig x6
  have l7:∀ b xs,H6 b=some (.lst xs)->(upd H6 Sn (aZ P w Sn (bI kvs (kS s5) t (.bl true)))) b=some (.lst xs):=fun b xs e=>by rw[af (aR e x6 (by intro z;cases z))];exact e
  have Dt:zd P w (upd H6 Sn (aZ P w Sn (bI kvs (kS s5) t (.bl true)))) Sn (bI kvs (kS s5) t (.bl true)):=⟨ac,iU (F:=fun k b=>yL 5 _ k b) (fun x hx=>yL.tup k7 (Bo.2 x hx)) (yL.tup k7 kt)⟩
  generalize upd H6 Sn (aZ P w Sn (bI kvs (kS s5) t (.bl true)))=H7 at s7 HR k7 l7 Dt ⊢
  obtain⟨zZ,es,gst,Vn,hP⟩:=BI.st
  have HS:=l7 _ _ BI.ln
  have QQ:zZ.length=L'.length:=by rw[Paired.length Vn,hP.len,length_map]
  refine⟨_,rfl, .inl ⟨rfl,_,y6.of HS⟩,_,rfl,Ln,_,_,rfl,rfl,HS,by rw[length_map,C5,sizeLine_eq];omega,?_⟩
  have QR:=HR.put W (zs:=AG.map (fun k=>V.ref (B2 k).y) ++ [.ref b.y]) (show Ln ∈ [St,Ln] by simp) HS
  have k8:ia H7 (upd H7 Ln (.lst (AG.map (fun k=>V.ref (B2 k).y) ++ [.ref b.y]))):=jZ HS
  have s8:y1 H (upd H7 Ln (.lst (AG.map (fun k=>V.ref (B2 k).y) ++ [.ref b.y]))):=fun b o e=>by rw[af (ag e QJ)];exact s7 _ _ e
  have Nh:(upd H7 Ln (.lst (AG.map (fun k=>V.ref (B2 k).y) ++ [.ref b.y]))) St=some (.lst zZ):=by rw[af (Ne.symm Vh)];exact l7 _ _ gst
  have QS:(upd H7 Ln (.lst (AG.map (fun k=>V.ref (B2 k).y) ++ [.ref b.y]))) Dm=some (.lst yQ):=by rw[af QM];exact l7 _ _ Lw
  have x7:H7 Sn=some (.ext (fA P w Sn (bI kvs (kS s5) t (.bl true)))):=Dt.1
  have Et:zd P w (upd H7 Ln (.lst (AG.map (fun k=>V.ref (B2 k).y) ++ [.ref b.y]))) Sn (bI kvs (kS s5) t (.bl true)):=⟨by rw[af (aR x7 HS (by intro z;cases z))];exact Dt.1,fun x hx=>yL.tup k8 (Dt.2 x hx)⟩
  have QT:(upd H7 Ln (.lst (AG.map (fun k=>V.ref (B2 k).y) ++ [.ref b.y]))) Ln=some (.lst (AG.map (fun k=>V.ref (B2 k).y) ++ [.ref b.y])):=ac
  have QU:ia H6 (upd H7 Ln (.lst (AG.map (fun k=>V.ref (B2 k).y) ++ [.ref b.y]))):=fun b vs e=>k8 _ _ (k7 _ _ e)
  generalize upd H7 Ln (.lst (AG.map (fun k=>V.ref (B2 k).y) ++ [.ref b.y]))=H8 at QR k8 s8 Nh QS Et QT QU ⊢
  refine⟨_,rfl, .inl ⟨rfl,_,y6.of Nh⟩,_,rfl,_,rfl,by show 2 <= sizeLine;decide,fun u hu=>?_⟩
  have u9:=(y1.refl H8).new (o := .tup [.int (i:Int), .ref mt]) hu
  have gu:(upd H8 u (.tup [.int (i:Int), .ref mt])) u=some (.tup [.int (i:Int), .ref mt]):=ac
  have QV:=QR.same W u9
  generalize upd H8 u (.tup [.int (i:Int), .ref mt])=H9 at u9 gu QV ⊢
  have Lx:=u9 _ _ Nh
  refine⟨St,zZ,_,rfl,rfl,Lx,by rw[QQ,sizeLine_eq];omega,?_⟩
  have k9:ia H9 (upd H9 St (.lst (zZ ++ [.ref u]))):=jZ Lx
  have Ni:ia H6 (upd H9 St (.lst (zZ ++ [.ref u]))):=fun b vs e=>k9 _ _ (u9 _ _ (QU _ _ e))
  have x9:H9 Sn=some (.ext (fA P w Sn (bI kvs (kS s5) t (.bl true)))):=u9 _ _ Et.1
  have Dr:DE P w K c TC J ys a H Ln St Sn (m' + 1) (upd H9 St (.lst (zZ ++ [.ref u]))) B2 S2 (AG ++ [m']) (L' ++ [⟨s5,e'.p ++ [mv]⟩]):=by
   refine⟨fun b o e=>by rw[af (ag e QK)];exact u9 _ _ (s8 _ _ e),QV.put W (by simp) Lx,?_,⟨zZ ++ [.ref u],es ++ [some (i,mv)],ac,?_,?_⟩,⟨_,⟨?_,fun x hx=>yL.tup k9 ((Et.same u9).2 x hx)⟩,tm G5 Es Ad⟩,Paired.snoc ⟨by omega,Vl⟩ BI.ix⟩
   ·rw[af Vh,u9 _ _ QT,map_append]
    show _=some (HO.lst (_ ++ [V.ref (B2 m').y]))
    rw[GB]
   ·exact Paired.snoc (show HL _ _ (some (i,mv)) from ⟨u,mt,rfl,k9 _ _ gu,Ni _ _ QP⟩) (Paired.mono (fun v x z=>z.tup Ni) Vn)
   ·rw[map_append]
    exact hP.snoc (k:=i) (m:=mv) (by rw[getElem?_map,he'];rfl)
   ·rw[af (aR x9 Lx (by intro z;cases z))];exact x9
  have Vo:(upd H9 St (.lst (zZ ++ [.ref u]))) Dm=some (.lst yQ):=by rw[af Vk];exact u9 _ _ QS
  have Vp:Paired (zu (upd H9 St (.lst (zZ ++ [.ref u])))) yQ ((aI a (S k)).map cv):=Paired.mono (fun v x y8=>by obtain⟨t,e,h⟩:=y8;exact⟨t,e,Ni _ _ h⟩) Vm
  generalize upd H9 St (.lst (zZ ++ [.ref u]))=CT at Dr Vo Vp ⊢
  clear QV QR HR BI Et Dt Ni QU k7 k8 k9 x9 x7 x6 Lx Nh QT HS l7 u9 s8 s7 QS
  have Ay:(L' ++ [(⟨s5,e'.p ++ [mv]⟩:cC)]).length=L'.length + 1:=by rw[length_append];rfl
  have Ly:∀ e ∈ L' ++ [(⟨s5,e'.p ++ [mv]⟩:cC)],e.s.lanes.length=s.lanes.length/\e.s.U.length=s.U.length:=fun e he=>by
   rcases mem_append.mp he with he | he
   ·exact zk e he
   ·rw[mem_singleton.mp he]
    have q1:=zk e' (mem_of_getElem? he')
    have q2:=Ad e' (mem_of_getElem? he')
    exact⟨q2.1.symm.trans q1.1,q2.2.symm.trans q1.2⟩
  have hbi0:=Dr.D.Y m' (by omega)
  refine⟨_,rfl,⟨a,[St,Ln],m' + 1,B2,S2,m'⟩,congrArg (fun z:YA=>[V.ref z.y]) GB.symm,⟨by show m' < m' + 1;omega,Dr.D⟩,fun HU HV=>⟨_,rfl,?_⟩⟩
  dsimp only
  rw[Hs]
  have Eu:=Dr.same W HV
  cases C6:bq a s5 with
  | false =>
   exact aF ⟨n' + 1,m' + 1,B2,S2,AG ++ [m'],_,_,_,_, .snoc Al (.new GD C6),by omega,Ly,Eu,by rw[getElem?_append_left (gQ0 zL)];exact zL,by rw[BV,hB],AV,HV _ _ Vo,Paired.mono (fun v x z=>z.keep (y1.yF HV)) Vp,rfl⟩
  | true =>
   obtain⟨QW,Vq,Vr,Vs,QX⟩:=Eu.st
   have hsv:QW.length=L'.length + 1:=by rw[Paired.length Vs,QX.len,length_map,Ay]
   have hes:Vq.length=L'.length + 1:=by rw[QX.len,length_map,Ay]
   refine aK ⟨_,rfl,_,rfl,St,QW,rfl, .inl (y6.of Vr),_,_,rfl,rfl,St,QW,Vq,_,L'.length,e'.p ++ [mv],congrArg (fun z=>[V.ref St,V.int z]) (by omega),Vr,Vs,QX,?_,by omega,fun D Ew HW Ci QY Lz QZ=>⟨by show 2 <= sizeLine;decide,fun t2 zq=>?_⟩⟩
   ·rw[map_append,getElem?_append_right (by rw[length_map];exact le_refl _),length_map,Nat.sub_self]
    rfl
   ·have sA:=Eu.s.trans Ci
    exact q _ _ (.zh _) (sA.new zq) (.zh Bp Al GD C6 (by show L'.length < most;omega)) ⟨t2,D,Ew,rfl,sA.free zq,ac,Eu.s.free QY,by rw[af (ag Lz zq)];exact Lz,Paired.mono (fun v x z=>z.keep (y1.yF ((y1.refl HW).new zq))) QZ⟩
theorem qm {a:YA}{s:YS}(O:v5 a)(G:MT a s)(h:a.ps.length <= 40):(aI a s).length <= 200000:=by
 have h1:=aX (cW O G) s.U.length
 have h2:=aX (cU (s:=s) O) s.lanes.length
 have h3:=aX (c5 a s) s.lanes.length
 have h4:=aX (fK s) s.lanes.length
 have h5:=G.zl
 have h6:=G.lanes
 unfold aI
 rw[length_append,length_append,length_append]
 omega
noncomputable def Vt (a0:YA)(s:YS)(m m':Nat)(S':Nat->YS)(k:Nat)(mv:Mv):Prop:=m <= k/\k < m'/\∃ s',zS a0 s mv s'/\S' k = { s' with done:=s.done ++ [cv mv] }
noncomputable def vZ (K:Frag)(c:Cs)(TC:Addr)(J:TJ)(ys:Ys):Sp:=fun vs H Q _=>∃ g:Yg,vs=[.ref (g.A g.j).y]/\lr K c TC J ys H g/\(g.S g.j).done.length < 1000/\∀ (D:Addr)(m':Nat)(A':Nat->YA)(S':Nat->YS)(jx:List Nat)(H':Hp),y1 H H'->H D=none->H' D=some (.lst (jx.map fun k => .ref (A' k).y))->g.m <= m'->(∀ k,k < g.m->A' k=g.A k/\S' k=g.S k)->zf K c TC J ys g.a0 g.X m' H' A' S'->Paired (Vt g.a0 (g.S g.j) g.m m' S') jx (aI g.a0 (g.S g.j))->Q (.ref D) H'
structure NxM (P:Program)(w:World)(K:Frag)(mg:Str->Option Value)(base:Heap)(c:Cs)(TC:Addr)(J:TJ)(ys:Ys)(fm fw fd:Addr)(dm dw dd:FuncData):Prop where
 mm:bB K ys.y3 "moves" fm
 bm:Binds K dm ["self"] []
 Gm:y2 P w K mg base az 7 fm dm ["self"] (om K c TC J ys)
 mw:bB K ys.y3 "twin" fw
 bw:Binds K dw ["self"] []
 Gw:y2 P w K mg base az 7 fw dw ["self"] (tE K c TC J ys)
 md:bB K ys.y3 "do" fd
 bd:Binds K dd ["self", "move"] []
 Gd:y2 P w K mg base az 8 fd dd ["self", "move"] (QF K c TC J ys)
theorem wC:ap ["_law_yard_here"] ["_law_yard_here"] (aj kI):=L2.yW
theorem qj {c:Cs}{ys:Ys}{J:TJ}{TC f fw fm fe:Addr}{fd dw dm de:FuncData}(F:yS K "_law_still" "_law_still" kI f fd)(Y:eU K ys)(W:Wy K TC fw dw J)
  (mm:bB K ys.y3 "moves" fm) (bm:Binds K dm ["self"] []) (Gm:y2 P w K mg base az 7 fm dm ["self"] (eI K c TC J ys)) (me:bB K ys.y3 "ended" fe) (be:Binds K de ["self"] []) (Ge:y2 P w K mg base az 1 fe de ["self"] (ik K ys)) :
  y2 P w K mg base az 8 f fd ["_law_yard_here"] (fR K c TC J ys):=by
 refine F.ok wC (fun _ _ _ _ h=>?_) (fun _ _ _ s H _ Q E hr h=>?_)
 ·obtain⟨a,s,rfl,_⟩:=h
  rfl
 ·obtain⟨a,st,rfl,hI,q⟩:=h
  have hu:=hr.units
  have zi:yC 1 _:=hr.mono (by decide)
  refine⟨_,(ah (ar (cG (c8 (sj hu) (aO (pv 0) Y.cl mm Gm hr bm .nil ao) (aU ad) (aB _)) (cF (kP (aO (pv 0) Y.cl me Ge zi be .nil ao)))))),?_⟩
  have Bf:=hI.G.zl
  have KI:=hI.G.lies
  have hn:=hI.T.Hv
  refine⟨_,rfl,a.y,a.dy,_,rfl,hI.Y.ins,rfl,a,st,rfl,hI,fun D yQ H1 s1 hD gD hp=>⟨zero_le _,fun o ho=>?_⟩⟩
  have s2:=(y1.refl H1).new (o := .lst []) ho
  have g2:(upd H1 o (.lst [])) o=some (.lst []):=ac
  generalize upd H1 o (.lst [])=H2 at s2 g2 ⊢
  refine eqN (f:=qK) (l:=aI a st) (.lst (y6.of (s2 _ _ gD)) (eT (Paired.mono (fun _ _ z=>z.keep (y1.yF s2)) hp))) (.lst (y6.of g2) .nil) (oT _) ⟨_,rfl,?_⟩
  have Ci:=s1.trans s2
  unfold bq at q
  cases hb:(aI a st).isEmpty with
  | false =>
   rw[hb]at q
   exact aF (q H2 Ci)
  | true =>
   rw[hb]at q
   have Bm:=hI.same W Ci
   exact aK ⟨_,rfl,a.y,a.dy,_,rfl,Bm.Y.ins,rfl,a.y,a.dy,a.tb,a.ro,a.la,a.le,a.li,a.dn,st,rfl,Bm.Y,by omega,by omega,fun H3 s3=>⟨_,rfl,q H3 (Ci.trans s3)⟩⟩
theorem Ex:ap ["_law_stand", "_law_found", "_law_move", "_law_other"] ["_law_stand"] (aj rM):=L2.yW
theorem uH {c:Cs}{ys:Ys}{J:TJ}{TC f fv fm fw fd:Addr}{f' dv dm dw dd:FuncData}(F:yS K "_law_next" "_law_next" rM f f')(T:dJ mg)(Y:eU K ys)(W:Wy K TC fv dv J)(M:NxM P w K mg base c TC J ys fm fw fd dm dw dd) :
  y2 P w K mg base az 9 f f' ["_law_stand"] (vZ K c TC J ys):=by
 refine F.ok Ex (fun vs H Q E h=>?_) (fun cdv Ar outer s0 H vs Q E hr h=>?_)
 ·obtain⟨g,rfl,_⟩:=h
  rfl
 ·obtain⟨⟨a0,X,m,A,S,j⟩,rfl,⟨hj,hD⟩,zD,q⟩:=h
  dsimp only at hj hD zD q
  have CI:yC 7 _:=hr.mono (by decide)
  refine⟨_,(ae (aw (i:=1) Ex.nd rfl (Or.inl rfl) (aU ad))
   (ae (bL PassesOwn.never rfl (bz (aO (pv 0) Y.cl M.mm M.Gm CI M.bm .nil ao)) (ay (i:=2) Ex.nd rfl (Or.inl rfl))
    (ae (aw (i:=3) Ex.nd rfl (Or.inl rfl) (aO (pv 0) Y.cl M.mw M.Gw CI M.bw .nil ao))
   (ae (aL (aH (pv 3) Y.cl M.md M.Gd hr M.bd .nil ao (aa (pv 2) ad)))
   (ah (aL (bV plainAttrs_list PySem.F.slot_list_append PySem.F.type_list_append aV (pv 1) (aa (pv 3) ad)))))))
   (ah (ar (pv 1))))),?_⟩
  refine⟨zero_le _,fun D Ct=>?_⟩
  have s1:=(y1.refl H).new (o := .lst []) Ct
  have g1:(upd H D (.lst [])) D=some (.lst []):=ac
  have Fg:=zf.grow W hD s1 Ct g1
  show cf 1 (V.ref D) _ (upd H D (.lst [])) _
  generalize upd H D (.lst [])=H1 at s1 g1 Fg ⊢
  refine⟨_,rfl,(A j).y,(A j).dy,_,rfl,(Fg.Y j hj).ins,rfl,⟨a0,D :: X,m,A,S,j⟩,rfl,⟨hj,Fg⟩,fun Dm yQ H2 s2 HN G7 pM=>⟨Dm,rfl,⟨_,y6.of G7⟩,?_⟩⟩
  dsimp only at pM
  have nDm:Dm ≠ D:=Ne.symm (ag g1 HN)
  have Ra:(aI a0 (S j)).length <= 200000:=qm hD.O (by
   have:=(hD.E j hj).K4 (hD.J j hj)
   exact this.ok) hD.T.zl
  refine cx (K:=K) (a:=Dm) (xs:=yQ) (fun i σ H'=>∃ (m':Nat)(A':Nat->YA)(S':Nat->YS)(jx:List Nat)(a2 a3:Option V),y1 H H'/\H' D=some (.lst (jx.map fun k => .ref (A' k).y))/\zf K c TC J ys a0 (D :: X) m' H' A' S'/\m <= m'/\(∀ k,k < m->A' k=A k/\S' k=S k)/\Paired (Vt a0 (S j) m m' S') jx ((aI a0 (S j)).take i)/\H' Dm=some (.lst yQ)/\Paired (zu H') yQ ((aI a0 (S j)).map cv)/\σ=[some (.ref (A j).y),some (.ref D),a2,a3])
   ⟨m,A,S,[],none,none,s1.trans s2,s2 _ _ g1,Fg.same W s2,le_refl _,fun _ _=>⟨rfl,rfl⟩, .nil,G7,pM,rfl⟩ (fun i σ H' _ y8=>by obtain⟨_,_,_,_,_,_,_,_,_,_,_,_,g,_⟩:=y8;exact y6.of g) ?_ ?_
  rotate_left
  ·rintro σ H3 ⟨m',A',S',jx,a2,a3,s3,g3,CJ,Vu,C7,pN,Vv,Rb,rfl⟩
   refine⟨_,rfl,q D m' A' S' jx H3 s3 Ct g3 Vu C7 (CJ.less fun x hx=>mem_cons_of_mem _ hx) ?_⟩
   have:yQ.length=(aI a0 (S j)).length:=by rw[Paired.length pM,length_map]
   rw[this,take_length]at pN
   exact pN
  rintro i v σ H3 hv ⟨m',A',S',jx,a2,a3,s3,g3,CJ,Vu,C7,pN,Vv,Rb,rfl⟩
  obtain⟨mvv,L0,mt,rfl,gmt⟩:=Paired.at Rb hv
  rw[getElem?_map]at L0
  cases hmi':(aI a0 (S j))[i]? with
  | none=>rw[hmi']at L0;cases L0
  | some mv =>
  rw[hmi']at L0
  cases L0
  have MZ:j < m':=by omega
  have Ds:=(CJ.Y j MZ).ins
  rw[(C7 j hj).1]at Ds
  refine⟨_,rfl,(A j).y,_,_,rfl,Ds,rfl,⟨a0,D :: X,m',A',S',j⟩,congrArg (fun z:YA=>[V.ref z.y]) (C7 j hj).1.symm,⟨MZ,CJ⟩,fun b H4 s4 fr Bt=>?_⟩
  dsimp only at Bt
  have HP:=(Bt.Y m' (by omega)).ins
  rw[aQ]at HP
  refine⟨_,rfl,b.y,_,_,rfl,HP,rfl,_,rfl,⟨a0,D :: X,m' + 1,bX A' m' b,bX S' m' (S' j),m'⟩,mt,mv,congrArg (fun z:YA=>[V.ref z.y,V.ref mt]) (aQ A' m' b).symm,⟨by show m' < m' + 1;omega,Bt⟩,s4 _ _ gmt,?_,?_,?_⟩
  ·show mv ∈ aI a0 (bX S' m' (S' j) m')
   rw[aQ,(C7 j hj).2]
   exact mem_of_getElem? hmi'
  ·show(bX S' m' (S' j) m').done.length < 1000
   rw[aQ,(C7 j hj).2]
   exact zD
  intro H5 s5 AH o5 zX
  dsimp only at AH o5 zX
  rw[aQ]at AH o5 zX
  rw[(C7 j hj).2]at AH zX
  have Er:y1 H3 H5:=fT s4 o5 fr
  have g5:=Er _ _ g3
  have Vw:iM (bX S' m' (S j)) m' { s5 with done:=(S j).done ++ [cv mv] } m' = { s5 with done:=(S j).done ++ [cv mv] }:=cI ..
  have GG:∀ k,k < m'->iM (bX S' m' (S j)) m' { s5 with done:=(S j).done ++ [cv mv] } k=S' k:=fun k hk=>by rw[eL (by omega),cM hk]
  generalize iM (bX S' m' (S j)) m' { s5 with done:=(S j).done ++ [cv mv] } = S2 at zX Vw GG
  have GB:bX A' m' b m' = b:=aQ ..
  have BV:∀ k,k < m'->bX A' m' b k=A' k:=fun k hk=>cM hk
  generalize bX A' m' b=B2 at zX GB BV
  have Vx:jx.length <= 200000:=by
   rw[Paired.length pN,length_take];omega
  refine⟨_,rfl, .inl ⟨rfl,_,y6.of g5⟩,_,rfl,D,_,_,rfl,rfl,g5,by rw[length_map,sizeLine_eq];omega,?_⟩
  refine⟨m' + 1,B2,S2,jx ++ [m'],_,_,fun x o e=>by rw[af (ag e Ct)];exact Er _ _ (s3 _ _ e),?_,zX.put W (by simp) g5,by omega,fun k hk=>⟨by rw[BV k (by omega)];exact(C7 k hk).1,by rw[GG k (by omega)];exact(C7 k hk).2⟩,?_,by rw[af nDm];exact Er _ _ Vv,Paired.mono (fun v x z=>z.keep ((y1.yF Er).trans (dG g5))) Rb,rfl⟩
  ·rw[ac,map_append]
   congr 2
   rw[show [m'].map (fun k=>V.ref (B2 k).y)=[V.ref b.y] by show [V.ref (B2 m').y]=_;rw[GB]]
   congr 1
   refine map_congr_left fun k hk=>?_
   obtain⟨x,z⟩:=Paired.Em pN k hk
   rw[BV k z.2.1]
  ·rw[take_succ,hmi']
   exact Paired.snoc ⟨by omega,by omega,s5,AH,Vw⟩ (Paired.mono (fun k x y8=>by obtain⟨z1,z2,s',z3,z4⟩:=y8;exact⟨z1,by omega,s',z3,by rw[GG k z2];exact z4⟩) pN)
noncomputable def L3 (K:Frag)(c:Cs)(TC:Addr)(J:TJ)(ys:Ys):Sp:=fun vs H Q _=>∃ (g:Yg)(ll:Addr)(yB:List V),vs=[.ref (g.A g.j).y, .ref ll, .int (g.a0.n:Nat)]/\lr K c TC J ys H g/\H ll=some (.lst yB)/\yB.length=g.a0.ps.length/\∀ (t:Addr)(H':Hp),y1 H H'->yL 5 H' (kL (g.S g.j)) t->Q (.ref t) H'
noncomputable def wb (K:Frag)(c:Cs)(TC:Addr)(J:TJ)(ys:Ys):Sp:=fun vs H Q _=>∃ g:Yg,vs=[.ref (g.A g.j).y]/\lr K c TC J ys H g/\∀ (t:Addr)(vs:List V)(H':Hp),y1 H H'->H t=none->H' t=some (.lst vs)->Paired (zu H') vs (g.S g.j).done->Q (.ref t) H'
noncomputable def Rc (S:Nat->YS)(m:Nat)(d:List (List V))(k:Nat)(e:cC):Prop:=k < m/\core (S k)=e.s/\(S k).done=d ++ e.p.map cv
structure Sg (P:Program)(w:World)(K:Frag)(c:Cs)(TC:Addr)(J:TJ)(ys:Ys)(a0:YA)(d:List (List V))(H:Hp)(Ls Kw:Addr)(m:Nat)(H':Hp)(A:Nat->YA)(S:Nat->YS)(ix:List Nat)(L:List cC):Prop where
 s:y1 H H'
 D:zf K c TC J ys a0 [Ls] m H' A S
 ls:H' Ls=some (.lst (ix.map fun k => .ref (A k).y))
 dn:∃ kvs,zd P w H' Kw kvs/\Kn kL kvs L
 ix:Paired (Rc S m d) ix L
 pl:∀ (i:Nat)(e:cC),L[i]? = some e->e.p.length <= i
section
variable {P:Program}{w:World}{K:Frag}{c:Cs}{TC fw:Addr}{dw:FuncData}{J:TJ}{ys:Ys}{a0:YA}{d:List (List V)}{H:Hp}{Ls Kw:Addr}{m:Nat}{H1 H3:Hp}{A:Nat->YA}{S:Nat->YS}{ix:List Nat}{L:List cC}
theorem Sg.turn (h:Sg P w K c TC J ys a0 d H Ls Kw m H1 A S ix L)(e:y1 H1 H3){m':Nat}{A':Nat->YA}{S':Nat->YS}(D3:zf K c TC J ys a0 [Ls] m' H3 A' S')(hm:m <= m')(hA:∀ k,k < m->A' k=A k/\S' k=S k):Sg P w K c TC J ys a0 d H Ls Kw m' H3 A' S' ix L:=by
 refine⟨h.s.trans e,D3,?_,?_,Paired.mono (fun k x z=>⟨lt_of_lt_of_le z.1 hm,by rw[(hA k z.1).2];exact z.2.1,by rw[(hA k z.1).2];exact z.2.2⟩) h.ix,h.pl⟩
 ·rw[e _ _ h.ls]
  congr 2
  refine map_congr_left fun k hk=>?_
  obtain⟨x,z,_⟩:=Paired.Em h.ix k hk
  rw[(hA k z).1]
 ·obtain⟨kvs,h1,h2⟩:=h.dn
  exact⟨kvs,h1.same e,h2⟩
theorem Sg.same (W:Wy K TC fw dw J)(h:Sg P w K c TC J ys a0 d H Ls Kw m H1 A S ix L)(e:y1 H1 H3):Sg P w K c TC J ys a0 d H Ls Kw m H3 A S ix L:=h.turn e (h.D.same W e) (le_refl _) (fun _ _=>⟨rfl,rfl⟩)
theorem L4 {mg:Str->Option Value}{base:Heap}{n:Nat}{f:Addr}{fd:FuncData}{ps:List Str}(G:∀ ex,y2 P w K mg base az n f fd ps (rp K (yx ys ex))):y2 P w K mg base az n f fd ps (L3 K c TC J ys) :=
 (y2.ex G).imp fun vs H Q E ⟨g,ll,yB,e,⟨hj,hD⟩,hl,As,q⟩=>by
  have h1:=(hD.J _ hj).lanes
  have h2:=(hD.J _ hj).lies
  have h3:=(hD.J _ hj).zl
  have h4:=(hD.J _ hj).B8
  have h5:=(hD.E _ hj).n
  have h6:=(hD.E _ hj).ps
  have h7:=hD.T.Hv
  have h8:(g.S g.j).lies.length=g.a0.n:=by rw[h2,h5]
  exact⟨_,g.A g.j,g.S g.j,ll,yB,by rw[h8];exact e,hl,by rw[As,h1,h6],hD.Y _ hj,by omega,by omega,by omega,q⟩
theorem yd {mg:Str->Option Value}{base:Heap}{n:Nat}{f:Addr}{fd:FuncData}{ps:List Str}(G:∀ ex,y2 P w K mg base az n f fd ps (r8 K (yx ys ex))):y2 P w K mg base az n f fd ps (wb K c TC J ys) :=
 (y2.ex G).imp fun vs H Q E y8=>by obtain⟨g,e,⟨hj,hD⟩,q⟩:=y8;exact⟨_,(g.A g.j).y,_,_,_,_,_,_,_,g.S g.j,e,hD.Y _ hj,q⟩
end
noncomputable def GH (H:Hp)(v:V)(cnt:Nat)(mv:Option (List Mv))(th:Bool):Prop:=∃ t x,v = .ref t/\H t=some (.tup [.int (cnt:Int),x, .bl th])/\match mv with
 | none=>x = .yK
 | some p=>∃ D yQ,x = .ref D/\H D=some (.lst yQ)/\Paired (zu H) yQ (p.map cv)
noncomputable def r9 (K:Frag)(c:Cs)(TC:Addr)(J:TJ)(ys:Ys):Sp:=fun vs H Q _=>∃ (a:YA)(s:YS)(ll:Addr)(yB:List V),vs=[.ref a.y, .ref ll, .int (a.n:Nat)]/\BG K c TC J (yx ys []) H a s/\zE a s/\jd a.ps.length s.rooms=true/\s.done.length <= 900/\H ll=some (.lst yB)/\yB.length=a.ps.length /\
 ∀ (v:V)(H':Hp)(cnt:Nat)(mv:Option (List Mv))(th:Bool),y1 H H'->Lr a s cnt mv th->GH H' v cnt mv th->Q v H'
structure GnM (P:Program)(w:World)(K:Frag)(mg:Str->Option Value)(base:Heap)(c:Cs)(TC:Addr)(J:TJ)(ys:Ys)(fh fw fs fk fn:Addr)(dh dw ds dk dn:FuncData):Prop where
 mh:bB K ys.y3 "history" fh
 bh:Binds K dh ["self"] []
 Gh:y2 P w K mg base az 1 fh dh ["self"] (wb K c TC J ys)
 mw:bB K ys.y3 "twin" fw
 bw:Binds K dw ["self"] []
 Gw:y2 P w K mg base az 7 fw dw ["self"] (tE K c TC J ys)
 ms:mg "_law_still" = some (.ref fs)
 ks:keepIn K (.ref fs)=true
 bs:Binds K ds ["_law_yard_here"] []
 Gs:y2 P w K mg base az 8 fs ds ["_law_yard_here"] (oj K c TC J ys)
 my:mg "_law_key" = some (.ref fk)
 ky:keepIn K (.ref fk)=true
 Nj:Binds K dk ["_law_yard_here", "_law_lanes_here", "_law_places"] []
 Gy:y2 P w K mg base az 3 fk dk ["_law_yard_here", "_law_lanes_here", "_law_places"] (L3 K c TC J ys)
 mn:mg "_law_next" = some (.ref fn)
 kn:keepIn K (.ref fn)=true
 bn:Binds K dn ["_law_stand"] []
 Gn:y2 P w K mg base az 9 fn dn ["_law_stand"] (vZ K c TC J ys)
abbrev NGn:List Str:=["_law_yard_here", "_law_lanes_here", "_law_places", "_law_begun", "_law_stands", "_law_known", "_law_at", "_law_other", "_law_key_here"]
noncomputable def GW (P:Program)(w:World)(K:Frag)(c:Cs)(TC:Addr)(J:TJ)(ys:Ys)(a:YA)(s:YS)(ll:Addr)(H:Hp)(Ls Kw:Addr)(i:Nat):L2.St->Hp->Prop:=fun σ H'=>∃ (n m:Nat)(B:Nat->YA)(S:Nat->YS)(ix:List Nat)(L:List cC)(a7 a8:Option V),Tr a s n ⟨L,i,0⟩/\1 <= L.length/\L.length <= 30/\(∀ e ∈ L,e.s.lanes.length=s.lanes.length/\e.s.U.length=s.U.length)/\Sg P w K c TC J ys a s.done H Ls Kw m H' B S ix L /\
 σ=[some (.ref a.y),some (.ref ll),some (.int (a.n:Nat)),some (.int (s.done.length:Nat)),some (.ref Ls),some (.ref Kw),some (.int (i:Int)),a7,a8]
noncomputable def GF (P:Program)(w:World)(K:Frag)(c:Cs)(TC:Addr)(J:TJ)(ys:Ys)(a:YA)(s:YS)(ll:Addr)(H:Hp)(Ls Kw:Addr)(i k m:Nat)(B:Nat->YA)(S:Nat->YS)(D:Addr)(jx:List Nat)(j:Nat):L2.St->Hp->Prop:=fun σ H'=>∃ (n:Nat)(ix:List Nat)(L:List cC)(a7 a8:Option V),Tr a s n ⟨L,i,j⟩/\1 <= L.length/\L.length <= 30/\(∀ e ∈ L,e.s.lanes.length=s.lanes.length/\e.s.U.length=s.U.length)/\Sg P w K c TC J ys a s.done H Ls Kw m H' B S ix L/\ix[i]? = some k/\H' D=some (.lst (jx.map fun o => .ref (B o).y)) /\
 σ=[some (.ref a.y),some (.ref ll),some (.int (a.n:Nat)),some (.int (s.done.length:Nat)),some (.ref Ls),some (.ref Kw),some (.int (i:Int)),a7,a8]
theorem Paired.drop {α β:Type}{R:α->β->Prop}:∀ {as:List α}{bs:List β}(n:Nat),Paired R as bs->Paired R (as.drop n) (bs.drop n)
 | _,_,0,h=>h
 | _,_,_ + 1, .nil => .nil
 | _,_,n + 1, .cons _ r=>Paired.drop n r
theorem qD (xs:List V)(k:Nat)(h:k <= xs.length):gh xs (some (k:Int)) none=xs.drop k:=by
 unfold gh
 have e1:HT.Aw xs.length xs.length none=xs.length:=rfl
 rw[e1,show HT.Aw xs.length 0 (some (k:Int))=min k xs.length from HT.zK _ _ k,min_eq_left h,List.take_of_length_le (by rw[length_drop];omega)]
theorem BA:ap NGn ["_law_yard_here", "_law_lanes_here", "_law_places"] (aj rT):=L2.yW
theorem uS {c:Cs}{ys:Ys}{J:TJ}{TC f fv fh fw fs fk fn:Addr}{f' dv dh dw ds dk dn:FuncData}(F:yS K "_law_gone_over" "_law_gone_over" rT f f')(T:dJ mg)(Y:eU K ys)(W:Wy K TC fv dv J)(M:GnM P w K mg base c TC J ys fh fw fs fk fn dh dw ds dk dn) :
  y2 P w K mg base az 10 f f' ["_law_yard_here", "_law_lanes_here", "_law_places"] (r9 K c TC J ys):=by
 refine F.ok BA (fun vs H Q E h=>?_) (fun cdv Ar outer s0 H vs Q E hr h=>?_)
 ·obtain⟨a,s,ll,yB,rfl,_⟩:=h
  rfl
 ·obtain⟨a,s,ll,yB,rfl,hI,hJ,hR,zD,Nf,As,q⟩:=h
  have hu:=Vf hr
  have zi:yC 1 _:=hr.mono (by decide)
  have HX:yC 3 _:=hr.mono (by decide)
  have CI:yC 7 _:=hr.mono (by decide)
  have Vy:yC 8 _:=hr.mono (by decide)
  refine⟨_,(ae (aw (i:=3) BA.nd rfl (Or.inl rfl) (au aq rfl T.len PySem.boot_len (aa (aO (pv 0) Y.cl M.mh M.Gh zi M.bh .nil ao) ad)))
   (ae (aP (bD (av M.Gs Vy rfl M.ms M.ks M.bs .nil ao (aa (pv 0) ad)))
    (ah (ar (aW (aa ai (aa (aU ad) (aa dA ad))))))
    aD)
   (ae (aw (i:=4) BA.nd rfl (Or.inl rfl) (aU (aa (aO (pv 0) Y.cl M.mw M.Gw CI M.bw .nil ao) ad)))
   (ae (aw (i:=5) BA.nd rfl (Or.inl rfl) (show PE _ _ (nc P w _ _) from lM hu (av M.Gy HX rfl M.my M.ky M.Nj .nil ao (aa (pv 0) (aa (pv 1) (aa (pv 2) ad)))) dA))
   (ae (aw (i:=6) BA.nd rfl (Or.inl rfl) ai)
   (ae (iW PassesOwn.never (ax jD (pv 6) (au aq rfl T.len PySem.boot_len (aa (pv 4) ad)) (aB _))
    (ae (bL PassesOwn.never rfl (bz (av M.Gn hr rfl M.mn M.kn M.bn .nil ao (aa (aC aS (pv 4) (pv 6) (fun _ _=>rfl)) ad))) (ay (i:=7) BA.nd rfl (Or.inl rfl))
    (ae (aw (i:=8) BA.nd rfl (Or.inl rfl) (av M.Gy HX rfl M.my M.ky M.Nj .nil ao (aa (pv 7) (aa (pv 1) (aa (pv 2) ad)))))
   (ah (aP (nL (show PC _ _ _ _ (i9 P w _ _) from iY hu (pv 8) (pv 5)))
    (ae (show PS _ _ (n8 P w _ _ _) from lJ hu (pv 5) (pv 8) dA rfl)
   (ae (aP (bD (av M.Gs Vy rfl M.ms M.ks M.bs .nil ao (aa (pv 7) ad)))
    (ah (ar (aW (aa (aA bG (au aq rfl T.len PySem.boot_len (aa (pv 4) ad)) ai) (aa (e9 fS (aO (pv 7) Y.cl M.mh M.Gh zi M.bh .nil ao) (dP (pv 3)) kM) (aa dA ad))))))
    aD)
   (ae (aP (ax bN (au aq rfl T.len PySem.boot_len (aa (pv 4) ad)) ai (aB _))
    (ah (ar (aW (aa ai (aa bS (aa dA ad))))))
    aD)
   (ah (aL (bV plainAttrs_list PySem.F.slot_list_append PySem.F.type_list_append aV (pv 4) (aa (pv 7) ad)))))))
    aD))))
   (ah (aw (i:=6) BA.nd rfl (Or.inl rfl) (aA bG (pv 6) ai)))))
   (ah (ar (aW (aa (au aq rfl T.len PySem.boot_len (aa (pv 4) ad)) (aa bS (aa dA ad)))))))))))),?_⟩
  have G5:∀ x y:YS,x.lanes.length=y.lanes.length->x.U.length=y.U.length->(kL x=kL y↔kq x=kq y):=fun x y h1 h2=>xU h1 h2
  have Ff:zf K c TC J ys a [] 1 H (fun _=>a) (fun _=>s):=zf.one hI hJ hR (by omega) (fun z _ h=>by cases h)
  refine⟨_,rfl,a.y,a.dy,_,rfl,hI.Y.ins,rfl,⟨a,[],1,fun _=>a,fun _=>s,0⟩,rfl,⟨zero_lt_one,Ff⟩,fun th Aj H1 s1 _ Rf HY=>⟨th,Aj,rfl, .inl (y6.of Rf),?_⟩⟩
  have Ql:Aj.length=s.done.length:=Paired.length HY
  rw[Ql]
  have Fg:=Ff.same W s1
  refine⟨_,rfl,⟨a,[],1,fun _=>a,fun _=>s,0⟩,rfl,⟨zero_lt_one,Fg⟩,fun H2 s2=>⟨_,rfl,?_⟩⟩
  dsimp only
  have Ci:=s1.trans s2
  cases Bp:bq a s with
  | true =>
   refine aK ⟨zero_le _,fun D hD=>⟨by show 3 <= sizeLine;decide,fun t ht=>?_⟩⟩
   have s3:=Ci.new (o := .lst []) hD
   exact q _ _ 1 (some []) true (s3.new ht) (.now Bp) ⟨t,_,rfl,ac,D,[],rfl,by rw[af (ag ac ht)];exact ac, .nil⟩
  | false =>
  refine aF ?_
  have zI:=Fg.same W s2
  refine⟨_,rfl,a.y,a.dy,_,rfl,(zI.Y 0 (by decide)).ins,rfl,⟨a,[],1,fun _=>a,fun _=>s,0⟩,rfl,⟨zero_lt_one,zI⟩,fun b H3 s3 fr CJ=>⟨by show 1 <= sizeLine;decide,fun Ls Nk=>?_⟩⟩
  dsimp only at CJ
  have Rg:=Ci.trans s3
  have Rh:H Ls=none:=Rg.free Nk
  have u4:=(y1.refl H3).new (o := .lst [.ref b.y]) Nk
  have g4:(upd H3 Ls (.lst [.ref b.y])) Ls=some (.lst [.ref b.y]):=ac
  have Bt:=zf.grow W CJ u4 Nk g4
  show cf 4 (V.ref Ls) _ (upd H3 Ls (.lst [.ref b.y])) _
  generalize upd H3 Ls (.lst [.ref b.y])=H4 at u4 g4 Bt ⊢
  have s4:=Rg.trans u4
  intro Kw Ri
  have u5:=(y1.refl H4).new (o:=aZ P w Kw []) Ri
  have g5:(upd H4 Kw (aZ P w Kw [])) Kw=some (aZ P w Kw []):=ac
  have zX:=Bt.same W u5
  generalize upd H4 Kw (aZ P w Kw [])=H5 at u5 g5 zX ⊢
  have s5:=s4.trans u5
  have L5:H Kw=none:=s4.free Ri
  have Rj:bX (fun _=>a) 1 b 0=a:=cM (by decide)
  have Rk:bX (fun _=>a) 1 b 1=b:=aQ ..
  have Dr:bX (fun _=>s) 1 s 0=s:=cM (by decide)
  have Nl:bX (fun _=>s) 1 s 1=s:=aQ ..
  generalize bX (fun _=>a) 1 b=B at zX Rj Rk
  generalize bX (fun _=>s) 1 s=S at zX Dr Nl
  clear Bt CJ
  refine⟨_,rfl,_,rfl,_,rfl,⟨a,[Ls],2,B,S,0⟩,ll,yB,by show [V.ref a.y,_,_]=[V.ref (B 0).y,_,_];rw[Rj],⟨Nat.zero_lt_two,zX⟩,s5 _ _ Nf,As,fun t H6 s6 kt=>⟨kL s,t,rfl,s6 _ _ g5,by rw[← Dr];exact kt,?_⟩⟩
  dsimp only at kt
  rw[Dr]at kt
  have Eo:=zX.same W s6
  have x6:H6 Kw=some (.ext (fA P w Kw [])):=s6 _ _ g5
  have s7:y1 H (upd H6 Kw (aZ P w Kw [(kL s,t, .bl true)])):=fun b o e=>by rw[af (ag e L5)];exact s6 _ _ (s5 _ _ e)
  have HR:=zf.ext Eo (u:=aZ P w Kw [(kL s,t, .bl true)]) x6 (zj.keep W hI.T (y1.yF s7))
  have Rl:Sg P w K c TC J ys a s.done H Ls Kw 2 (upd H6 Kw (aZ P w Kw [(kL s,t, .bl true)])) B S [1] [⟨core s,[]⟩]:=by
   have gl:H6 Ls=some (.lst [.ref b.y]):=s6 _ _ (u5 _ _ g4)
   refine⟨s7,HR,?_,⟨_,⟨ac,fun x hx=>?_⟩,tp (s':=core s) G5⟩, .cons ⟨by decide,by rw[Nl],by rw[Nl];exact(append_nil _).symm⟩ .nil,fun i e h=>?_⟩
   ·rw[af (aR gl x6 (by intro z;cases z)),gl]
    show _=some (HO.lst [V.ref (B 1).y])
    rw[Rk]
   ·rw[mem_singleton.mp hx]
    exact yL.tup (ig x6) kt
   ·have hi:=(gQ0 h)
    obtain rfl:i=0:=by simp at hi;omega
    cases h
    exact le_refl _
  show cf 5 (V.ref Kw) _ (upd H6 Kw (aZ P w Kw [(kL s,t, .bl true)])) _
  generalize upd H6 Kw (aZ P w Kw [(kL s,t, .bl true)])=H7 at s7 Rl ⊢
  clear HR Eo zX zI Fg Ff x6 kt s6 g5 u5 g4 u4 fr s3 s4 s5 Rg Rj Rk Dr Nl Ri Nk
  show mZ _ _ _ _ _
  refine⟨fun k σ H'=>∃ i,k=31 - i/\GW P w K c TC J ys a s ll H Ls Kw i σ H',⟨_,0,rfl,0,2,_,_,_,_,none,none, .nil,le_refl _,(by show 1 <= 30;decide),(fun e he=>by rw[mem_singleton.mp he];exact⟨rfl,rfl⟩),Rl,rfl⟩,?_⟩
  clear Rl s7
  rintro k σ H1 ⟨i,rfl,n,m,B,S,ix,L,a7,a8,Lp,DA,L6,G6,hG,rfl⟩
  have Fc:ix.length=L.length:=Paired.length hG.ix
  refine⟨_,rfl,_,rfl,Ls,_,rfl, .inl (y6.of hG.ls),_,_,rfl,rfl,_,rfl,?_⟩
  rw[length_map,Fc]
  by_cases yR:i < L.length
  rotate_left
  ·rw[decide_eq_false (by omega)]
   refine aF ⟨_,rfl,Ls,_,rfl, .inl (y6.of hG.ls),by show 3 <= sizeLine;decide,fun t ht=>?_⟩
   rw[length_map,Fc]
   exact q _ _ L.length none true (hG.s.new ht) (.fin Bp Lp (by show L.length <= i;omega) L6 DA) ⟨t,_,rfl,ac,rfl⟩
  rw[decide_eq_true (by omega)]
  refine aK ⟨GW P w K c TC J ys a s ll H Ls Kw (i + 1),fun σ' H' h=>⟨31 - (i + 1),by omega,i + 1,rfl,h⟩,?_⟩
  obtain⟨k,hk,Lq,Vj,BD⟩:=Paired.at2 hG.ix (getElem?_eq_getElem yR)
  have ML:=getElem?_eq_getElem yR
  generalize L[i]=e at ML Vj BD
  have hpe:=hG.pl i e ML
  have QL:(ix.map fun k=>V.ref (B k).y)[i]? = some (.ref (B k).y):=by rw[getElem?_map,hk];rfl
  have hdk:(S k).done.length < 1000:=by rw[BD,length_append,length_map];omega
  refine⟨_,rfl,_,rfl,Ls,_,(i:Int),_,rfl,rfl,y6.of hG.ls,ak QL,⟨a,[Ls],m,B,S,k⟩,rfl,⟨Lq,hG.D⟩,hdk,fun D m' B' S' jx H2 s2 Ct gD CW C7 zI pN=>⟨D,rfl,⟨_,y6.of gD⟩,?_⟩⟩
  dsimp only at CW C7 zI pN
  have hG2:=hG.turn s2 zI CW C7
  have Vz:=(C7 k Lq).2
  obtain⟨QM,Vk⟩:D ≠ Ls/\D ≠ Kw:=by
   obtain⟨kvs,g',_⟩:=hG.dn
   exact⟨Ne.symm (ag hG.ls Ct),Ne.symm (ag g'.1 Ct)⟩
  have Vx:jx.length=(aI a (S k)).length:=Paired.length pN
  refine cx (K:=K) (a:=D) (xs:=jx.map fun o=>V.ref (B' o).y) (GF P w K c TC J ys a s ll H Ls Kw i k m' B' S' D jx) ⟨n,ix,L,_,_,Lp,DA,L6,G6,hG2,hk,gD,rfl⟩ (fun j σ H' _ y8=>by obtain⟨_,_,_,_,_,_,_,_,_,_,_,g,_⟩:=y8;exact y6.of g) ?_ ?_
  rotate_left
  ·rintro σ H3 ⟨n',AG,L',b7,b8,Al,GI,Co,zk,DF,zL,V0,rfl⟩
   obtain⟨e',he',_,Am,_⟩:=Paired.at DF.ix zL
   refine⟨_,rfl,_,_,rfl,rfl,n' + 1,m',B',S',AG,L',_,_, .snoc Al (.next he' ?_),GI,Co,zk,DF,rfl⟩
   rw[← Am,Vz,dR,length_map,Vx]
  rintro j v σ H3 hv ⟨n',AG,L',b7,b8,Al,GI,Co,zk,DF,zL,V0,rfl⟩
  rw[getElem?_map]at hv
  cases Rm:jx[j]? with
  | none=>rw[Rm]at hv;cases hv
  | some o =>
  rw[Rm]at hv
  cases hv
  obtain⟨mv,DW,UH,zO,s',Rn,Dq⟩:=Paired.at pN Rm
  obtain⟨e',he',_,Am,L7⟩:=Paired.at DF.ix zL
  rw[Vz]at Am L7
  have hpe':=DF.pl i e' he'
  have C5:AG.length=L'.length:=Paired.length DF.ix
  have T9:=(gQ0 he')
  have hmj':(aI a e'.s)[j]? = some mv:=by rw[← Am,dR];exact DW
  have GJ:zS a e'.s mv (core s'):=by rw[← Am];exact Rn.core
  have hkL:kL (S' o)=kL (core s'):=by rw[Dq];rfl
  have Hs:bq a (S' o)=bq a (core s'):=by rw[Dq];rfl
  have V1:(S' o).done=s.done ++ (e'.p ++ [mv]).map cv:=by rw[Dq];show(S k).done ++ [cv mv]=_;rw[L7,map_append,append_assoc];rfl
  have hco:core (S' o)=core s':=by rw[Dq];rfl
  have Ad:∀ e ∈ L',e.s.lanes.length=(core s').lanes.length/\e.s.U.length=(core s').U.length:=by
   have j1:=(zI.J o zO).lanes
   rw[Dq]at j1
   have j1:s'.lanes.length=(B' o).ps.length:=j1
   have j2:=(zI.E o zO).ps
   have j3:=GJ.len
   have j4:=hJ.lanes
   obtain⟨q1,q2⟩:=zk e' (mem_of_getElem? he')
   intro e he
   obtain⟨q3,q4⟩:=zk e he
   exact⟨by rw[q3,j4,← j2,← j1];rfl,by rw[q4,j3,q2]⟩
  refine⟨_,rfl,_,rfl,_,rfl,⟨a,[Ls],m',B',S',o⟩,ll,yB,rfl,⟨zO,DF.D⟩,DF.s _ _ Nf,As,fun t H4 s4 kt=>?_⟩
  dsimp only at kt
  rw[hkL]at kt
  have HZ:=DF.same W s4
  have L8:=s4 _ _ V0
  obtain⟨kvs,Bo,Es⟩:=HZ.dn
  refine⟨_,rfl,_,rfl,Kw,_,rfl,⟨kvs,kL (core s'),t,Bo,rfl,kt,rfl⟩,_,rfl,?_⟩
  cases AI:(cu kvs (kL (core s'))).isSome with
  | true =>
   refine aF ?_
   obtain⟨x,hx,GC⟩:=(Es.2 _ Ad).mp AI
   exact⟨n' + 1,AG,L',_,_, .snoc Al (.skip he' hmj' GJ ⟨x,hx,GC⟩),GI,Co,zk,HZ,zL,L8,rfl⟩
  | false =>
  have GD:New a ⟨L',i,j⟩ (core s') (e'.p ++ [mv]):=⟨e',mv,he',hmj',GJ,(fun x hx GC=>by rw[(Es.2 _ Ad).mpr ⟨x,hx,GC⟩]at AI;exact Bool.noConfusion AI),rfl⟩
  refine aK ?_
  have AY:=Es.1
  refine⟨_,rfl,_,rfl,Kw,kvs,kL (core s'),t,rfl,Bo,rfl,kt,by rw[sizeLine_eq];omega,?_⟩
  have x4:H4 Kw=some (.ext (fA P w Kw kvs)):=Bo.1
  have s5:y1 H (upd H4 Kw (aZ P w Kw (bI kvs (kL (core s')) t (.bl true)))):=fun b o e=>by rw[af (ag e L5)];exact HZ.s _ _ e
  have zX:=zf.ext HZ.D (u:=aZ P w Kw (bI kvs (kL (core s')) t (.bl true))) x4 (zj.keep W hI.T (y1.yF s5))
  have k5:ia H4 (upd H4 Kw (aZ P w Kw (bI kvs (kL (core s')) t (.bl true)))):=ig x4
  have l5:∀ b xs,H4 b=some (.lst xs)->(upd H4 Kw (aZ P w Kw (bI kvs (kL (core s')) t (.bl true)))) b=some (.lst xs):=fun b xs e=>by rw[af (aR e x4 (by intro z;cases z))];exact e
  have GK:zd P w (upd H4 Kw (aZ P w Kw (bI kvs (kL (core s')) t (.bl true)))) Kw (bI kvs (kL (core s')) t (.bl true)):=⟨ac,iU (F:=fun k b=>yL 5 _ k b) (fun x hx=>yL.tup k5 (Bo.2 x hx)) (yL.tup k5 kt)⟩
  generalize upd H4 Kw (aZ P w Kw (bI kvs (kL (core s')) t (.bl true)))=H5 at s5 zX k5 l5 GK ⊢
  refine⟨_,rfl,⟨a,[Ls],m',B',S',o⟩,rfl,⟨zO,zX⟩,fun H6 s6=>⟨_,rfl,?_⟩⟩
  dsimp only
  rw[Hs]
  have GL:=s6 _ _ (l5 _ _ HZ.ls)
  have Eo:=zX.same W s6
  have Ia:=s5.trans s6
  cases C6:bq a (core s') with
  | true =>
   refine aK ⟨_,rfl,Ls,_,rfl, .inl (y6.of GL),_,_,rfl,rfl,_,rfl,(B' o).y,_,_,rfl,(Eo.Y o zO).ins,rfl,⟨a,[Ls],m',B',S',o⟩,rfl,⟨zO,Eo⟩,fun th Aj H7 s7 _ Rf HY=>⟨_,rfl,_,rfl,th,Aj,rfl,y6.of Rf,fun p hp=>⟨by show 3 <= sizeLine;decide,fun t2 zq=>?_⟩⟩⟩
   dsimp only at HY
   rw[V1]at HY
   have CF:Aj.length=s.done.length + ((e'.p ++ [mv]).map cv).length:=by rw[Paired.length HY,length_append]
   rw[length_map,C5,qD _ _ (by omega)] at *
   have s7':=(Ia.trans s7).new (o := .lst (Aj.drop s.done.length)) hp
   have pd:=Paired.drop s.done.length HY
   rw[List.drop_left]at pd
   refine q _ _ (L'.length + 1) (some (e'.p ++ [mv])) true (s7'.new zq) (.Q8 Bp Al GD C6 Co) ⟨t2,_,rfl,ac,p,_,rfl,by rw[af (ag ac zq)];exact ac,Paired.mono (fun v x z=>z.keep (y1.yF (((y1.refl H7).new hp).new zq))) pd⟩
  | false =>
  refine aF ?_
  refine⟨_,rfl,Ls,_,rfl, .inl (y6.of GL),rfl,_,rfl,?_⟩
  rw[bO,length_map,C5]
  by_cases AX:L'.length=30
  ·rw[decide_eq_true (by omega)]
   refine aK ⟨by show 3 <= sizeLine;decide,fun t2 zq=>?_⟩
   exact q _ _ 30 none false (Ia.new zq) (.cut Bp Al GD C6 AX) ⟨t2,_,rfl,ac,rfl⟩
  rw[decide_eq_false (by omega)]
  refine aF ⟨_,rfl, .inl ⟨rfl,_,y6.of GL⟩,_,rfl,Ls,_,_,rfl,rfl,GL,by rw[length_map,C5,sizeLine_eq];omega,?_⟩
  have x6:H6 Kw=some (.ext (fA P w Kw (bI kvs (kL (core s')) t (.bl true)))):=s6 _ _ GK.1
  have k6:ia H6 (upd H6 Ls (.lst (AG.map (fun k=>V.ref (B' k).y) ++ [.ref (B' o).y]))):=jZ GL
  refine⟨n' + 1,AG ++ [o],L' ++ [⟨core s',e'.p ++ [mv]⟩],_,_, .snoc Al (.new GD C6),by rw[length_append];omega,by rw[length_append];show L'.length + 1 <= 30;omega,?_,⟨fun b o e=>by rw[af (ag e Rh)];exact Ia _ _ e,Eo.put W (by simp) GL,by rw[ac,map_append];rfl,⟨_,⟨by rw[af (aR x6 GL (by intro z;cases z))];exact x6,fun x hx=>yL.tup k6 (yL.same s6 (GK.2 x hx))⟩,tm G5 Es Ad⟩,Paired.snoc ⟨zO,hco,V1⟩ HZ.ix,?_⟩,by rw[getElem?_append_left (gQ0 zL)];exact zL,by rw[af QM];exact s6 _ _ (l5 _ _ L8),rfl⟩
  ·intro x hx
   rcases mem_append.mp hx with hx | hx
   ·exact zk x hx
   ·rw[mem_singleton.mp hx]
    have q1:=zk e' (mem_of_getElem? he')
    have q2:=Ad e' (mem_of_getElem? he')
    exact⟨q2.1.symm.trans q1.1,q2.2.symm.trans q1.2⟩
  ·intro z x hx
   by_cases hz:z < L'.length
   ·rw[getElem?_append_left hz]at hx
    exact DF.pl z x hx
   ·have:=(gQ0 hx)
    rw[length_append,length_singleton]at this
    obtain rfl:z=L'.length:=by omega
    rw[getElem?_concat_length]at hx
    cases hx
    rw[length_append,length_singleton]
    omega
noncomputable def oR (K:Frag)(c:Cs)(TC:Addr)(J:TJ)(ys:Ys):Sp:=fun vs H Q _=>∃ (sc tb l lx zb lt:Addr)(ns:List Int)(yB yH:List V)(ps:List (Int × Int))(n:Nat)(wy:Wf),vs=[.ref sc, .ref tb, .ref l, .int (n:Int)]/\y6 K H sc (ns.map V.int)/\H l=some (.lst yB)/\yB.length=ps.length/\zj c TC J H tb lx zb lt n yH ps wy/\(∀ p g k,(wy p g k).length <= 400)/\(∀ p ∈ ps,gG n p=true)/\ps.length <= 4/\2 <= n/\n <= 3 /\
 ∀ (a:YA)(s:YS)(H':Hp),y1 H H'->a.ps=ps->a.n=n->BG K c TC J (yx ys []) H' a s->zE a s->jd a.ps.length s.rooms=true->s.done.length <= 20->Q (.ref a.y) H'
theorem tZ {K:Frag}{c:Cs}{TC:Addr}{J:TJ}{ys:Ys}{vs:List V}{H:Hp}{Q Q':VK}{E:XK}(h:iE K c TC J ys vs H Q E)(k:∀ v H',Q v H'->Q' v H'):iE K c TC J ys vs H Q' E:=by
 obtain⟨y,dy,tb,lx,zb,lt,n,yH,ps,wy,rv,yM,e1,e2,e3,e4,e5,e6⟩:=h
 exact⟨y,dy,tb,lx,zb,lt,n,yH,ps,wy,rv,yM,e1,e2,e3,e4,e5,fun h ro la le li dn H' a1 a2 a3 a4 a5 a6=>k _ _ (e6 h ro la le li dn H' a1 a2 a3 a4 a5 a6)⟩
structure YdM (P:Program)(w:World)(K:Frag)(mg:Str->Option Value)(base:Heap)(c:Cs)(TC:Addr)(J:TJ)(ys:Ys)(fc fd fy fp fr fm:Addr)(dc dd dy dp dr dm:FuncData):Prop where
 mc:mg "_law_cell_at" = some (.ref fc)
 kc:keepIn K (.ref fc)=true
 bc:Binds K dc ["_law_script", "_law_k"] []
 Gc:y2 P w K mg base az 1 fc dc ["_law_script", "_law_k"] (k4 K)
 md:mg "_law_draws" = some (.ref fd)
 kd:keepIn K (.ref fd)=true
 bd:Binds K dd ["_law_cell", "_law_amount", "_law_base"] []
 Gd:y2 P w K mg base az 2 fd dd ["_law_cell", "_law_amount", "_law_base"] il
 my:mg "Yard" = some (.ref ys.y3)
 My:Mk K ys.y3 fy
 HH:Binds K dy ["self", "table", "rooms"] []
 Gy:y2 P w K mg base az 4 fy dy ["self", "table", "rooms"] (iE K c TC J (yx ys []))
 mp:bB K ys.y3 "post" fp
 bp:Binds K dp Ke []
 Gp:y2 P w K mg base az 4 fp dp Ke (nj K c TC J (yx ys []))
 mr:bB K ys.y3 "do" fr
 br:Binds K dr ["self", "move"] []
 Gr:∀ ex,y2 P w K mg base az 8 fr dr ["self", "move"] (uf K c TC J (yx ys ex))
 mm:bB K ys.y3 "moves" fm
 bm:Binds K dm ["self"] []
 Gm:∀ ex,y2 P w K mg base az 7 fm dm ["self"] (eI K c TC J (yx ys ex))
abbrev V2:List Str:=["_law_script", "_law_table_here", "_law_lanes_here", "_law_places", "_law_rooms", "_law_yard_here", "_law_k", "_law_cell", "_law_start", "_law_goal", "_law_pick"]
noncomputable def mkC (s:Stmt):Scope:=match s with
 | .Assign _ (.Call _ [_, .ListComp _ _ sc _] _ _) _=>sc
 | _=>zQ0
structure YH (K:Frag)(c:Cs)(TC:Addr)(J:TJ)(ys:Ys)(a:YA)(yM:List V)(H H':Hp)(s:YS):Prop where
 e:y1 H H'
 I:BG K c TC J (yx ys []) H' a s
 J:zE a s
 R:s.rooms=yM
theorem BB:ap V2 ["_law_script", "_law_table_here", "_law_lanes_here", "_law_places"] (aj iO):=L2.yW
theorem Rp:zP V2 (aj iO) (mkC ((aM iO).getD 1 (.Pass ⟨0,0,0,0⟩))) [] []:=L2.AN
theorem Rq:(["_law_room"]:List Str).Nodup:=by decide +kernel
theorem sC {c:Cs}{ys:Ys}{J:TJ}{TC f fw fc fd fy fp fr fm:Addr}{f' dw dc dd dy dp dr dm:FuncData}(F:yS K "_law_yard" "_law_yard" iO f f')(T:dJ mg)(Y:eU K ys)(W:Wy K TC fw dw J)(Gw:y2 P w K mg base az 3 fw dw ["self", "place", "goal", "came"] (fQ J))(D:YdM P w K mg base c TC J ys fc fd fy fp fr fm dc dd dy dp dr dm) :
  y2 P w K mg base az 9 f f' ["_law_script", "_law_table_here", "_law_lanes_here", "_law_places"] (oR K c TC J ys):=by
 refine F.ok BB (fun vs H Q E h=>?_) (fun cdv Ar outer s0 H vs Q E hr h=>?_)
 ·obtain⟨sc,tb,l,lx,zb,lt,ns,yB,yH,ps,n,wy,rfl,_⟩:=h
  rfl
 ·obtain⟨sc,tb,l,lx,zb,lt,ns,yB,yH,ps,n,wy,rfl,hS,gl,As,hT,Bf,yE,V3,CN,V4,q⟩:=h
  have hu:=hr.units
  have zi:yC 1 _:=hr.mono (by decide)
  have zV:yC 2 _:=hr.mono (by decide)
  have HX:yC 3 _:=hr.mono (by decide)
  have BR:yC 4 _:=hr.mono (by decide)
  have Gj:yC 5 _:=hr.mono (by decide)
  have CI:yC 7 _:=hr.mono (by decide)
  refine⟨_,(ae (aw (i:=4) BB.nd rfl (Or.inl rfl) (av D.Gd zV rfl D.md D.kd D.bd .nil ao (aa (aA cj (av D.Gc zi rfl D.mc D.kc D.bc .nil ao (aa (pv 0) (aa ai ad))) ai) (aa (au aq rfl T.len PySem.boot_len (aa (pv 2) ad)) (aa ai ad)))))
   (ae (aw (i:=5) BB.nd rfl (Or.inl rfl) (kO (dz D.My D.Gy Gj rfl D.my D.HH .nil ao (aa (pv 1) (aa (bH (own:=["_law_room"]) (capN:=[]) (cap:=[]) Rp rfl (bz (pv 4)) (fun C s' H' fp=>⟨ay (i:=0) Rq rfl (Or.inl rfl),ci,aA bG ai (aA bC (pv 0) ai)⟩)) ad)))))
   (ae (bL PassesOwn.never rfl (bE rfl T.range (aa (aA bG ai (aA bC (av D.Gc zi rfl D.mc D.kc D.bc .nil ao (aa (pv 0) (aa ai ad))) ai)) ad)) (ay (i:=6) BB.nd rfl (Or.inl rfl))
    (ae (aw (i:=7) BB.nd rfl (Or.inl rfl) (av D.Gc zi rfl D.mc D.kc D.bc .nil ao (aa (pv 0) (aa (aA bG ai (pv 6)) ad))))
   (ae (aw (i:=8) BB.nd rfl (Or.inl rfl) (aA bC (pv 7) (pv 3)))
   (ae (aw (i:=9) BB.nd rfl (Or.inl rfl) (aA bC (aA bG (aA bG (pv 8) ai) (aA bC (aA cj (pv 7) ai) (aA cT (pv 3) ai))) (pv 3)))
   (ah (aP (ax (xb hu) (aH (pv 1) W.cl W.m Gw HX W.b .nil ao (aa (pv 8) (aa (pv 9) (aa bS ad)))) (aU ad) (aB _))
    (ah (aL (aH (pv 5) Y.cl D.mp D.Gp BR D.bp .nil ao (aa (pv 8) (aa (pv 9) (aa (aA bG ai (aA bC (aA cj (pv 7) ai) ai)) (aa (aA bC (pv 7) (aA nN ai ai)) ad)))))))
    aD))))))
   (ae (bL PassesOwn.never rfl (bz (e9 fS (pv 0) (dP ai) (dP (aA bG ai (aA bC (aA cj (av D.Gc zi rfl D.mc D.kc D.bc .nil ao (aa (pv 0) (aa ai ad))) ai) ai))))) (ay (i:=10) BB.nd rfl (Or.inl rfl))
    (ah (aP (ax (kT hu) (aO (pv 5) Y.cl D.mm (D.Gm []) CI D.bm .nil ao) (aU ad) (aB _))
    (ah (aL (aH (pv 5) Y.cl D.mr (D.Gr []) hr D.br .nil ao (aa (aC aS (aO (pv 5) Y.cl D.mm (D.Gm []) CI D.bm .nil ao) (aA bC (pv 10) (au aq rfl T.len PySem.boot_len (aa (aO (pv 5) Y.cl D.mm (D.Gm []) CI D.bm .nil ao) ad))) (fun _ _=>rfl)) ad))))
    aD)))
   (ah (ar (pv 5))))))),?_⟩
  refine⟨_,rfl,sc,ns,0,rfl,hS,fun d0=>⟨_,_,rfl,rfl,⟨by decide,by decide⟩,_,rfl,l,_,rfl, .inl (y6.of gl),_,yB.length,2,rfl,by omega,by decide,by decide,fun Ro ds H3 s3 hRo Nm CU zD=>?_⟩⟩
  have DY:=hT.keep W (y1.yF s3)
  refine⟨fun v H5=>∃ (H4:Hp)(rs:List Int),y1 H3 H4/\(∀ r ∈ rs,1 <= r/\r <= 60)/\rs.length=ps.length/\U7 K c TC J ys [] H4 tb ps n wy rs v H5,?_,?_⟩
  ·refine⟨_,rfl,_,rfl,Ro,rfl,⟨_,y6.of Nm⟩,?_⟩
   refine bZ ds.length (by rw[sizeLine_eq];omega) (fun i acc H'=>H' = H3/\∃ ks:List Int,acc=ks.map V.int/\ks.length=i/\∀ r ∈ ks,1 <= r/\r <= 60) ⟨rfl,[],rfl,rfl,fun r hr=>by cases hr⟩ (fun i acc H' h=>by obtain⟨_,ks,rfl,e,_⟩:=h;rw[length_map];omega) (fun i acc H' hi h=>?_) (fun acc H' h=>?_)
   ·obtain⟨rfl,ks,rfl,e,G9⟩:=h
    have hx:(ds.map V.int)[i]? = some (.int (ds[i])):=by rw[getElem?_map,getElem?_eq_getElem hi];rfl
    refine⟨⟨_,_,y6.of Nm,hx⟩,fun v H2 y=>?_⟩
    obtain⟨rfl,y⟩:=y
    have hv:=y _ (y6.of Nm)
    rw[hx]at hv
    cases hv
    refine⟨_,rfl,_,_,rfl,rfl,(by show (0:Int) < 2;decide),_,_,rfl,rfl,rfl,ks ++ [1 + ds[i] % 2],by rw[map_append];rfl,by rw[length_append,e];rfl,fun r hr=>?_⟩
    rcases mem_append.mp hr with hr | hr
    ·exact G9 r hr
    ·rw[mem_singleton.mp hr];exact⟨by omega,by omega⟩
   obtain⟨rfl,ks,rfl,AY,G9⟩:=h
   refine⟨⟨_,y6.of Nm,by rw[length_map];exact le_refl _⟩,fun D2 zI=>?_⟩
   have s4:=(y1.refl H').new (o := .lst (ks.map V.int)) zI
   have g4:(upd H' D2 (.lst (ks.map V.int))) D2=some (.lst (ks.map V.int)):=ac
   generalize upd H' D2 (.lst (ks.map V.int))=H4 at s4 g4 ⊢
   have J6:=DY.keep W (y1.yF s4)
   exact fun y dy ny K8 KA=>tZ (ua (P:=P) (w:=w) (ys:=ys) (ex:=[]) W J6 Bf yE (y6.of g4) (by rw[AY,CU,As]) G9 (by omega) (fun z hz=>by cases hz) y dy ny K8 KA) fun v H5 h=>⟨h.1,H4,ks,s4,G9,by rw[AY,CU,As],h.2⟩
  rintro v H5 ⟨H4,rs,s4,K7,Cy,a,rfl,e1,e2,e3,e4,s5,fr,hI,hJ⟩
  have V5:=s3.trans (s4.trans s5)
  have V6:∀ z ∈ a.four,H z=none:=fun z hz=>(s3.trans s4).free (fr z hz)
  subst e1 e2 e3 e4
  have np:(0:Int) < (a.n:Int):=by omega
  have V7:(0:Int) < (a.n:Int) - 1:=by omega
  have two:∀ z:Addr,z ∈ [a.le,a.dn]->z ∈ a.four:=fun z hz=>by simp only[mem_cons,not_mem_nil,or_false]at hz ⊢;rcases hz with rfl | rfl<;>simp
  refine⟨_,rfl,sc,ns,6,rfl,V5.seq hS,fun d6=>⟨_,_,rfl,rfl,(by show (0:Int) < 3;decide),_,_,rfl,rfl,?_⟩⟩
  obtain⟨kk,G5,L9,hk3⟩:∃ kk:Nat,1 + d6 % 3=(kk:Int)/\1 <= kk/\kk <= 3:=⟨(1 + d6 % 3).toNat,by omega,by omega,by omega⟩
  refine⟨(kk:Int),congrArg (fun z=>[V.int z]) G5,by omega,by omega,?_⟩
  rw[toNat_natCast]
  refine bW (n:=kk) (fun i σ H2=>∃ (a6 a7 a8 a9:Option V)(s2:YS),YH K c TC J ys a (rs.map V.int) H H2 s2/\s2.U.length <= i/\s2.done.length <= i/\σ=[some (.ref sc),some (.ref a.tb),some (.ref l),some (.int a.n),some (.ref Ro),some (.ref a.y),a6,a7,a8,a9,none])
   ⟨none,none,none,none,_,⟨V5,hI,hJ,rfl⟩,zero_le _,zero_le _,rfl⟩ ?_ ?_
  ·rintro i σ H2 hi ⟨a6,a7,a8,a9,s2,hh,h1,h2,rfl⟩
   rw[zero_add]
   refine⟨_,rfl,_,rfl,_,_,rfl,rfl,sc,ns,3 + i,congrArg (fun z=>[V.ref sc,V.int z]) (by omega),hh.e.seq hS,fun d=>?_⟩
   refine⟨_,rfl,_,rfl,_,_,rfl,rfl,np,?_⟩
   show cf 8 (V.int (d % (a.n:Int))) _ _ _
   have e1:=emod_nonneg d (show(a.n:Int) ≠ 0 by omega)
   have e2:=emod_lt_of_pos d np
   obtain⟨a',ha',Rr⟩:∃ a':Nat,d % (a.n:Int)=(a':Int)/\a' < a.n:=⟨(d % (a.n:Int)).toNat,by omega,by omega⟩
   rw[ha']
   refine⟨_,rfl,_,_,rfl,rfl,_,rfl,_,_,rfl,rfl,⟨by decide,by decide⟩,_,rfl,_,_,rfl,rfl,_,_,rfl,rfl,V7,_,_,rfl,rfl,_,rfl,_,_,rfl,rfl,np,?_⟩
   show cf 9 (V.int (((a':Int) + 1 + d / 4 % ((a.n:Int) - 1)) % (a.n:Int))) _ _ _
   have e3:=emod_nonneg (d / 4) (show(a.n:Int) - 1 ≠ 0 by omega)
   have e4:=emod_lt_of_pos (d / 4) V7
   obtain⟨r1,r2,r3⟩:=kK (n:=(a.n:Int)) (x:=(a':Int)) (o:=d / 4 % ((a.n:Int) - 1)) (by omega) (by omega) e3 e4
   obtain⟨b',An,Rt,Dc⟩:∃ b':Nat,((a':Int) + 1 + d / 4 % ((a.n:Int) - 1)) % (a.n:Int)=(b':Int)/\b' < a.n/\a' ≠ b':=⟨(((a':Int) + 1 + d / 4 % ((a.n:Int) - 1)) % (a.n:Int)).toNat,by omega,by omega,by omega⟩
   rw[An]
   have V8:=hh.I.T
   obtain⟨C0,fst,Cg,zA,AE⟩:=V8.i
   refine⟨_,rfl,a.tb,C0,fst,rfl,Cg,AE,_,rfl,_,rfl,a.tb,a.n,a.wy,a',b',none,rfl,V8.j,Rr,Rt,fun D H3 s3 hD gD=>⟨zero_le _,fun o7 HJ=>?_⟩⟩
   have s4:=s3.new (o := .lst []) HJ
   have L8:(upd H3 o7 (.lst [])) D=some (.lst (nV (a.wy a' b' none))):=by rw[af (ag gD HJ)];exact gD
   have g7:(upd H3 o7 (.lst [])) o7=some (.lst (([]:List Int).map V.int)):=ac
   generalize upd H3 o7 (.lst [])=H4 at s4 L8 g7 ⊢
   have C8:=hh.I.same W s4
   have V9:=hh.e.trans s4
   refine⟨D,o7,iz (a.wy a' b' none),[],rfl,rfl,by rw[← pb];exact y6.of L8,y6.of g7,_,rfl,?_⟩
   by_cases hw:a.wy a' b' none=[]
   ·rw[decide_eq_true (show iz (a.wy a' b' none)=[] by rw[hw];rfl)]
    exact aF ⟨_,_,_,_,s2,⟨V9,C8,hh.J,hh.R⟩,by omega,by omega,rfl⟩
   have hiz:¬ iz (a.wy a' b' none)=[]:=fun z=>hw (by unfold iz at z;exact List.map_eq_nil_iff.mp z)
   rw[decide_eq_false hiz]
   refine aK ⟨_,rfl,a.y,a.dy,_,rfl,C8.Y.ins,rfl,_,rfl,_,rfl,_,rfl,_,_,rfl,rfl,⟨by decide,by decide⟩,_,_,rfl,rfl,(by show (0:Int) < 2;decide),_,_,rfl,rfl,_,rfl,_,_,rfl,rfl,⟨by decide,by decide,by decide⟩,_,_,rfl,rfl,(by show (0:Int) < 10 ^ (60:Int).toNat;decide +kernel),?_⟩
   have w1:=emod_nonneg d (show(10 ^ (60:Int).toNat:Int) ≠ 0 by decide +kernel)
   have w2:=emod_lt_of_pos d (show (0:Int) < 10 ^ (60:Int).toNat by decide +kernel)
   have l1:=emod_nonneg (d / 12) (show (2:Int) ≠ 0 by decide)
   have l2:=emod_lt_of_pos (d / 12) (show (0:Int) < 2 by decide)
   dsimp only
   generalize d % 10 ^ (60:Int).toNat=wd at w1 w2 ⊢
   have hwd:Hu (.int wd)=true:=by
    unfold Hu
    exact decide_eq_true (by rw[if_neg (by omega)];exact w2)
   obtain⟨len,hlen,MK⟩:∃ len:Int,1 + d / 12 % 2=len/\1 <= len/\len <= 2:=⟨_,rfl,by omega,by omega⟩
   rw[hlen]
   have gd:=pZ (n:=a.n) (wy:=a.wy) (m:=s2.U.length) Rr Rt ⟨MK.1,by omega⟩ hwd Dc hw (by omega)
   refine⟨a.y,a.dy,a.tb,a.ro,a.la,a.le,a.li,a.dn,a.lx,a.zb,a.lt,a.n,a.yH,a.ps,a.wy,s2, .int a', .int b', .int len, .int wd,rfl,C8.Y,C8.T, .int _, .int _, .int _, .int _,by omega,by omega,(fun h=>by rw[gd]at h;cases h),(fun h=>by rw[gd]at h;cases h),(fun h=>by rw[gd]at h;cases h),(fun h=>by rw[gd]at h;cases h),(fun h=>by rw[gd]at h;cases h),fun _ H5 o5 HA=>?_⟩
   have VA:=hh.J.post (x:=a') (y:=b') (l:=len) (u:=wd) Rr Rt ⟨by omega,by omega⟩ (by omega)
   refine⟨_,_,_,_,jC s2 a' b' len wd,⟨fT V9 o5 fun z hz=>V6 z (two z hz),⟨HA,zj.keep W C8.T (yG.yF (fun z hz=>C8.Y.AD z (two z hz)) o5),C8.O,VA.ok⟩,VA,hh.R⟩,?_,?_,rfl⟩
   ·show(s2.U ++ [_]).length <= _
    rw[length_append,length_singleton];omega
   ·show(s2.done ++ [_]).length <= _
    rw[length_append,length_singleton];omega
  rintro σ H2 ⟨a6,a7,a8,a9,s2,hh,h1,h2,rfl⟩
  refine⟨_,rfl,_,rfl,_,rfl,sc,ns,6,rfl,hh.e.seq hS,fun d7=>⟨_,_,rfl,rfl,⟨by decide,by decide⟩,_,_,rfl,rfl,(by show (0:Int) < 5;decide),_,_,rfl,rfl,?_⟩⟩
  obtain⟨jj,hjj,hj1,hj2⟩:∃ jj:Nat,8 + d7 / 3 % 5=(jj:Int)/\8 <= jj/\jj <= 12:=⟨(8 + d7 / 3 % 5).toNat,by omega,by omega,by omega⟩
  obtain⟨ms,hms,FO⟩:=tP ns 8 jj
  refine⟨(jj:Int),congrArg V.int hjj,sc,_,rfl,hh.e.seq hS,fun cs Ru=>?_⟩
  rw[show gh (ns.map V.int) (some 8) (some (jj:Int))=ms.map V.int from hms]
  have u3:=(y1.refl H2).new (o := .lst (ms.map V.int)) Ru
  have GN:(upd H2 cs (.lst (ms.map V.int))) cs=some (.lst (ms.map V.int)):=ac
  have ncs:cs ∉ a.four:=sO hh.I.Y Ru
  generalize upd H2 cs (.lst (ms.map V.int))=H3 at u3 GN ⊢
  refine⟨cs,rfl,⟨_,y6.of GN⟩,?_⟩
  refine cx (K:=K) (a:=cs) (xs:=ms.map V.int) (fun i σ H2=>∃ (b0:Option V)(s2:YS),YH K c TC J ys a (rs.map V.int) H H2 s2/\H2 cs=some (.lst (ms.map V.int))/\s2.done.length <= 3 + i/\σ=[some (.ref sc),some (.ref a.tb),some (.ref l),some (.int a.n),some (.ref Ro),some (.ref a.y),a6,a7,a8,a9,b0])
   ⟨none,s2,⟨hh.e.trans u3,hh.I.same W u3,hh.J,hh.R⟩,GN,by omega,rfl⟩ (fun i σ H' _ y8=>by obtain⟨_,_,_,g,_⟩:=y8;exact y6.of g) ?_ ?_
  rotate_left
  ·rintro σ H4 ⟨b0,s4,h4,_,hd4,rfl⟩
   rw[length_map]at hd4
   exact⟨_,rfl,q a s4 H4 h4.e rfl rfl h4.I h4.J (by rw[h4.R];exact sK Cy K7) (by omega)⟩
  clear hh h1 h2 Ru u3 GN
  rintro i v σ H2 hv ⟨b0,s2,hh,GN,hd,rfl⟩
  have hi:i < ms.length:=by have:=(gQ0 hv);rw[length_map]at this;exact this
  obtain⟨d,rfl⟩:∃ d,v=V.int d:=by
   rw[getElem?_map,getElem?_eq_getElem hi]at hv
   exact⟨_,(Option.some.inj hv).symm⟩
  refine⟨_,rfl,a.y,a.dy,_,rfl,hh.I.Y.ins,rfl,a,s2,rfl,hh.I,fun Dm yQ H3 s3 HN G7 pM=>⟨zero_le _,fun o ho=>?_⟩⟩
  have s4:=s3.new (o := .lst []) ho
  have u4:=(y1.refl H3).new (o := .lst []) ho
  have g4:(upd H3 o (.lst [])) o=some (.lst []):=ac
  generalize upd H3 o (.lst [])=H4 at s4 u4 g4 ⊢
  refine neN (f:=qK) (l:=aI a s2) (.lst (y6.of (u4 _ _ G7)) (eT (Paired.mono (fun _ _ z=>z.keep (y1.yF u4)) pM))) (.lst (y6.of g4) .nil) (oT _) ⟨_,rfl,?_⟩
  have C8:=hh.I.same W s4
  cases VB:(aI a s2).isEmpty with
  | true=>exact aF ⟨_,s2,⟨hh.e.trans s4,C8,hh.J,hh.R⟩,s4 _ _ GN,by omega,rfl⟩
  | false =>
  have hpos:0 < (aI a s2).length:=by
   cases h:aI a s2 with
   | nil=>rw[h]at VB;cases VB
   | cons _ _=>simp
  refine aK ⟨_,rfl,a.y,a.dy,_,rfl,C8.Y.ins,rfl,_,rfl,a.y,a.dy,_,rfl,C8.Y.ins,rfl,a,s2,rfl,C8,fun D1 VC H5 s5 _ g1 p1=>?_⟩
  have Rv:=C8.same W s5
  refine⟨_,rfl,_,rfl,a.y,a.dy,_,rfl,Rv.Y.ins,rfl,a,s2,rfl,Rv,fun D2 Ew H6 s6 _ g2 p2=>?_⟩
  have GO:=Rv.same W s6
  have HB:VC.length=(aI a s2).length:=by rw[Paired.length p1,length_map]
  have C9:Ew.length=(aI a s2).length:=by rw[Paired.length p2,length_map]
  have e1:=emod_nonneg d (show((Ew.length:Nat):Int) ≠ 0 by omega)
  have e2:=emod_lt_of_pos d (show (0:Int) < ((Ew.length:Nat):Int) by omega)
  obtain⟨z,hz,VD⟩:∃ z:Nat,d % ((Ew.length:Nat):Int)=(z:Int)/\z < (aI a s2).length:=⟨(d % ((Ew.length:Nat):Int)).toNat,by omega,by omega⟩
  obtain⟨v1,P1,mt,Rx,gmt⟩:=Paired.at2 p1 (show((aI a s2).map cv)[z]? = some (cv (aI a s2)[z]) by rw[getElem?_map,getElem?_eq_getElem VD];rfl)
  subst Rx
  refine⟨D2,Ew,rfl, .inl (y6.of g2),_,_,rfl,rfl,(by show (0:Int) < ((Ew.length:Nat):Int);omega),?_⟩
  dsimp only
  rw[hz]
  refine⟨D1,VC,(z:Int),_,rfl,rfl,y6.of (s6 _ _ g1),ak P1,a,s2,mt,(aI a s2)[z],rfl,GO,s6 _ _ gmt,getElem_mem VD,hh.J.U6 (by omega),fun H7 s' En o7 hY7=>?_⟩
  have Ia:=s4.trans (s5.trans s6)
  have VE:=(hh.J.step En).done (s2.done ++ [cv (aI a s2)[z]])
  refine⟨_,{ s' with done:=s2.done ++ [cv (aI a s2)[z]] },⟨fT (hh.e.trans Ia) o7 V6,⟨hY7,zj.keep W GO.T (yG.yF (fun z hz=>GO.Y.AD z hz) o7),GO.O,VE.ok⟩,VE,by rw[← hh.R];exact En.rooms⟩,o7 _ _ ncs (Ia _ _ GN),?_,rfl⟩
  show(s2.done ++ [_]).length <= _
  rw[length_append,length_singleton];omega
noncomputable def Ry:Rs->PyData
 | .more => .tuple [.str "more"]
 | .ends => .tuple [.str "ends"]
 | .zh p => .tuple [.str "still", .list (p.map qK)]
theorem gw (r:Rs):AW (Ry r) 64:=by
 cases r with
 | more=>exact(eJ (m:=0) fun y hy=>by rw[mem_singleton.mp hy];exact dO (by decide +kernel)).le (by decide)
 | ends=>exact(eJ (m:=0) fun y hy=>by rw[mem_singleton.mp hy];exact dO (by decide +kernel)).le (by decide)
 | zh p =>
  refine(eJ (m:=2) fun y hy=>?_).le (by decide)
  simp only[mem_cons,not_mem_nil,or_false]at hy
  rcases hy with rfl | rfl
  ·exact(dO (by decide +kernel)).le (by decide)
  ·exact iJ (m:=1) fun z hz=>by
    obtain⟨m,_,rfl⟩:=mem_map.mp hz
    exact iI m
theorem tL {K:Frag}{H0 H:Hp}{v:V}{r:Rs}(h:Vg H0 H v r):Den K H v (Ry r):=by
 cases r with
 | more=>obtain⟨t,rfl,_,g⟩:=h;exact .tup (yD.of g) (.cons (.str _) .nil)
 | ends=>obtain⟨t,rfl,_,g⟩:=h;exact .tup (yD.of g) (.cons (.str _) .nil)
 | zh p=>obtain⟨t,D,yQ,rfl,_,g,_,gD,pD⟩:=h;exact .tup (yD.of g) (.cons (.str _) (.cons (.lst (y6.of gD) (eT pD)) .nil))
mutual
theorem Den.same {K:Frag}{H H':Hp}(s:y1 H H'):∀ {v:V}{d:PyData},Den K H v d->Den K H' v d
 | _,_, .yK => .yK
 | _,_, .bl b => .bl b
 | _,_, .int i => .int i
 | _,_, .str x => .str x
 | _,_, .lst h r => .lst (s.seq h) (zU.same s r)
 | _,_, .tup h r => .tup (b6 s h) (zU.same s r)
theorem zU.same {K:Frag}{H H':Hp}(s:y1 H H'):∀ {vs:List V}{ds:List PyData},zU K H vs ds->zU K H' vs ds
 | _,_, .nil => .nil
 | _,_, .cons h r => .cons (Den.same s h) (zU.same s r)
end
theorem GH.same {H H':Hp}{v:V}{cnt:Nat}{mv:Option (List Mv)}{th:Bool}(s:y1 H H')(h:GH H v cnt mv th):GH H' v cnt mv th:=by
 obtain⟨t,x,e,g,h⟩:=h
 refine⟨t,x,e,s _ _ g,?_⟩
 cases mv with
 | none=>exact h
 | some p=>obtain⟨D,yQ,e,gD,pD⟩:=h;exact⟨D,yQ,e,s _ _ gD,Paired.mono (fun v x z=>z.keep (y1.yF s)) pD⟩
theorem Tr.pl {a:YA}{s:YS}{n:Nat}{c:i3}(h:Tr a s n c):∀ (i:Nat)(e:cC),c.L[i]? = some e->e.p.length <= i:=by
 induction h with
 | nil =>
  intro i e h
  have hi:=(gQ0 h)
  obtain rfl:i=0:=by
   have:i < 1:=hi
   omega
  cases h
  exact le_refl _
 | snoc t n ih =>
  cases n with
  | skip=>exact ih
  | next=>exact ih
  | @new L i j s' p h1 h2 =>
   obtain⟨e0,m,VF,_,_,_,rfl⟩:=h1
   intro z x hx
   have hl:=(gQ0 VF)
   by_cases hz:z < L.length
   ·have hx:(L ++ [_])[z]? = some x:=hx
    rw[getElem?_append_left hz]at hx
    exact ih z x hx
   ·have hx:(L ++ [(⟨s',e0.p ++ [m]⟩:cC)])[z]? = some x:=hx
    have:=(gQ0 hx)
    rw[length_append,length_singleton]at this
    obtain rfl:z=L.length:=by omega
    rw[getElem?_concat_length]at hx
    cases hx
    have:=ih i e0 VF
    have hl:i < L.length:=hl
    rw[length_append,length_singleton]
    omega
theorem Lr.DC {a:YA}{s:YS}{cnt:Nat}{mv:Option (List Mv)}{th:Bool}(h:Lr a s cnt mv th):1 <= cnt/\cnt <= 31/\∀ p,mv=some p->p.length <= 31:=by
 cases h with
 | now=>exact⟨by decide,by decide,fun p e=>by cases e;exact zero_le _⟩
 | Q8 h0 h1 h2 h3 h4 =>
  refine⟨by omega,by omega,fun p e=>?_⟩
  cases e
  obtain⟨e,m,he,_,_,_,rfl⟩:=h2
  have:=h1.pl _ e he
  have hl:=(gQ0 he)
  rw[length_append,length_singleton]
  omega
 | cut=>exact⟨by decide,by decide,fun p e=>by cases e⟩
 | fin h0 h1 h2 h3 h4=>exact⟨h4,by omega,fun p e=>by cases e⟩
theorem qA {most cnt:Nat}{mv:Option (List Mv)}{th:Bool}{p:List Mv}(h:fL most cnt mv th = .zh p):mv=some p:=by
 unfold fL at h
 cases mv with
 | none =>
  simp only at h
  split at h<;>cases h
 | some p' =>
  simp only at h
  split at h<;>cases h
  rfl
noncomputable def vT (K:Frag):Sp:=fun vs H Q _=>∃ (most:Nat)(v:V)(cnt:Nat)(mv:Option (List Mv))(th:Bool),vs=[.int (most:Int),v]/\GH H v cnt mv th/\∀ (u:V)(H':Hp),y1 H H'->Den K H' u (Ry (fL most cnt mv th))->Q u H'
noncomputable def oO (K:Frag):Sp:=fun vs H Q _=>∃ (a:Addr)(ns:List Int),vs=[.ref a]/\y6 K H a (ns.map V.int)/\ns.length <= 63/\∀ H',Q (.bl true) H'
abbrev NLw:List Str:=["_law_script", "_law_places", "_law_lanes_here", "_law_table_here", "_law_yard_here", "_law_reached", "_law_count", "_law_drawn", "_law_most", "_law_due_here", "_law_found"]
structure Fns (P:Program)(w:World)(K:Frag)(mg:Str->Option Value)(base:Heap)(c:Cs)(ts:Ts)(ys:Ys)(fc fl ft fy fg fu fs:Addr)(dc dl dt dy dg du ds:FuncData):Prop where
 mc:mg "_law_cell_at" = some (.ref fc)
 kc:keepIn K (.ref fc)=true
 bc:Binds K dc ["_law_script", "_law_k"] []
 Gc:y2 P w K mg base az 1 fc dc ["_law_script", "_law_k"] (k4 K)
 ml:mg "_law_lanes" = some (.ref fl)
 kl:keepIn K (.ref fl)=true
 bl:Binds K dl ["_law_script", "_law_places"] []
 Gl:y2 P w K mg base az 3 fl dl ["_law_script", "_law_places"] (oP K)
 mt:mg "_law_table" = some (.ref ft)
 kt:keepIn K (.ref ft)=true
 bt:Binds K dt ["_law_lanes_here", "_law_places", "_law_cell"] []
 Gt:y2 P w K mg base az 7 ft dt ["_law_lanes_here", "_law_places", "_law_cell"] (rn P w c ts)
 my:mg "_law_yard" = some (.ref fy)
 ky:keepIn K (.ref fy)=true
 Nj:Binds K dy ["_law_script", "_law_table_here", "_law_lanes_here", "_law_places"] []
 Gy:y2 P w K mg base az 9 fy dy ["_law_script", "_law_table_here", "_law_lanes_here", "_law_places"] (oR K c ts.told (yN P w ts) ys)
 PX:mg "_law_gone_over" = some (.ref fg)
 kg:keepIn K (.ref fg)=true
 bg:Binds K dg ["_law_yard_here", "_law_lanes_here", "_law_places"] []
 Gg:y2 P w K mg base az 10 fg dg ["_law_yard_here", "_law_lanes_here", "_law_places"] (r9 K c ts.told (yN P w ts) ys)
 mu:mg "_law_due" = some (.ref fu)
 ku:keepIn K (.ref fu)=true
 bu:Binds K du ["_law_most", "_law_reached"] []
 Gu:y2 P w K mg base az 1 fu du ["_law_most", "_law_reached"] (vT K)
 ms:mg "search" = some (.ref fs)
 ks:keepIn K (.ref fs)=true
 bs:Binds K ds ["yard", "most"] []
 Gs:y2 P w K mg base az 9 fs ds ["yard", "most"] (l9 K c ts.told (yN P w ts) ys)
theorem Ey:ap ["_law_most", "_law_reached", "_law_count", "_law_moves", "_law_through"] ["_law_most", "_law_reached"] (aj wR):=L2.yW
theorem xC {f:Addr}{fd:FuncData}(F:yS K "_law_due" "_law_due" wR f fd):y2 P w K mg base az 1 f fd ["_law_most", "_law_reached"] (vT K):=by
 refine F.ok Ey (fun vs H Q E h=>?_) (fun cdv Ar outer s0 H vs Q E hr h=>?_)
 ·obtain⟨most,v,cnt,mv,th,rfl,_⟩:=h
  rfl
 ·obtain⟨most,v,cnt,mv,th,rfl,⟨t,x,rfl,gt,hx⟩,q⟩:=h
  refine⟨_,(ae (iX (pv 1) (gE rfl (bF (ay (i:=2) Ey.nd rfl (Or.inl rfl)) (bF (ay (i:=3) Ey.nd rfl (Or.inl rfl)) (bF (ay (i:=4) Ey.nd rfl (Or.inl rfl)) eM)))))
   (ae (aP (PW.pt (gA (ax ir (pv 3) bS (aB _)) (fX (ax oY (pv 0) (pv 2) (aB _)))))
    (ah (ar (aW (aa bP (aa (pv 3) ad)))))
    aD)
   (ae (aP (PW.pt (gA (ax jc (pv 3) bS (aB _)) (gA (bD (pv 4)) (fX (ax oY (pv 0) (pv 2) (aB _))))))
    (ah (ar (aW (aa bP ad))))
    aD)
   (ah (ar (aW (aa bP ad))))))),?_⟩
  have more:∀ {t2:Addr},H t2=none->fL most cnt mv th = .more->Q (.ref t2) (upd H t2 (.tup [.str "more"])):=fun {t2} zq e=>q _ _ ((y1.refl H).new zq) (by rw[e];exact .tup (yD.of ac) (.cons (.str _) .nil))
  refine⟨_,rfl,t,_,rfl,yD.of gt,rfl,_,_,rfl,_,_,rfl,_,_,rfl,rfl,?_⟩
  cases mv with
  | some p =>
   obtain⟨D,yQ,rfl,gD,pD⟩:=hx
   refine⟨_,rfl,rfl,_,rfl,aK ⟨_,rfl,_,rfl,_,_,rfl,rfl,_,rfl,?_⟩⟩
   by_cases hc:cnt <= most
   ·rw[decide_eq_true (show (cnt:Int) <= (most:Int) by omega)]
    refine aK ⟨_,rfl,by show 2 <= sizeLine;decide,fun t2 zq=>q _ _ ((y1.refl H).new zq) ?_⟩
    unfold fL
    simp only
    rw[if_pos hc]
    exact .tup (yD.of ac) (.cons (.str _) (.cons (.lst (y6.of ((y1.refl H).new zq _ _ gD)) (eT (Paired.mono (fun v x z=>z.keep (y1.yF ((y1.refl H).new zq))) pD))) .nil))
   ·rw[decide_eq_false (show ¬ (cnt:Int) <= (most:Int) by omega)]
    refine aF ⟨_,rfl,rfl,_,rfl,aF (aF ⟨by show 1 <= sizeLine;decide,fun t2 zq=>more zq ?_⟩)⟩
    unfold fL
    simp only
    rw[if_neg hc]
  | none =>
   subst hx
   refine⟨_,rfl,rfl,_,rfl,aF (aF ⟨_,rfl,rfl,_,rfl,aK ⟨_,rfl,_,rfl,?_⟩⟩)⟩
   cases th with
   | false=>exact aF (aF ⟨by show 1 <= sizeLine;decide,fun t2 zq=>more zq rfl⟩)
   | true =>
    refine aK ⟨_,rfl,_,rfl,_,_,rfl,rfl,_,rfl,?_⟩
    by_cases hc:cnt <= most
    ·rw[decide_eq_true (show (cnt:Int) <= (most:Int) by omega)]
     refine aK ⟨by show 1 <= sizeLine;decide,fun t2 zq=>q _ _ ((y1.refl H).new zq) ?_⟩
     unfold fL
     simp only
     rw[if_pos ⟨trivial,hc⟩]
     exact .tup (yD.of ac) (.cons (.str _) .nil)
    ·rw[decide_eq_false (show ¬ (cnt:Int) <= (most:Int) by omega)]
     refine aF ⟨by show 1 <= sizeLine;decide,fun t2 zq=>more zq ?_⟩
     unfold fL
     simp only
     rw[if_neg (fun z=>hc z.2)]
theorem AJ:ap NLw ["_law_script"] (aj kH):=L2.yW
theorem xz {c:Cs}{ts:Ts}{ys:Ys}{f fw fc fl ft fy fg fu fs:Addr}{fd dw dc dl dt dy dg du ds:FuncData}(F:yS K "law" "law" kH f fd)(T:dJ mg)(W:Wy K ts.told fw dw (yN P w ts))(D:Fns P w K mg base c ts ys fc fl ft fy fg fu fs dc dl dt dy dg du ds) :
  y2 P w K mg base az 11 f fd ["_law_script"] (oO K):=by
 refine F.ok AJ (fun vs H Q E h=>?_) (fun cdv Ar outer s0 H vs Q E hr h=>?_)
 ·obtain⟨a,ns,rfl,_⟩:=h
  rfl
 ·obtain⟨sc,ns,rfl,hS,_,q⟩:=h
  have hu:=hr.units
  have zi:yC 1 _:=hr.mono (by decide)
  have zV:yC 1 _:=hr.mono (by decide)
  have HX:yC 3 _:=hr.mono (by decide)
  have CI:yC 7 _:=hr.mono (by decide)
  have Rz:yC 9 _:=hr.mono (by decide)
  refine⟨_,(ae (aw (i:=1) AJ.nd rfl (Or.inl rfl) (aA bG ai (aA bC (av D.Gc zi rfl D.mc D.kc D.bc .nil ao (aa (pv 0) (aa ai ad))) ai)))
   (ae (aw (i:=2) AJ.nd rfl (Or.inl rfl) (av D.Gl HX rfl D.ml D.kl D.bl .nil ao (aa (pv 0) (aa (pv 1) ad))))
   (ae (aw (i:=3) AJ.nd rfl (Or.inl rfl) (av D.Gt CI rfl D.mt D.kt D.bt .nil ao (aa (pv 2) (aa (pv 1) (aa (av D.Gc zi rfl D.mc D.kc D.bc .nil ao (aa (pv 0) (aa ai ad))) ad)))))
   (ae (aw (i:=4) AJ.nd rfl (Or.inl rfl) (av D.Gy Rz rfl D.my D.ky D.Nj .nil ao (aa (pv 0) (aa (pv 3) (aa (pv 2) (aa (pv 1) ad))))))
   (ae (aw (i:=5) AJ.nd rfl (Or.inl rfl) (av D.Gg hr rfl D.PX D.kg D.bg .nil ao (aa (pv 4) (aa (pv 2) (aa (pv 1) ad)))))
   (ae (aw (i:=6) AJ.nd rfl (Or.inl rfl) (aC aE (pv 5) ai (fun _ _=>rfl)))
   (ae (aw (i:=7) AJ.nd rfl (Or.inl rfl) (aA bG ai (aA bC (av D.Gc zi rfl D.mc D.kc D.bc .nil ao (aa (pv 0) (aa ai ad))) (au (jS rfl) rfl T.max PyProof.Rows.boot_max (aa ai (aa (pv 6) ad))))))
   (ae (bL PassesOwn.never rfl (bz (aU (aa (pv 6) (aa (au (jS rfl) rfl T.max PyProof.Rows.boot_max (aa ai (aa (aA cT (pv 6) ai) ad))) (aa (aA bG (pv 6) ai) (aa (pv 7) ad)))))) (ay (i:=8) AJ.nd rfl (Or.inl rfl))
    (ah (aP (ga (PW.pt (iT (ax lO (pv 8) (pv 6) (aB _)) (fH (bD (aC aE (pv 5) ai (fun _ _=>rfl)))))))
    (ae (aw (i:=9) AJ.nd rfl (Or.inl rfl) (av D.Gu zV rfl D.mu D.ku D.bu .nil ao (aa (pv 8) (aa (pv 5) ad))))
   (ae (aw (i:=10) AJ.nd rfl (Or.inl rfl) (av D.Gs Rz rfl D.ms D.ks D.bs .nil ao (aa (pv 4) (aa (pv 8) ad))))
   (ae (aP (ax (kT hu) (pv 10) (pv 9) (aB _))
    (ah (ar dA))
    aD)
   (ah (aP (ax oX (au aq rfl T.len PySem.boot_len (aa (pv 10) ad)) ai (aB _))
    (ae (aL (bV plainAttrs_list PySem.F.slot_list_append PySem.F.type_list_append aV (aC aE (pv 10) ai (fun _ _=>rfl)) (aa (aW (aa bP (aa ai ad))) ad)))
   (ah (aP (ax (kT hu) (av D.Gs Rz rfl D.ms D.ks D.bs .nil ao (aa (pv 4) (aa (pv 8) ad))) (av D.Gu zV rfl D.mu D.ku D.bu .nil ao (aa (pv 8) (aa (pv 5) ad))) (aB _))
    (ah (ar dA))
    aD)))
    aD)))))
    aD)))
   (ah (ar dA)))))))))),?_⟩
  refine⟨_,rfl,sc,ns,0,rfl,hS,fun d0=>⟨_,_,rfl,rfl,(by show (0:Int) < 2;decide),_,_,rfl,rfl,?_⟩⟩
  obtain⟨n,hn,CN,V4⟩:∃ n:Nat,(2:Int) + d0 % 2=(n:Int)/\2 <= n/\n <= 3:=⟨(2 + d0 % 2).toNat,by omega,by omega,by omega⟩
  show cf 1 (V.int (2 + d0 % 2)) _ _ _
  rw[hn]
  refine⟨_,rfl,_,rfl,sc,ns,n,rfl,hS,CN,by omega,fun l yB ps H1 s1 nl gl BS yE MS V3=>?_⟩
  have As:yB.length=ps.length:=Paired.length BS
  refine⟨_,rfl,_,rfl,_,rfl,sc,ns,2,rfl,s1.seq hS,fun d1=>⟨l,yB,ps,n,d1,rfl,gl,BS,yE,by omega,CN,by omega,fun tb xl Au lt yH wy H2 s2 Pb hT Bf=>?_⟩⟩
  have VG:=s1.trans s2
  refine⟨_,rfl,_,rfl,_,rfl,_,rfl,sc,tb,l,xl,Au,lt,ns,yB,yH,ps,n,wy,rfl,VG.seq hS,s2 _ _ gl,As,hT,Bf,yE,V3,CN,V4,fun a s H3 s3 ea en hI hJ hR zD=>?_⟩
  have s03:=VG.trans s3
  refine⟨_,rfl,_,rfl,_,rfl,a,s,l,yB,congrArg (fun z:Nat=>[V.ref a.y,V.ref l,V.int (z:Int)]) en.symm,hI,hJ,hR,by omega,s3 _ _ (s2 _ _ gl),by rw[ea];exact As,fun v H4 cnt mv th s4 R0 CG=>?_⟩
  obtain⟨hc1,hc31,Bq⟩:=R0.DC
  have R1:=CG
  obtain⟨t,x,rfl,gt,_⟩:=R1
  refine⟨_,rfl,t,_,(0:Int),_,rfl,rfl,yD.of gt,rfl,?_⟩
  have s04:=s03.trans s4
  refine⟨_,rfl,sc,ns,7,rfl,s04.seq hS,fun d7=>⟨_,rfl,_,_,rfl,?_⟩⟩
  have Ra:∀ k:Nat,(if (k:Int) > 1 then (k:Int) else 1)=((max 1 k:Nat):Int):=fun k=>by
   by_cases h:(k:Int) > 1
   ·rw[if_pos h];omega
   ·rw[if_neg h];omega
  refine⟨_,_,rfl,rfl,(by show (0:Int) < (if (cnt:Int) > 1 then (cnt:Int) else 1);rw[Ra];omega),_,_,rfl,rfl,?_⟩
  obtain⟨dr,hdr,hdr1,hdr2⟩:∃ dr:Nat,1 + d7 % (if (cnt:Int) > 1 then (cnt:Int) else 1)=(dr:Int)/\1 <= dr/\dr <= 32:=by
   rw[Ra]
   have e1:=emod_nonneg d7 (show((max 1 cnt:Nat):Int) ≠ 0 by omega)
   have e2:=emod_lt_of_pos d7 (show (0:Int) < ((max 1 cnt:Nat):Int) by omega)
   exact⟨(1 + d7 % ((max 1 cnt:Nat):Int)).toNat,by omega,by omega,by omega⟩
  show cf 7 (V.int (1 + d7 % (if (cnt:Int) > 1 then (cnt:Int) else 1))) _ _ _
  rw[hdr]
  obtain⟨k2,MY,hk21,hk22⟩:∃ k2:Nat,(if (cnt:Int) - 1 > 1 then (cnt:Int) - 1 else 1)=(k2:Int)/\1 <= k2/\k2 <= 32:=by
   by_cases h:(cnt:Int) - 1 > 1
   ·rw[if_pos h];exact⟨((cnt:Int) - 1).toNat,by omega,by omega,by omega⟩
   ·rw[if_neg h];exact⟨1,rfl,by decide,by decide⟩
  refine⟨_,rfl,_,rfl,_,_,rfl,rfl,_,_,rfl,_,rfl,_,_,rfl,rfl,_,rfl,by show 4 <= sizeLine;decide,fun M hM=>?_⟩
  have Az:∀ v ∈ [V.int (cnt:Int),V.int (if (cnt:Int) - 1 > 1 then (cnt:Int) - 1 else 1),V.int ((cnt:Int) + 1),V.int (dr:Int)],∃ k:Nat,v=V.int (k:Int)/\1 <= k/\k <= 900:=fun v hv=>by
   simp only[mem_cons,not_mem_nil,or_false]at hv
   rcases hv with rfl | rfl | rfl | rfl
   ·exact⟨cnt,rfl,by omega,by omega⟩
   ·exact⟨k2,by rw[MY],by omega,by omega⟩
   ·exact⟨cnt + 1,rfl,by omega,by omega⟩
   ·exact⟨dr,rfl,by omega,by omega⟩
  generalize Fb:[V.int (cnt:Int),V.int (if (cnt:Int) - 1 > 1 then (cnt:Int) - 1 else 1),V.int ((cnt:Int) + 1),V.int (dr:Int)]=xs at Az
  have s5:y1 H4 (upd H4 M (.lst xs)):=(y1.refl H4).new hM
  have g5:(upd H4 M (.lst xs)) M=some (.lst xs):=ac
  refine⟨M,rfl,⟨_,y6.of g5⟩,?_⟩
  refine cx (K:=K) (a:=M) (xs:=xs) (fun i σ H'=>∃ (a8 a9 b0:Option V),y1 H4 H'/\H' M=some (.lst xs)/\σ=[some (.ref sc),some (.int (n:Int)),some (.ref l),some (.ref tb),some (.ref a.y),some (.ref t),some (.int (cnt:Int)),some (.int (dr:Int)),a8,a9,b0])
   ⟨none,none,none,s5,g5,rfl⟩ (fun i σ H' _ y8=>by obtain⟨_,_,_,_,g,_⟩:=y8;exact y6.of g) ?_ (fun σ H' _=>q _)
  clear s5 g5
  rintro i v σ H5 hv ⟨a8,a9,b0,s5,gM,rfl⟩
  obtain⟨k,rfl,L9,VH⟩:=Az v (mem_of_getElem? hv)
  refine⟨fun b H'=>H' = H5/\(b=true->k <= cnt∨th=true),?_,?_⟩
  ·refine⟨_,rfl,_,rfl,_,_,rfl,rfl,_,rfl,?_⟩
   by_cases h:k <= cnt
   ·rw[decide_eq_true (by omega)]
    exact aK ⟨rfl,fun _ => .inl h⟩
   ·rw[decide_eq_false (by omega)]
    exact aF ⟨_,rfl,t,_,(2:Int),_,rfl,rfl,yD.of (s5 _ _ gt),rfl,_,rfl,rfl,fun h => .inr h⟩
  rintro b H' ⟨rfl,hb⟩
  cases b with
  | false=>exact aF ⟨_,_,_,s5,gM,rfl⟩
  | true =>
  refine aK ?_
  have VI:=hb rfl
  refine⟨_,rfl,_,rfl,k,_,cnt,mv,th,rfl,GH.same s5 CG,fun u1 H6 s6 LA=>?_⟩
  have GO:=hI.same W (s4.trans (s5.trans s6))
  refine⟨_,rfl,_,rfl,a,s,k,rfl,GO,hJ,hR,by omega,L9,VH,fun u2 H7 r s7 hSr Nn=>?_⟩
  have er:=tI L9 R0 hSr VI
  rw[← er]at LA
  refine⟨_,rfl,_,rfl,_,_,tL Nn,Den.same s7 LA,(gw _).shaped (le_refl _),(gw _).shaped (le_refl _),_,rfl,?_⟩
  rw[SeqAt.eqv_refl _ (gw _).1]
  refine aF ?_
  have Np:=s6.trans s7
  cases r with
  | more =>
   obtain⟨t2,rfl,_,g2⟩:=Nn
   exact⟨_,rfl,t2,_,rfl, .inr (yD.of g2),_,_,rfl,rfl,_,rfl,aF ⟨_,_,_,s5.trans Np,Np _ _ gM,rfl⟩⟩
  | ends =>
   obtain⟨t2,rfl,_,g2⟩:=Nn
   exact⟨_,rfl,t2,_,rfl, .inr (yD.of g2),_,_,rfl,rfl,_,rfl,aF ⟨_,_,_,s5.trans Np,Np _ _ gM,rfl⟩⟩
  | zh p =>
  obtain⟨t2,Dd,yQ,rfl,_,g2,Ff,gD,pD⟩:=Nn
  have hpl':=Bq p (qA er.symm)
  have FO:yQ.length=p.length:=by rw[Paired.length pD,length_map]
  refine⟨_,rfl,t2,_,rfl, .inr (yD.of g2),_,_,rfl,rfl,_,rfl,aK ?_⟩
  refine⟨_,rfl,t2,_,(1:Int),_,rfl,rfl,yD.of g2,rfl, .inl ⟨rfl,_,y6.of gD⟩,by show 2 <= sizeLine;decide,fun u MB=>?_⟩
  have u8:=(y1.refl H7).new (o := .tup [.str "back", .int 0]) MB
  generalize upd H7 u (.tup [.str "back", .int 0])=H8 at u8 ⊢
  refine⟨Dd,yQ,_,rfl,rfl,u8 _ _ gD,by rw[sizeLine_eq];omega,?_⟩
  have R3:y1 H6 (upd H8 Dd (.lst (yQ ++ [.ref u]))):=fun b o e=>by rw[af (ag e Ff)];exact u8 _ _ (s7 _ _ e)
  generalize upd H8 Dd (.lst (yQ ++ [.ref u]))=H9 at R3 ⊢
  refine⟨_,rfl,_,rfl,a,s,k,rfl,GO.same W R3,hJ,hR,by omega,L9,VH,fun u3 CT r3 IZ R4 R5=>?_⟩
  have VJ:=R3.trans IZ
  refine⟨_,rfl,_,rfl,k,_,cnt,mv,th,rfl,GH.same (s5.trans (s6.trans VJ)) CG,fun u4 HU HV LB=>?_⟩
  have er3:=tI L9 R0 R4 VI
  rw[← er3]at LB
  refine⟨_,_,Den.same HV (tL R5),LB,(gw _).shaped (le_refl _),(gw _).shaped (le_refl _),_,rfl,?_⟩
  rw[SeqAt.eqv_refl _ (gw _).1]
  have VL:=s6.trans (VJ.trans HV)
  exact aF ⟨_,_,_,s5.trans VL,VL _ _ gM,rfl⟩
theorem len_of1 {α:Type}{P:List α->Prop}(h:∀ a0,P [a0]):∀ us:List α,us.length=1->P us
 | [a0],_=>h a0
theorem len_of2 {α:Type}{P:List α->Prop}(h:∀ a0 a1,P [a0,a1]):∀ us:List α,us.length=2->P us
 | [a0,a1],_=>h a0 a1
theorem len_of3 {α:Type}{P:List α->Prop}(h:∀ a0 a1 a2,P [a0,a1,a2]):∀ us:List α,us.length=3->P us
 | [a0,a1,a2],_=>h a0 a1 a2
theorem len_of4 {α:Type}{P:List α->Prop}(h:∀ a0 a1 a2 a3,P [a0,a1,a2,a3]):∀ us:List α,us.length=4->P us
 | [a0,a1,a2,a3],_=>h a0 a1 a2 a3
theorem len_of5 {α:Type}{P:List α->Prop}(h:∀ a0 a1 a2 a3 a4,P [a0,a1,a2,a3,a4]):∀ us:List α,us.length=5->P us
 | [a0,a1,a2,a3,a4],_=>h a0 a1 a2 a3 a4
structure FT (K:Frag)(mg:Str->Option Value)(n:Str)(st:Stmt)(ps:List Str)(f:Addr)(fd:FuncData):Prop where
 F:yS K n n st f fd
 m:mg n=some (.ref f)
 k:keepIn K (.ref f)=true
 b:Binds K fd ps []
structure FM (K:Frag)(C:Addr)(n q:Str)(st:Stmt)(ps:List Str)(f:Addr)(fd:FuncData):Prop where
 F:yS K n q st f fd
 m:bB K C n f
 b:Binds K fd ps []
section
variable {K:Frag}{mg:Str->Option Value}{C f:Addr}{n q:Str}{st:Stmt}{ps:List Str}{h:Heap}{oc:Value}{od an:Option Addr}{Cb:Array (Option Value)}{kV doc pm cdv ct:Value}
theorem mkT (X:K.In h)(G:h.Ns mainGlobals mg)(hb:∀ (kV doc pm:Value) (an:Option Addr) (cdv ct:Value) (us:List Value),us.length=ps.length->bindArgs (fnOf n n (bU st) (aM st) (aj st) .none kV doc pm an cdv ct) ⟨us,[]⟩ = pure (ps.zip us))
  (a:nsIn K mainGlobals n=some (some (.ref f))) (l:K.lookup f=some ⟨oc,od, .func (fnOf n n (bU st) (aM st) (aj st) .none kV doc pm an cdv ct),Cb⟩) (c:codeIn K cdv n=true) (k:keepIn K (.ref f)=true):∃ fd,FT K mg n st ps f fd :=
 ⟨_,jo l c k,mg_of X G a,k,(jo l c k).binds hb⟩
theorem mkM (hb:∀ (kV doc pm:Value) (an:Option Addr) (cdv ct:Value) (us:List Value),us.length=ps.length->bindArgs (fnOf n q (bU st) (aM st) (aj st) .none kV doc pm an cdv ct) ⟨us,[]⟩ = pure (ps.zip us))
  (a:findIn K (.ref C) n=some (some (.ref f))) (l:K.lookup f=some ⟨oc,od, .func (fnOf n q (bU st) (aM st) (aj st) .none kV doc pm an cdv ct),Cb⟩) (c:codeIn K cdv q=true) (k:keepIn K (.ref f)=true) (i:isFn K (.ref f)=true):∃ fd,FM K C n q st ps f fd :=
 ⟨_,jo l c k,⟨a,i,k⟩,(jo l c k).binds hb⟩
end
section
variable {l:PySem.W.OpenLaw}{w:World}{K:Frag}{h:Heap}{mg:Str->Option Value}{fa cL cB cD cA cH cJ f1 f2 f3 f4 f5 f6 f7 f8 f9 VM M6 VN VO VP VQ VR VS VT VU VW VX VY VZ Wc Wd We R6 R7 R8 Wg R9 Nq RA RB RC Wh RD Wi RE RF Wj Wk RG Wl GP Ib Wm RH RI RJ RK Wo RL Wq RM RN RO RP RQ Wr Ws Wt Wu Wv Ww Wx Wz W0:Addr}{t1 t2 t3 t4 t5:Tok}
theorem all_mk (X:K.In h)(G:h.Ns mainGlobals mg)(hfa:mg "law" = some (.ref fa))
  {RS LC RT LD RU LF:Option Addr} {RV RW RX:Array (Option Value)} {RY LG LH LI GQ LJ RZ LK LL LM GR LN Sa LO LP LQ GS LR:Value}
  {LS LU:Addr} {Sb Sd:Value} {Se Sf:Option Addr} {Sh Si:Nat} {Sj:Tok}  {Sl Sm:Array (Option Value)}
  (gcL:nsIn K mainGlobals "Land" = some (some (.ref cL)))
  (gcB:nsIn K mainGlobals "Table" = some (some (.ref cB)))
  (gcD:nsIn K mainGlobals "Told" = some (some (.ref cD)))
  (gcA:nsIn K mainGlobals "Lane" = some (some (.ref cA)))
  (gcH:nsIn K mainGlobals "Letter" = some (some (.ref cH)))
  (gcJ:nsIn K mainGlobals "Yard" = some (some (.ref cJ)))
  (h1:∃ d,FT K mg "has" ul ["some", "number"] f1 d)
  (h2:∃ d,FT K mg "members" rO ["some"] f2 d)
  (h3:∃ d,FT K mg "set_of" wH ["numbers"] f3 d)
  (h4:∃ d,FT K mg "is_whole" fE ["value"] f4 d)
  (h5:∃ d,FT K mg "is_within" io ["value", "least", "most"] f5 d)
  (h6:∃ d,FT K mg "is_one_of" wJ ["value", "numbers"] f6 d)
  (h7:∃ d,FT K mg "are_two_places" wF ["places", "one", "other"] f7 d)
  (h8:∃ d,FT K mg "row_fits" lH ["land", "row"] f8 d)
  (h9:∃ d,FT K mg "onward" OO ["table", "lane", "goal"] f9 d)
  (h10:∃ d,FT K mg "rooms_of" fF ["land", "rooms"] VM d)
  (h11:∃ d,FT K mg "is_word" rD ["word"] M6 d)
  (h12:∃ d,FT K mg "is_move" lE ["move"] VN d)
  (h13:∃ d,FT K mg "still" nv ["yard"] VO d)
  (h14:∃ d,FT K mg "moves_to" rN ["steps", "number"] VP d)
  (h15:∃ d,FT K mg "search" kD ["yard", "most"] VQ d)
  (h16:∃ d,FT K mg "_law_cell_at" rV ["_law_script", "_law_k"] VR d)
  (h17:∃ d,FT K mg "_law_mixed" wK ["_law_cell", "_law_k"] VS d)
  (h18:∃ d,FT K mg "_law_draws" nJ ["_law_cell", "_law_amount", "_law_base"] VT d)
  (h19:∃ d,FT K mg "_law_lanes" nD ["_law_script", "_law_places"] VU d)
  (h20:∃ d,FT K mg "_law_table" iP ["_law_lanes_here", "_law_places", "_law_cell"] VW d)
  (h21:∃ d,FT K mg "_law_yard" iO ["_law_script", "_law_table_here", "_law_lanes_here", "_law_places"] VX d)
  (h22:∃ d,FT K mg "_law_key" wP ["_law_yard_here", "_law_lanes_here", "_law_places"] VY d)
  (h23:∃ d,FT K mg "_law_still" kI ["_law_yard_here"] VZ d)
  (h24:∃ d,FT K mg "_law_next" rM ["_law_stand"] Wc d)
  (h25:∃ d,FT K mg "_law_gone_over" rT ["_law_yard_here", "_law_lanes_here", "_law_places"] Wd d)
  (h26:∃ d,FT K mg "_law_due" wR ["_law_most", "_law_reached"] We d)
  (a27:nsIn K mainGlobals "law" = some (some (.ref R6)))
  (l27:K.lookup R6=some ⟨RY,RS, .func (fnOf "law" "law" (bU kH) (aM kH) (aj kH) .none LG LH LI LC GQ LJ),RV⟩)
  (c27:codeIn K GQ "law" = true)
  (k27:keepIn K (.ref R6)=true)
  (h28:∃ d,FM K cL "__init__" "Land.__init__" lG ["self", "places", "lanes"] R7 d)
  (h29:∃ d,FM K cL "end_of" "Land.end_of" wQ ["self", "lane"] R8 d)
  (h30:∃ d,FM K cL "out_of" "Land.out_of" rK ["self", "place"] Wg d)
  (h31:∃ d,FM K cL "into" "Land.into" lF ["self", "place"] R9 d)
  (h32:∃ d,FM K cB "__init__" "Table.__init__" wG ["self", "land"] Nq d)
  (h33:∃ d,FM K cD "__init__" "Told.__init__" rF ["self", "land", "rows"] RA d)
  (h34:∃ d,FM K cD "ways" "Told.ways" nu ["self", "place", "goal", "came"] RB d)
  (h35:∃ d,FM K cA "__init__" "Lane.__init__" wN ["self", "room"] RC d)
  (h36:∃ d,FM K cA "open_to" "Lane.open_to" rL ["self", "letter", "count"] Wh d)
  (h37:∃ d,FM K cA "put" "Lane.put" wI ["self", "letter", "count", "last"] RD d)
  (h38:∃ d,FM K cA "front" "Lane.front" nG ["self"] Wi d)
  (h39:∃ d,FM K cA "pull" "Lane.pull" rG ["self"] RE d)
  (h40:∃ d,FM K cA "bring" "Lane.bring" nK ["self"] RF d)
  (h41:∃ d,FM K cA "told" "Lane.told" wM ["self"] Wj d)
  (h42:∃ d,FM K cA "twin" "Lane.twin" wL ["self"] Wk d)
  (h43:∃ d,FM K cH "__init__" "Letter.__init__" rR ["self", "start", "goal", "length", "word"] RG d)
  (h44:∃ d,FM K cH "twin" "Letter.twin" rQ ["self"] Wl d)
  (a45:findIn K (.ref cJ) "__init__" = some (some (.ref GP)))
  (l45:K.lookup GP=some ⟨RZ,RT, .func (fnOf "__init__" "Yard.__init__" (bU gx) (aM gx) (aj gx) (.ref LS) LK LL LM LD GR LN),RW⟩)
  (d45:K.lookup LS=some ⟨Sb,Se, .seq #[Value.none] Sh,Sl⟩)
  (c45:codeIn K GR "Yard.__init__" = true)
  (k45:keepIn K (.ref GP)=true)
  (i45:isFn K (.ref GP)=true)
  (a46:findIn K (.ref cJ) "post" = some (some (.ref Ib)))
  (l46:K.lookup Ib=some ⟨Sa,RU, .func (fnOf "post" "Yard.post" (bU fV) (aM fV) (aj fV) (.ref LU) LO LP LQ LF GS LR),RX⟩)
  (d46:K.lookup LU=some ⟨Sd,Sf, .seq #[Value.int 0 Sj] Si,Sm⟩)
  (c46:codeIn K GS "Yard.post" = true)
  (k46:keepIn K (.ref Ib)=true)
  (i46:isFn K (.ref Ib)=true)
  (h47:∃ d,FM K cJ "moves" "Yard.moves" nA ["self"] Wm d)
  (h48:∃ d,FM K cJ "moves_in" "Yard.moves_in" lD ["self", "number"] RH d)
  (h49:∃ d,FM K cJ "moves_on" "Yard.moves_on" lC ["self", "lane"] RI d)
  (h50:∃ d,FM K cJ "moves_lie" "Yard.moves_lie" n9 ["self", "lane"] RJ d)
  (h51:∃ d,FM K cJ "moves_back" "Yard.moves_back" kG ["self", "lane"] RK d)
  (h52:∃ d,FM K cJ "wanted" "Yard.wanted" fU ["self", "lane"] Wo d)
  (h53:∃ d,FM K cJ "moves_like" "Yard.moves_like" rP ["self", "move"] RL d)
  (h54:∃ d,FM K cJ "do" "Yard.do" OP ["self", "move"] Wq d)
  (h55:∃ d,FM K cJ "go_in" "Yard.go_in" rU ["self", "number", "lane"] RM d)
  (h56:∃ d,FM K cJ "enter" "Yard.enter" nH ["self", "piece", "lane"] RN d)
  (h57:∃ d,FM K cJ "lay" "Yard.lay" wO ["self", "piece", "place"] RO d)
  (h58:∃ d,FM K cJ "own_lane" "Yard.own_lane" rJ ["self", "lane"] RP d)
  (h59:∃ d,FM K cJ "own_letter" "Yard.own_letter" rH ["self", "number"] RQ d)
  (h60:∃ d,FM K cJ "lane_told" "Yard.lane_told" nE ["self", "lane"] Wr d)
  (h61:∃ d,FM K cJ "way_told" "Yard.way_told" rE ["self", "number"] Ws d)
  (h62:∃ d,FM K cJ "lying" "Yard.lying" nB ["self", "place"] Wt d)
  (h63:∃ d,FM K cJ "posted" "Yard.posted" kE ["self"] Wu d)
  (h64:∃ d,FM K cJ "history" "Yard.history" rS ["self"] Wv d)
  (h65:∃ d,FM K cJ "ended" "Yard.ended" fG ["self"] Ww d)
  (h66:∃ d,FM K cJ "stand" "Yard.stand" n0 ["self"] Wx d)
  (h67:∃ d,FM K cJ "bare_twin" "Yard.bare_twin" rW ["self"] Wz d)
  (h68:∃ d,FM K cJ "twin" "Yard.twin" nr ["self"] W0 d)
  (mp:nsIn K mainGlobals "MOST_PLACES" = some (some (.int 12 t1)))
  (ml:nsIn K mainGlobals "MOST_LANES" = some (some (.int 40 t2)))
  (mr:nsIn K mainGlobals "MOST_ROOM" = some (some (.int 60 t3)))
  (mh:nsIn K mainGlobals "MOST_LENGTH" = some (some (.int 60 t4)))
  (mk:nsIn K mainGlobals "MOST_LETTERS" = some (some (.int 60 t5)))
  (p1cL:plainGet K cL Str.empty=true)
  (p2cL:hasDictIn K cL=true)
  (p3cL:plainOver K cL=true)
  (p4cL:findIn K (.ref cL) "__setattr__" = some (some (.builtin "object.__setattr__")))
  (p5cL:makesIn K cL=true)
  (p6cL:keepIn K (.ref cL)=true)
  (ncLplaces:findIn K (.ref cL) "places" = some none)
  (ncLlanes:findIn K (.ref cL) "lanes" = some none)
  (p1cB:plainGet K cB Str.empty=true)
  (p2cB:hasDictIn K cB=true)
  (p3cB:plainOver K cB=true)
  (p4cB:findIn K (.ref cB) "__setattr__" = some (some (.builtin "object.__setattr__")))
  (p5cB:makesIn K cB=true)
  (p6cB:keepIn K (.ref cB)=true)
  (ncBland:findIn K (.ref cB) "land" = some none)
  (p1cD:plainGet K cD Str.empty=true)
  (p2cD:hasDictIn K cD=true)
  (p3cD:plainOver K cD=true)
  (p4cD:findIn K (.ref cD) "__setattr__" = some (some (.builtin "object.__setattr__")))
  (p5cD:makesIn K cD=true)
  (p6cD:keepIn K (.ref cD)=true)
  (ncDland:findIn K (.ref cD) "land" = some none)
  (ncDentries:findIn K (.ref cD) "entries" = some none)
  (p1cA:plainGet K cA Str.empty=true)
  (p2cA:hasDictIn K cA=true)
  (p3cA:plainOver K cA=true)
  (p4cA:findIn K (.ref cA) "__setattr__" = some (some (.builtin "object.__setattr__")))
  (p5cA:makesIn K cA=true)
  (p6cA:keepIn K (.ref cA)=true)
  (ncArights:findIn K (.ref cA) "rights" = some none)
  (ncAreturning:findIn K (.ref cA) "returning" = some none)
  (ncAholder:findIn K (.ref cA) "holder" = some none)
  (ncApieces:findIn K (.ref cA) "pieces" = some none)
  (p1cH:plainGet K cH Str.empty=true)
  (p2cH:hasDictIn K cH=true)
  (p3cH:plainOver K cH=true)
  (p4cH:findIn K (.ref cH) "__setattr__" = some (some (.builtin "object.__setattr__")))
  (p5cH:makesIn K cH=true)
  (p6cH:keepIn K (.ref cH)=true)
  (ncHstart:findIn K (.ref cH) "start" = some none)
  (ncHgoal:findIn K (.ref cH) "goal" = some none)
  (ncHlength:findIn K (.ref cH) "length" = some none)
  (ncHword:findIn K (.ref cH) "word" = some none)
  (ncHgone:findIn K (.ref cH) "gone" = some none)
  (ncHway:findIn K (.ref cH) "way" = some none)
  (p1cJ:plainGet K cJ Str.empty=true)
  (p2cJ:hasDictIn K cJ=true)
  (p3cJ:plainOver K cJ=true)
  (p4cJ:findIn K (.ref cJ) "__setattr__" = some (some (.builtin "object.__setattr__")))
  (p5cJ:makesIn K cJ=true)
  (p6cJ:keepIn K (.ref cJ)=true)
  (ncJtable:findIn K (.ref cJ) "table" = some none)
  (ncJrooms:findIn K (.ref cJ) "rooms" = some none)
  (ncJlanes:findIn K (.ref cJ) "lanes" = some none)
  (ncJletters:findIn K (.ref cJ) "letters" = some none)
  (ncJlies:findIn K (.ref cJ) "lies" = some none)
  (ncJdone:findIn K (.ref cJ) "done" = some none)
  (w1cB:PySem.W.readsIn K cB (.type "type")=true)
  (w2cB:PySem.W.findCls K (.ref cB) (.type "type") "__init__" = some (.val (.ref Nq)))
  (w3cB:PySem.W.specialIn K (.ref cB) "__getattribute__" = some (some (.builtin "type.__getattribute__")))
  (kk1:kitOne K (.type "int") (.type "int")=some true)
  (kk2:kitOne K (.type "int") (.type "bool")=some false)
  (kk3:kitOne K (.type "bool") (.type "int")=some true)
  (kk4:kitOne K (.type "bool") (.type "bool")=some true)
  (kk5:kitOne K (.type "NoneType") (.type "int")=some false)
  (kk6:kitOne K (.type "str") (.type "str")=some true)
  (kk7:kitOne K (.type "int") (.type "str")=some false)
  (kk8:kitOne K (.type "tuple") (.type "tuple")=some true)
  (z0:nsIn K mainGlobals "isinstance" = some none)
  (z1:nsIn K mainGlobals "int" = some none)
  (z2:nsIn K mainGlobals "bool" = some none)
  (z3:nsIn K mainGlobals "len" = some none)
  (z4:nsIn K mainGlobals "enumerate" = some none)
  (z5:nsIn K mainGlobals "tuple" = some none)
  (z6:nsIn K mainGlobals "range" = some none)
  (z7:nsIn K mainGlobals "list" = some none)
  (z8:nsIn K mainGlobals "all" = some none)
  (z9:nsIn K mainGlobals "sum" = some none)
  (z10:nsIn K mainGlobals "abs" = some none)
  (z11:nsIn K mainGlobals "str" = some none)
  (z12:nsIn K mainGlobals "max" = some none)
  (z13:nsIn K mainGlobals "reversed" = some none)
  : ∃ fd:FuncData,(∀ (s:Shared)(v:Value),BindsTo s fd ⟨[v],[]⟩ [("_law_script",v)])/\∀ base:Heap,K.In base->base.Ns mainGlobals mg->y2 l.prog w K mg base az 11 fa fd ["_law_script"] (oO K):=by
 have e:=hfa.symm.trans (mg_of X G a27)
 cases e
 have T:dJ mg:=⟨mg_none_of X G z0,mg_none_of X G z1,mg_none_of X G z2,mg_none_of X G z3,mg_none_of X G z4,mg_none_of X G z5,mg_none_of X G z6,mg_none_of X G z7,mg_none_of X G z8,mg_none_of X G z9,mg_none_of X G z10,mg_none_of X G z11,mg_none_of X G z12,mg_none_of X G z13⟩
 obtain⟨d1,H1⟩:=h1
 obtain⟨d2,H2⟩:=h2
 obtain⟨d3,H3⟩:=h3
 obtain⟨d4,H4⟩:=h4
 obtain⟨d5,H5⟩:=h5
 obtain⟨d6,H6⟩:=h6
 obtain⟨d7,H7⟩:=h7
 obtain⟨d8,H8⟩:=h8
 obtain⟨d9,H9⟩:=h9
 obtain⟨d10,CT⟩:=h10
 obtain⟨d11,HU⟩:=h11
 obtain⟨d12,HW⟩:=h12
 obtain⟨d13,Nr⟩:=h13
 obtain⟨d14,Nt⟩:=h14
 obtain⟨d15,Nu⟩:=h15
 obtain⟨d16,DG⟩:=h16
 obtain⟨d17,Nv⟩:=h17
 obtain⟨d18,DH⟩:=h18
 obtain⟨d19,Nw⟩:=h19
 obtain⟨d20,Ny⟩:=h20
 obtain⟨d21,Nz⟩:=h21
 obtain⟨d22,N0⟩:=h22
 obtain⟨d23,N1⟩:=h23
 obtain⟨d24,N2⟩:=h24
 obtain⟨d25,N3⟩:=h25
 obtain⟨d26,N4⟩:=h26
 obtain⟨d28,N5⟩:=h28
 obtain⟨d29,Ss⟩:=h29
 obtain⟨d30,Su⟩:=h30
 obtain⟨d31,Sv⟩:=h31
 obtain⟨d32,Sw⟩:=h32
 obtain⟨d33,N6⟩:=h33
 obtain⟨d34,Sy⟩:=h34
 obtain⟨d35,LV⟩:=h35
 obtain⟨d36,GU⟩:=h36
 obtain⟨d37,Sz⟩:=h37
 obtain⟨d38,GV⟩:=h38
 obtain⟨d39,S0⟩:=h39
 obtain⟨d40,S3⟩:=h40
 obtain⟨d41,S4⟩:=h41
 obtain⟨d42,S5⟩:=h42
 obtain⟨d43,LW⟩:=h43
 obtain⟨d44,S9⟩:=h44
 obtain⟨d47,Du⟩:=h47
 obtain⟨d48,SA⟩:=h48
 obtain⟨d49,SD⟩:=h49
 obtain⟨d50,SE⟩:=h50
 obtain⟨d51,SF⟩:=h51
 obtain⟨d52,SG⟩:=h52
 obtain⟨d53,SH⟩:=h53
 obtain⟨d54,GX⟩:=h54
 obtain⟨d55,SI⟩:=h55
 obtain⟨d56,LX⟩:=h56
 obtain⟨d57,SJ⟩:=h57
 obtain⟨d58,SK⟩:=h58
 obtain⟨d59,SM⟩:=h59
 obtain⟨d60,SN⟩:=h60
 obtain⟨d61,SO⟩:=h61
 obtain⟨d62,SQ⟩:=h62
 obtain⟨d63,SR⟩:=h63
 obtain⟨d64,SS⟩:=h64
 obtain⟨d65,LY⟩:=h65
 obtain⟨d66,SU⟩:=h66
 obtain⟨d67,LZ⟩:=h67
 obtain⟨d68,Mb⟩:=h68
 have F27:=jo (st:=kH) l27 c27 k27
 have F45:Cu K "__init__" "Yard.__init__" gx GP _:=⟨⟨_,_,_,_,_,_,_,_,_,_,rfl,l45,c45⟩,k45⟩
 have F46:Cu K "post" "Yard.post" fV Ib _:=⟨⟨_,_,_,_,_,_,_,_,_,_,rfl,l46,c46⟩,k46⟩
 have L:qL K ⟨cL⟩:=⟨⟨p1cL,p2cL,p3cL,p4cL⟩,ncLplaces,ncLlanes⟩
 have Z:tX K:=⟨kk1,kk2,kk3,kk4,kk5⟩
 have ZS:Kx K:=⟨kk6,kk7,kk8⟩
 have B:OR K mg ⟨cB,cD⟩ Nq _:=⟨⟨p1cB,p2cB,p3cB,p4cB⟩,ncBland,⟨p1cD,p2cD,p3cD,p4cD⟩,ncDland,ncDentries,(mg_of X G gcB),⟨w1cB,w2cB,w3cB,Sw.m.kp⟩,Sw.b⟩
 have M:Jz K ⟨cL⟩ Wg R9 _ _:=⟨Su.m,Sv.m,Su.b,Sv.b⟩
 have ME:vC K ⟨cL⟩ R8 _:=⟨Ss.m,Ss.b⟩
 have Y:∀ ex:List Addr,eU K ⟨cJ,cA,cH,ex⟩:=fun _=>⟨⟨p1cJ,p2cJ,p3cJ,p4cJ⟩,ncJtable,ncJrooms,ncJlanes,ncJletters,ncJlies,ncJdone,⟨p1cH,p2cH,p3cH,p4cH⟩,ncHstart,ncHgoal,ncHlength,ncHword,ncHgone,ncHway,⟨⟨p1cA,p2cA,p3cA,p4cA⟩,ncArights,ncAreturning,ncAholder,ncApieces⟩⟩
 have HH:=oA (kV:=LK) (doc:=LL) (pm:=LM) (cdv:=GR) (ct:=LN) (an:=LD) d45 rfl
 have bp0:=mO (kV:=LO) (doc:=LP) (pm:=LQ) (cdv:=GS) (ct:=LR) (an:=LF) d46 rfl
 have Mi:Mk K cL R7:=⟨p5cL,N5.m.at_,N5.m.fn,p6cL⟩
 have Mt:Mk K cD RA:=⟨p5cD,N6.m.at_,N6.m.fn,p6cD⟩
 have My:Mk K cJ GP:=⟨p5cJ,a45,i45,p6cJ⟩
 have Ma:Mk K cA RC:=⟨p5cA,LV.m.at_,LV.m.fn,p6cA⟩
 have Mh:Mk K cH RG:=⟨p5cH,LW.m.at_,LW.m.fn,p6cH⟩
 refine⟨fnOf "law" "law" (bU kH) (aM kH) (aj kH) .none LG LH LI LC GQ LJ,fun s v => .of_eq rfl,fun base _ _=>?_⟩
 have Wn:Wy K cD RB _ (yN l.prog w ⟨cB,cD⟩):=⟨⟨p1cD,p2cD,p3cD,p4cD⟩,ncDland,Sy.m,Sy.b,fun H H' x n wy h k=>yN.keep (n:=n) (wy:=wy) h k⟩
 have Gm:y2 l.prog w K mg base az 2 f2 _ _ _:=xq H2.F T H1.m H1.F H1.b
 have Gw0:=so (ts:=⟨cB,cD⟩) (P:=l.prog) (w:=w) (base:=base) Sy.F B H2.m H2.k H2.b Gm
 have Gb:y2 l.prog w K mg base az 3 RB _ _ _:=mY Gw0
 have Gw:y2 l.prog w K mg base az 2 f5 _ _ _:=qe H5.F T H4.m H4.F H4.b
 have SV:y2 l.prog w K mg base az 2 f5 _ _ _:=nO H5.F T Z H4.m H4.F H4.b
 have GW:y2 l.prog w K mg base az 1 f4 _ _ _:=jF H4.F T Z
 have G2:y2 l.prog w K mg base az 3 f7 _ _ _:=xh H7.F H5.m H5.k H5.b Gw
 have Gi:y2 l.prog w K mg base az 4 R7 _ _ _:=uQ N5.F T L H5.m H5.k H5.b Gw H7.m H7.k H7.b G2 (mg_of X G mp) (mg_of X G ml)
 have Go:y2 l.prog w K mg base az 2 f6 _ _ _:=xo H6.F T H4.m H4.F H4.b
 have Gin:y2 l.prog w K mg base az 1 R9 _ _ _:=uP Sv.F T L
 have Gf:y2 l.prog w K mg base az 4 f8 _ _ _:=uU H8.F T L M H7.m H7.k H7.b G2 H6.m H6.k H6.b Go (xn Su.F T L) Gin
 have G1:y2 l.prog w K mg base az 1 Nq _ _ _:=xi Sw.F
 have Gse:y2 l.prog w K mg base az 1 f3 _ _ _:=xk H3.F
 have Gt:y2 l.prog w K mg base az 5 RA _ _ _:=uB N6.F T B G1 H8.m H8.k H8.b Gf H3.m H3.k H3.b Gse
 have Ge:y2 l.prog w K mg base az 1 R8 _ _ _:=xB Ss.F L
 have Gro:y2 l.prog w K mg base az 3 VM _ _ _:=su CT.F T L H5.m H5.k H5.b SV (mg_of X G mr)
 have Pl:y2 l.prog w K mg base az 2 M6 _ _ _:=u7 HU.F T H4.m H4.k H4.b GW
 have W2:y2 l.prog w K mg base az 1 RC _ _ _:=xx LV.F (Y []).L
 have Glt:y2 l.prog w K mg base az 1 Wj _ _ _:=xw S4.F T (Y []).L
 have SW:y2 l.prog w K mg base az 1 Wh _ _ _:=uG GU.F (Y []).L
 have SX:y2 l.prog w K mg base az 1 Wi _ _ _:=sF GV.F (Y []).L
 have Gpu:y2 l.prog w K mg base az 2 RD _ _ _:=xm Sz.F (Y []).L GU.m GU.b SW
 have Gpl:y2 l.prog w K mg base az 1 RE _ _ _:=uC S0.F (Y []).L
 have Gbr:y2 l.prog w K mg base az 1 RF _ _ _:=sJ S3.F (Y []).L
 have Gtw:y2 l.prog w K mg base az 3 Wk _ _ _:=xv S5.F T (Y []).L (mg_of X G gcA) Ma LV.b W2
 have W3:y2 l.prog w K mg base az 1 RG _ _ _:=xt LW.F (Y [])
 have Gtx:y2 l.prog w K mg base az 3 Wl _ _ _:=xr S9.F T (Y []) (mg_of X G gcH) Mh LW.b W3
 have Gy:∀ ex:List Addr,y2 l.prog w K mg base az 4 GP _ _ (iE K ⟨cL⟩ cD (yN l.prog w ⟨cB,cD⟩) ⟨cJ,cA,cH,ex⟩):=fun ex=>xg F45 T L (Y ex) Wn CT.m CT.k CT.b Gro (mg_of X G gcA) Ma LV.b W2
 have Gp:∀ ex:List Addr,y2 l.prog w K mg base az 4 Ib _ _ (nj K ⟨cL⟩ cD (yN l.prog w ⟨cB,cD⟩) ⟨cJ,cA,cH,ex⟩):=fun ex=>uD F46 T L (Y ex) Wn Gb H5.m H5.k H5.b SV HU.m HU.k HU.b Pl (mg_of X G gcH) Mh LW.b W3 (mg_of X G mh) (mg_of X G mk)
 have Gol:∀ ex:List Addr,y2 l.prog w K mg base az 4 RP _ _ _:=fun ex=>uF SK.F (Y ex) S5.m S5.b Gtw
 have Got:∀ ex:List Addr,y2 l.prog w K mg base az 4 RQ _ _ _:=fun ex=>uE SM.F (Y ex) S9.m S9.b Gtx
 have O:∀ ex:List Addr,Own l.prog w K mg base ⟨cJ,cA,cH,ex⟩ RP RQ RD _ _ _:=fun ex=>⟨SK.m,SK.b,Gol ex,SM.m,SM.b,Got ex,Sz.m,Sz.b,Gpu⟩
 have Gly:∀ ex:List Addr,y2 l.prog w K mg base az 1 RO _ _ _:=fun ex=>xy SJ.F (Y ex)
 have Glg:∀ ex:List Addr,y2 l.prog w K mg base az 1 Wt _ _ _:=fun ex=>sy SQ.F T (Y ex)
 have Gen:∀ ex:List Addr,y2 l.prog w K mg base az 5 RN _ _ _:=fun ex=>sG LX.F (Y ex) (O ex)
 have Ggi:∀ ex:List Addr,y2 l.prog w K mg base az 6 RM _ _ _:=fun ex=>uT SI.F (Y ex) (O ex) LX.m LX.b (Gen ex)
 have Gon:y2 l.prog w K mg base az 4 f9 _ _ _:=xp H9.F L Wn Gb ME Ge
 have Gmi:∀ ex:List Addr,y2 l.prog w K mg base az 4 RH _ _ (nq K ⟨cL⟩ cD (yN l.prog w ⟨cB,cD⟩) ⟨cJ,cA,cH,ex⟩):=fun ex=>uK SA.F (Y ex) Wn Gb GU.m GU.b SW
 have Gwa:∀ ex:List Addr,y2 l.prog w K mg base az 5 Wo _ _ (iG K ⟨cL⟩ cD (yN l.prog w ⟨cB,cD⟩) ⟨cJ,cA,cH,ex⟩):=fun ex=>qf SG.F (Y ex) Wn GV.m GV.b SX H9.m H9.k H9.b Gon
 have Gmo:∀ ex:List Addr,y2 l.prog w K mg base az 6 RI _ _ (nk K ⟨cL⟩ cD (yN l.prog w ⟨cB,cD⟩) ⟨cJ,cA,cH,ex⟩):=fun ex=>uJ SD.F (Y ex) Wn GV.m GV.b SX SG.m SG.b (Gwa ex) GU.m GU.b SW
 have Gml:∀ ex:List Addr,y2 l.prog w K mg base az 2 RJ _ _ _:=fun ex=>sw SE.F (Y ex) L Wn GV.m GV.b SX ME Ge
 have Gmb:∀ ex:List Addr,y2 l.prog w K mg base az 1 RK _ _ (iH K ⟨cL⟩ cD (yN l.prog w ⟨cB,cD⟩) ⟨cJ,cA,cH,ex⟩):=fun ex=>qi SF.F (Y ex)
 have MM:∀ ex:List Addr,PD l.prog w K mg base ⟨cL⟩ cD (yN l.prog w ⟨cB,cD⟩) ⟨cJ,cA,cH,ex⟩ RH RI RJ RK _ _ _ _:=fun ex=>⟨SA.m,SA.b,Gmi ex,SD.m,SD.b,Gmo ex,SE.m,SE.b,Gml ex,SF.m,SF.b,Gmb ex⟩
 have N7:∀ ex:List Addr,y2 l.prog w K mg base az 7 Wm _ _ (eI K ⟨cL⟩ cD (yN l.prog w ⟨cB,cD⟩) ⟨cJ,cA,cH,ex⟩):=fun ex=>sx Du.F T (Y ex) Wn (MM ex)
 have Gim:y2 l.prog w K mg base az 2 VN _ _ _:=uO HW.F T ZS H4.m H4.k H4.b GW
 have Glk:∀ ex:List Addr,y2 l.prog w K mg base az 7 RL _ _ _:=fun ex=>uN SH.F T (Y ex) Wn (MM ex) HW.m HW.k HW.b Gim H5.m H5.k H5.b SV
 have DM:∀ ex:List Addr,U2 l.prog w K mg base ⟨cL⟩ cD (yN l.prog w ⟨cB,cD⟩) ⟨cJ,cA,cH,ex⟩ RL RM RN RE RF RO _ _ _ _ _ _:=fun ex=>⟨SH.m,SH.b,Glk ex,SI.m,SI.b,Ggi ex,LX.m,LX.b,Gen ex,S0.m,S0.b,Gpl,S3.m,S3.b,Gbr,SJ.m,SJ.b,Gly ex⟩
 have W4:∀ ex:List Addr,y2 l.prog w K mg base az 8 Wq _ _ (uf K ⟨cL⟩ cD (yN l.prog w ⟨cB,cD⟩) ⟨cJ,cA,cH,ex⟩):=fun ex=>Ky GX.F (Y ex) L Wn (O ex) (DM ex) ME Ge
 have SY:∀ ex:List Addr,y2 l.prog w K mg base az 2 Wr _ _ _:=fun ex=>sE SN.F (Y ex) S4.m S4.b Glt
 have Gwt:∀ ex:List Addr,y2 l.prog w K mg base az 1 Ws _ _ _:=fun ex=>uA SO.F T (Y ex)
 have Gpd:∀ ex:List Addr,y2 l.prog w K mg base az 1 Wu _ _ _:=fun ex=>qh SR.F T (Y ex)
 have Ghi:∀ ex:List Addr,y2 l.prog w K mg base az 1 Wv _ _ _:=fun ex=>uR SS.F T (Y ex)
 have W5:∀ ex:List Addr,y2 l.prog w K mg base az 1 Ww _ _ (ik K ⟨cJ,cA,cH,ex⟩):=fun ex=>sH LY.F T (Y ex)
 have W6:∀ ex:List Addr,y2 l.prog w K mg base az 6 Wz _ _ (kA K ⟨cL⟩ cD (yN l.prog w ⟨cB,cD⟩) ⟨cJ,cA,cH,ex⟩):=fun ex=>uW LZ.F T (Y ex) Wn (mg_of X G gcJ) My HH (Gy [])
 have Gyt:∀ ex:List Addr,y2 l.prog w K mg base az 7 W0 _ _ (ng K ⟨cL⟩ cD (yN l.prog w ⟨cB,cD⟩) ⟨cJ,cA,cH,ex⟩):=fun ex=>sm Mb.F T (Y ex) Wn LZ.m LZ.b (W6 ex)
 have Gsd:∀ ex:List Addr,y2 l.prog w K mg base az 1 Wx _ _ (rc K ⟨cJ,cA,cH,ex⟩):=fun ex=>xj SU.F T (Y ex)
 have Gst:∀ ex:List Addr,y2 l.prog w K mg base az 8 VO _ _ (fR K ⟨cL⟩ cD (yN l.prog w ⟨cB,cD⟩) ⟨cJ,cA,cH,ex⟩):=fun ex=>sr Nr.F (Y ex) Wn Du.m Du.b (N7 ex) LY.m LY.b (W5 ex)
 have Gls:∀ ex:List Addr,y2 l.prog w K mg base az 8 VZ _ _ (fR K ⟨cL⟩ cD (yN l.prog w ⟨cB,cD⟩) ⟨cJ,cA,cH,ex⟩):=fun ex=>qj N1.F (Y ex) Wn Du.m Du.b (N7 ex) LY.m LY.b (W5 ex)
 have Gky:∀ ex:List Addr,y2 l.prog w K mg base az 3 VY _ _ (rp K ⟨cJ,cA,cH,ex⟩):=fun ex=>x8 N0.F T (Y ex) ⟨SN.m,SN.b,SY ex,SO.m,SO.b,Gwt ex,SR.m,SR.b,Gpd ex,SQ.m,SQ.b,Glg ex⟩
 have Dv:=vk (K:=K) (c:=⟨cL⟩) (TC:=cD) (J:=yN l.prog w ⟨cB,cD⟩) (ys:=⟨cJ,cA,cH,[]⟩) N7
 have Mc:=ye (K:=K) (c:=⟨cL⟩) (TC:=cD) (J:=yN l.prog w ⟨cB,cD⟩) (ys:=⟨cJ,cA,cH,[]⟩) Wn W6
 have Fi:=yc (K:=K) (c:=⟨cL⟩) (TC:=cD) (J:=yN l.prog w ⟨cB,cD⟩) (ys:=⟨cJ,cA,cH,[]⟩) Wn Gyt
 have W7:=QG (K:=K) (c:=⟨cL⟩) (TC:=cD) (J:=yN l.prog w ⟨cB,cD⟩) (ys:=⟨cJ,cA,cH,[]⟩) Wn W4
 have Ta:=Ll (K:=K) (c:=⟨cL⟩) (TC:=cD) (J:=yN l.prog w ⟨cB,cD⟩) (ys:=⟨cJ,cA,cH,[]⟩) Gsd
 have GY:=pA (K:=K) (c:=⟨cL⟩) (TC:=cD) (J:=yN l.prog w ⟨cB,cD⟩) (ys:=⟨cJ,cA,cH,[]⟩) Gst
 have Md:=yd (K:=K) (c:=⟨cL⟩) (TC:=cD) (J:=yN l.prog w ⟨cB,cD⟩) (ys:=⟨cJ,cA,cH,[]⟩) Ghi
 have Tc:=L4 (K:=K) (c:=⟨cL⟩) (TC:=cD) (J:=yN l.prog w ⟨cB,cD⟩) (ys:=⟨cJ,cA,cH,[]⟩) Gky
 have Ez:=pA (K:=K) (c:=⟨cL⟩) (TC:=cD) (J:=yN l.prog w ⟨cB,cD⟩) (ys:=⟨cJ,cA,cH,[]⟩) Gls
 have Gmv:y2 l.prog w K mg base az 1 VP _ _ _:=uI Nt.F T
 have Gsr:y2 l.prog w K mg base az 9 VQ _ _ _:=qg (ys:=⟨cJ,cA,cH,[]⟩) Nu.F T (Y []) Wn ⟨Du.m,Du.b,Dv,LZ.m,LZ.b,Mc,GX.m,GX.b,W7,SU.m,SU.b,Ta,Nr.m,Nr.k,Nr.b,GY,Nt.m,Nt.k,Nt.b,Gmv⟩
 have Gnx:y2 l.prog w K mg base az 9 Wc _ _ _:=uH (ys:=⟨cJ,cA,cH,[]⟩) N2.F T (Y []) Wn ⟨Du.m,Du.b,Dv,Mb.m,Mb.b,Fi,GX.m,GX.b,W7⟩
 have Ggo:y2 l.prog w K mg base az 10 Wd _ _ _:=uS (ys:=⟨cJ,cA,cH,[]⟩) N3.F T (Y []) Wn ⟨SS.m,SS.b,Md,Mb.m,Mb.b,Fi,N1.m,N1.k,N1.b,Ez,N0.m,N0.k,N0.b,Tc,N2.m,N2.k,N2.b,Gnx⟩
 have Gdu:y2 l.prog w K mg base az 1 We _ _ _:=xC N4.F
 have Gc:y2 l.prog w K mg base az 1 VR _ _ _:=uV DG.F T
 have Gx:y2 l.prog w K mg base az 1 VS _ _ _:=uL Nv.F
 have Gd:y2 l.prog w K mg base az 2 VT _ _ _:=sI DH.F T Nv.m Nv.k Nv.b Gx
 have Td:y2 l.prog w K mg base az 3 VU _ _ _:=sD Nw.F T DH.m DH.k DH.b Gd DG.m DG.k DG.b Gc
 have Gtb:y2 l.prog w K mg base az 7 VW _ _ _:=uM (c:=⟨cL⟩) (ts:=⟨cB,cD⟩) Ny.F T DH.m DH.k DH.b Gd (mg_of X G gcL) Mi N5.b Gi (mg_of X G gcD) Mt N6.b Gt
 have Gya:y2 l.prog w K mg base az 9 VX _ _ _:=sC (ys:=⟨cJ,cA,cH,[]⟩) Nz.F T (Y []) Wn Gb ⟨DG.m,DG.k,DG.b,Gc,DH.m,DH.k,DH.b,Gd,(mg_of X G gcJ),My,HH,Gy [],⟨a46,i46,k46⟩,bp0,Gp [],GX.m,GX.b,W4,Du.m,Du.b,N7⟩
 exact xz (c:=⟨cL⟩) (ts:=⟨cB,cD⟩) (ys:=⟨cJ,cA,cH,[]⟩) F27 T Wn ⟨DG.m,DG.k,DG.b,Gc,Nw.m,Nw.k,Nw.b,Td,Ny.m,Ny.k,Ny.b,Gtb,Nz.m,Nz.k,Nz.b,Gya,N3.m,N3.k,N3.b,Ggo,N4.m,N4.k,N4.b,Gdu,Nu.m,Nu.k,Nu.b,Gsr⟩
end
theorem walk {l:PySem.W.OpenLaw}{q:Program}{loose:List Str}{XP:(Str->Option Value)->Heap->Prop}{YP:World->Heap->Prop}{d:DefRec}{K:Params->Frag}(hn:l.most=some 63)(IS:d.params.defaults=[])
  (hY:∀ (w:World)(h:Heap),YP w h->(K w.params).In h)
  (F:∀ (w:World)(mg:Str->Option Value)(fa:Addr)(h:Heap),(K w.params).In h->h.Ns mainGlobals mg->mg d.name=some (.ref fa) ->
   ∃ fd:FuncData,(∀ (s:Shared)(u:Value),BindsTo s fd ⟨[u],[]⟩ [("_law_script",u)])/\∀ base:Heap,(K w.params).In base->base.Ns mainGlobals mg->y2 l.prog w (K w.params) mg base az 11 fa fd ["_law_script"] (oO (K w.params))) :
  PySem.W.WalkO q loose XP YP l.row.toRowW d [] (fun f vs=>PySem.call f vs) :=
 L2.DR (n:=63) (k:=11) (x := "_law_script") (CX:=fun _=>az) (sp:=fun w=>oO (K w.params)) hn (by decide) IS ⟨rfl,by decide,by decide⟩ hY F (fun _ _ a ns hl _ hS=>⟨a,ns,rfl,hS,hl,fun _=>rfl⟩) fun _ _ _ _ _ z=>z
end K70
structure PySem.W.Fast:Prop where
 (tw8315602678618140083 tw12302699873386045396 tw11490786529873736869 tw4568222212435975582 tw17872795764528905770 tw15462593482827832003 tw5206342535635800726 tw11927846933263609194 tw5088960437475442863 tw8346074728857748718 tw17879041174643914453 tw903801738759184574 tw10633179104831037946 tw7644683924997433702 tw1617197425522615593 tw12076177129216550646 tw15460616219267265346 tw15805035021877280761 tw4891651813439371834 tw13605806841034664592 tw8631825569487256120 tw10273353285502469366 tw18394907734595704722 tw13875576656989777252 tw12627595091495586453 tw1388126112800247365 tw9311163798830388400 tw9104489999467141157 tw18228634498228672812 tw16827495696994017256 tw2041236169289549997 tw8728471154482059962 tw9153858942234691687 tw13515249713421623463 tw15535123082337501751 tw12724275609084418671 tw4867182191781440590 tw3060048597758922203 tw1352022147420238527 tw8337138908275915346 tw324306299058164351 tw9498300714961691329 tw3989081486152238011 tw18156225744423703497 tw12585273657980170752 tw12705272266398975459 tw11026622207932041253 tw6830825282172698360 tw11203148904649212917 tw5805739486673003728 tw12885182381962758386 tw7065496301275990860 tw4588395634387467753 tw1755679388227885859 tw1826160643624181005 tw7729699061434011985 tw7112872751151676680 tw11681051162171954188 tw1013758216458507449 tw2484554388078265348 tw396114239574576318 tw13093698539484148489 tw11270406162301895377 tw17088467552602257273 tw10852969089267991065 tw1576670784958413424 tw12036901267593634483 tw8528354165968372222 tw12478422007670919337 tw641040367794118077 tw16006186471045628758 tw9999918085293427609 tw4992552963583872775 tw11166233239063440313 tw14088079404158220250 tw11742236972310964324 tw10309009901865521940 tw92736121904239089 tw13885922945004169141 tw6146436661304171214 tw8023060624558925375 tw17468341257235673347 tw6004979908708418510 tw2113542928928673428 tw11177711788899251252 tw1391819960259380399 tw12011835854568658453 tw11436228531277394536 tw7744170388292793536 tw6943856230462499743 tw17962082708623027935 tw12008631692746377911 tw3128865489425643671 tw14434977174200446966 tw8915437019181851358 tw1780338429305486453 tw3562393772054086071 tw10944167915717803283 tw8836370097863309417 tw16169356231040835205 tw14251391571781860334 tw9930369391951553984 tw1049370706478314826 tw17281128772616505705 tw9821194861308829345 tw12798610961044758363 tw4669416273515026619 tw9502090107285466850 tw2305207091631386954 tw6096548575027403952 tw18222453945316178622 tw3104786031405416138 tw5578767716074426912 tw10599185189939366233 tw18115275657896302759 tw12945290030788327938 tw2111478392381529400 tw523655541301760953 tw4600569278995144628 tw10597022780762513520 tw793925696329608178 tw15789665737753984969 tw1126191901562587517 tw16049234170041376166 tw4434642159699363827 tw17126646476078077082 tw14252047460066657790 tw5618944621263124026 tw11534071968060182350 tw11304965041451445709 tw1995184477623740644 tw2506514175840650879 tw16983007433047802765 tw8319405161806193361 tw14968315905761032312 tw5364278486074710203 tw16509644612942513362 tw5257332179398045336 tw525358200980346762 tw14180370822784276247 tw72769920889657354 tw6882595079042477368 tw12311175943555282576 tw16881394937999298623 tw2734663207113017102 tw3010242312344037910 tw8730088223272215831 tw10860318206658060952 tw9364984250036977634 tw8177840630245901196 tw184980711166293761 tw15512702864621949306 tw9547227911452010215 tw13802305372570946978 tw11969484623443539600 tw11154384645498608071 tw6115099721448077126 tw12951784540823495103 tw5352207708515177641 tw5287973809551354687 tw16258483516463574410 tw15606476093985400112 tw18030721028814777537 tw10693321251790525841 tw10872110498594931166 tw16739677306981070543 tw6942035712926784078 tw8723643621661622869 tw4885032008459107249 tw15272977923175964983 tw516668051994639782 tw17800792538444884942 tw382897676168299175 tw4852440700916618603 tw3026933707611868873 tw15001623755498250774 tw11421947867403950091 tw2473952550548451748 tw9457959849695408027 tw8974973807000930896 tw8326656597005354065 tw16064318805217775925 tw15112634723649939713 tw11861768349698200714 tw7553031120496774027 tw5628353853758619638 tw10725315771937261087 tw13826585136929199179 tw751498128872939749 tw5166653681557353829 tw8689880758301796835 tw6032005011751269324 tw14198321387165505822 tw8120159332505189208 tw14420499145954775033 tw6599071755323136840 tw506187719941919195 tw7434562913560731073 tw7624299710081016459 tw11675160209595933795 tw12474270939373832297 tw14119667664657535827 tw4205426776780848691 tw29807882367548522 tw6211888121542318495 tw2577488957198201828 tw13330131750616397432 tw8140409553843992313 tw17311818691664482387 tw3541616285233864938 tw15968414245690467087 tw11462759097974211859 tw14383483055327370329 tw17772957014195849255 tw10779774937167150320 tw18061391784863130407 tw9051213667285726315 tw12691538581413641366 tw8071279748440768813 tw13182036635610535560 tw13360804219371691215 tw7634340241652400451 tw17928996975604056304 tw3348848797809657925 tw12635170358546051167 tw16374340183299142034 tw3139592213991926966 tw17568846469479766504 tw15274960749927276372 tw12526298968224292986 tw8250378100988030441 tw4721093855400565511 tw9763178145584871606 tw15567914494638050188 tw3505065505891823391 tw12072013895741663685 tw7341461084487288983 tw1362358122526507421 tw85827152031413445 tw9746670104349088444 tw6364082604983124323 tw9371492332446721913 tw11029481004634765963 tw6559665214395446150 tw8821594881238570672 tw14603775590415222729 tw16704187548853355577 tw7948315549792433556 tw9622077793607078405 tw10687636218735914449 tw7215310332458675824 tw14595160538682953882 tw13070697095326942627 tw15748590684666787135 tw8103316676611770526 tw16213778492074796236 tw13832651869360739775 tw7689945345474836763 tw15721683959629631301 tw9527486505732064284 tw1715817903249267105 tw1224121474056007582 tw7980930779789152351 tw17712585145526767496 tw18073098201757039781 tw17644036003662553711 tw14557365399109208949 tw6373661784535342534 tw11516464460103918817 tw8463142474918217381 tw7004427817428236344 tw424219421882960188 tw17244424287263951760 tw15282009106969602466 tw11028743069924967051 tw611655848498704665 tw7387317602230633647 tw11327910415254964500 tw8543198571803913798 tw1653358141081553117 tw12704910310933712278 tw15109105086278185828 tw8980184894670386401 tw317081598231463947 tw8700281163510593031 tw6699589593874437300 tw15642473946400080567 tw14315898467517205221 tw10278833380018476035 tw8683207798624061133 tw7369353486526785702 tw16245270636106968638 tw2085375873859510642 tw13562110113873595628 tw13850421825014644181 tw450022916084750911 tw14991366352306397988 tw14012060125715219381 tw14828942106957925840 tw2085601360274151305 tw3628871129155449673 tw18147373361350690167 tw9804719244651728356 tw2247372693649008198 tw6359929031271519597 tw12246281370413821696 tw4827862827992665221 tw12328009537204262824 tw327156497573666059 tw8767757041227990078 tw3129274142370857802 tw13999628431797060312 tw7328702030979172282 tw11532416023345111905 tw302949019139359533 tw11630867275595574728 tw1945479305970355154 tw4506712231188776059 tw1092517432760052966 tw1798157348172612461 tw15768202557691820949 tw12812529331556290348 tw12077550344527207026 tw2881018167315013155 tw16317352503355457963 tw14599402027556680851 tw12733863916967124789 tw9306613970256704033 tw17424174812501765435 tw13189230877946526808 tw10664362820295621611 tw9111936353245463445 tw13655924678285115554 tw17756037465254028393 tw7973485609632441421 tw5152837273860139691 tw14661450097875384707 tw6186379777689565741 tw6305906524381096660 tw4951039960412722778 tw17704506660985041542 tw3539456588545384840 tw5174866605880564789 tw185374996482766861 tw16627746844659892727 tw15210264005212874778 tw8931312072992485522 tw3526692274684775048 tw18285958294099735533 tw1434581868409781869 tw12349570552072160189 tw11443284479938287355 tw3990788844051293434 tw9834552429257273140 tw12001941161999535720 tw11188853187119447290 tw507904834452525316 tw18217750834539595747 tw16119803415041003091 tw7756175508247401877 tw14585067995741974307 tw7783039412948863726 tw7117883364596862675 tw14722986306339484627 tw817581667116468958 tw1324649259072118719 tw17541307450781963455 tw1431329418271064282 tw15114235155542196350 tw3958086732452749329 tw2047363466349038453 tw5756859365614588644 tw15382670469692408623 tw7413880457595276712 tw10617999612772395974 tw16034024838431193130 tw9398107152546758777 tw6981017183106595129 tw12078548061505549052 tw6806474665640888366 tw6143203665027691029 tw5144358503734234508 tw1762051678242656655 tw9038449527898724020 tw8083334578526604484 tw6002913169766549061 tw7453118145385011817 tw7352441483046199071 tw6351145481878084732 tw9322288322728591543 tw7250413878929843728 tw1222773844325754303 tw4900850174928195150 tw9648602114152347565 tw5099411946265872122 tw6098503223023452645 tw17115227585714646858 tw11006842776611976946 tw5845310303399401097 tw2368447265795381598 tw13602287761052056493 tw6124885320151432866 tw2866515678583009117 tw12171761875700781572 tw1211218389032160603 tw8596847816609703134 tw3201651214339690525 tw13883680548181577147 tw682635168252840394 tw10829756324147527603 tw7178699205418380495 tw14611555802628914814 tw14075305166831437082 tw1762177805477455299 tw16713110611365829538 tw12962305206769606967 tw884460756001778026 tw5655555311540610648 tw16199212816955573932 tw1060007329263712336 tw9651612020506552520 tw6752947462255153896 tw3205773880642950388 tw17701264665042382512 tw13407756776400511820 tw12907124266386925471 tw10841025648035127795 tw11237989879627401577 tw9211693135392254038 tw5140519348785088762 tw17831155226776118777 tw8990606877094141151 tw13293590960399504146 tw12574390580304449423 tw3897432565760033080 tw14440567054870631837 tw2342196950467634018 tw13669722468166465213 tw5873308206875179873 tw14739850800418597517 tw10400074858023739817 tw6445040764679833310 tw14644653021942484853 tw4609295306152309997 tw9616293637357172661 tw6327066501168155420 tw322402787239216862 tw2533522309387391936 tw1012958085537009176 tw16835402620370817726 tw15877879153247891036 tw15230757474244014559 tw5667564645084752495 tw9809970877317577606 tw2591298002112229614 tw9753183691622167987 tw3238203317221732874 tw8673095371990140947 tw7736299444268132765 tw4603237499279385349 tw3827916327473200851 tw139478412483952620 tw1291505033410872279 tw2183179801492447289 tw9937614381391736939 tw9727533255592685240 tw13885333858971330304 tw14274344513663376406 tw9168474652134182185 tw5564424990966430318 tw4773677384061382727 tw2825781304002687839 tw2190411214996931628 tw1917444640878392837 tw17948856772483486298 tw16711544341626039328 tw1327611942943045272 tw12997522025413557592 tw11550621249320503455 tw6766928662845807076 tw4342057482776689976 tw16045879472844612405 tw14434535085464704450 tw9052772602258488836 tw17105912088066111012 tw12182370835345343324 tw4261278162267395470 tw3558302485299291839 tw1520083268849024936 tw5038401889528241706 tw12691731657942462707 tw11556431544474950977 tw9712784485748235343 tw8645743996598097654 tw3394125435900551182 tw16289381093473962827 tw1471267770020069627 tw12152514500248612969 tw6342138430758760422 tw5632661190349602132 tw5586450711674604696 tw3415795409444993376 tw17427855210902917000 tw16752910421392565750 tw12927626502245649916 tw10958938980049545613 tw17496181029813646361 tw13077290304464730154 tw6597436290141489504 tw981846042998645327 tw11393103502494866359 tw12226056558861087257 tw8184227929272605067 tw7873042294517739287 tw6604235559780705904 tw486797233756079170 tw456398769789634758 tw3658162742526832749 tw2408081769091710382 tw17906654344339405570 tw14607334986836542876 tw12890852743848175009 tw12497067726944065051 tw17977339831919201135 tw5625838611571442686 tw10612787639147311516 tw9325227451006209706 tw7986349181676263719 tw7474269434916571021 tw7007668466454556997 tw6345004487138213013 tw5978391983893378765 tw3444193604855596744 tw2453389458643247936 tw18190198157194941910 tw1782192531987403187 tw17806202023354010052 tw17309129125347110303 tw1687773159155740807 tw13587246335629500957 tw13417972951265799655 tw13323134959930808746 tw12933223004644841842 tw12115231332316344217 tw10193683610804872756 tw9730931176671518540 tw9356267277966718072 tw9350424875885172583 tw835579572182303603 tw7109569437884625517 tw6303753849776508312 tw6186546946311570131 tw4796944399529439384 tw4306044505928344377 tw3925058337547352761 tw1990662613254998806 tw1844579638054092184 tw16180513999573275280 tw12460513235896678800 tw12068695775514034294 tw11267460052417480620 tw10334835516112321690 tw10232892982845713785 tw3989681091264729860 tw884462778480028112 tw16980678807824798630 tw793298651633848473 tw5209972925468705500 tw4897872043942243871 tw3909487445692254525 tw14887260903885229221 tw127182074747341752 tw1220935587269918946 tw12160847238032468574 tw1199609721575751273 tw11288308456836215626 tw11253656614475893769 tw10462746444925426399 tw9398170117581567635 tw8733700935345850290 tw8458868700387726220 tw7530565348055344909 tw7049883152908285626 tw5791855122715569658 tw5528353717589493308 tw4912832937387281474 tw4376533552787914342 tw18096732669502752578 tw1808503772891036566 tw16662754831228954337 tw15172418237549380341 tw13766325009765553585 tw13173684253275749887 tw13022627774764025033 tw12595176742711639320 tw12313914143779647549 tw15145396759104411250 tw11845259180567195340 tw9910129159088215032 tw9819251547791392764 tw9760493132974661228 tw9624552178203583393 tw9549128881240327227 tw9466836278430502286 tw9401522070803644690 tw8985685489786005559 tw8982025745814168605 tw8882683597491801325 tw8859154409772057214 tw8805927726870717753 tw8791769414918474889 tw8751883901766673151 tw8660576168346575933 tw8639681840312790532 tw8631598681144308906 tw8589406709807058946 tw8498833823011895611 tw8435376859783235531 tw8241810158452152244 tw8201291189038663690 tw8131766603751567242 tw8006863752071299416 tw8000023860886686873 tw7895453617763584660 tw7689715460184236667 tw73944817184520230 tw7247933066426604946 tw7173996231739297395 tw7097599949388534340 tw7049420616046372254 tw7027134563210154518 tw7005690672457526867 tw6931394848991418249 tw6747387511278599828 tw6730317506806984618 tw6572201186088695023 tw6296767320465694874 tw6243693847193187345 tw6222002753870642608 tw6142912795883448629 tw6121550309525027487 tw6053881147964456881 tw6040556344008479143 tw5643148915746797895 tw5596408544698510070 tw5569188657257457553 tw5548269991247828351 tw552519227107916868 tw5453081978707480634 tw5368590790663626210 tw5228746932738495066 tw4879587935811909985 tw4827929956601840431 tw4815573977823174512 tw4694120396185010440 tw4615343991227984678 tw4587644269026694702 tw4551490150081188303 tw4550436671053441887 tw4533689054119280616 tw4475084403245344043 tw4400067048796002025 tw4315245470973267925 tw4233711961240645879 tw422081357208536263 tw4063750966825399989 tw4005855519217483665 tw3989066850852591417 tw3717864432939045279 tw3627347343815742127 tw3504483456534923757 tw3371543081171902634 tw3332554909376659959 tw3306005138875688474 tw314322681183958901 tw3087896747828087260 tw3011134061807062387 tw285004278015591293 tw2783698268159130284 tw2722615407356807156 tw2682650185834393098 tw2592518932364244886 tw2536403291383283654 tw2479373046585359722 tw2441635627067030131 tw2401459957587930737 tw2341143187421962909 tw2297508156864059339 tw228312206410976687 tw1925069261479308958 tw1924532553906441143 tw1896704647231228769 tw18336554068825396349 tw18292730432869382499 tw18031097470528973600 tw17235515530710821311 tw17151545462042443548 tw17136744098079172318 tw17106299300826289321 tw1693176887784093594 tw16832564714274608377 tw16745946204275913353 tw16731099874550629186 tw16647339271666811435 tw1664086925431357904 tw16558697717492092110 tw16525816536353153487 tw16519300876521488492 tw16454025506307075887 tw16395259070083438933 tw16371379239805678046 tw16303412391279640199 tw16196530099339719255 tw16084496086183773360 tw15940912338988698740 tw15851564717142812814 tw15727447906801082429 tw15607679314857758429 tw15581095960623635007 tw15567494903419894132 tw15450272122751567200 tw15449139174154204732 tw15380285294837564168 tw15350190685396286279 tw15073468956673132779 tw14982458605399167984 tw14877380774315236395 tw14691006800330902292 tw14626321906131818439 tw1457626279722260563 tw14574374377149810070 tw14537426074818297677 tw14518028557573312682 tw14405619717652597962 tw14375898149744878054 tw14275598356311802376 tw14273541416153429226 tw14224130069533504776 tw14169125802522608145 tw14122099300630683112 tw14046812620686213963 tw13837747404834073152 tw13740373775100093420 tw13711250566673748657 tw13702916113868703776 tw13440128203089309945 tw1314877893941281276 tw13046893663570437182 tw13006643131217959912 tw12849403723470861783 tw1283847411722537629 tw12807545288066492388 tw12732867827911442938 tw12596675442649094558 tw12467955655263627532 tw12398592166799533729 tw12255130623937074004 tw12221887599852801833 tw1188946926722661412 tw11855588844929629825 tw11698023510705878800 tw11663052382800572563 tw11634769738321788884 tw11624909882175148796 tw11610308948821203172 tw11508026464530943981 tw1145168808068631041 tw11374951291648492186 tw11334867525816860566 tw11212578762165612311 tw11128000536867528694 tw10999280274991967956 tw10945866803647365825 tw10924393477594220507 tw1088773594111145467 tw10754607107870850540 tw10721596512540820338 tw10659519214472851515 tw10654963940222422105 tw10646666073455541302 tw10638019164528261944 tw10297671065450859716 tw10265217179631279586 tw10235481674699525162 tw10166944795704066897 tw10164575044549429563 tw10044035155987046546:True)
open PySem PySem.W PyProof.Rows
set_option maxRecDepth 100000 in
set_option maxHeartbeats 0 in
theorem PySem.Challenge.cw_wormyard_k70_whole_all_stands_holds : PySem.Challenge.rw_wormyard_k70_whole_all_stands.Holds := by
 w_on;o_law;k_head; (case hw=>w_witness2)
 k_fill
 refine K70.walk (l:=PySem.Challenge.rw_wormyard_k70_whole_all_stands) rfl rfl (fun w h Y=>PySem.W.kIn_of Y) ?F
 case F =>
  intro w mg fa h KX G hmg
  refine' K70.all_mk KX G hmg ?Aa ?Ab ?Ac ?Ad ?Ae ?Af ?Ag ?Ah ?Ai ?Aj ?Ak ?Al ?Am ?An ?Ao ?Ap ?Aq ?Ar ?As ?At ?Au ?Av ?Aw ?Ax ?Ay ?Az ?Ba ?Bb ?Bc ?Bd ?Be ?Bf ?Bg ?Bh ?Bi ?Bj ?Bk ?Bl ?Bm ?Bn ?Bo ?Bp ?Bq ?Br ?Bs ?Bt ?Bu ?Bv ?Bw ?Bx ?By ?Bz ?Ca ?Cb ?Cc ?Cd ?Ce ?Cf ?Cg ?Ch ?Ci ?Cj ?Ck ?Cl ?Cm ?Cn ?Co ?Cp ?Cq ?Cr ?Cs ?Ct ?Cu ?Cv ?Cw ?Cx ?Cy ?Cz ?Da ?Db ?Dc ?Dd ?De ?Df ?Dg ?Dh ?Di ?Dj ?Dk ?Dl ?Dm ?Dn ?Do ?Dp ?Dq ?Dr ?Ds ?Dt ?Du ?Dv ?Dw ?Dx ?Dy ?Dz ?Ea ?Eb ?Ec ?Ed ?Ee ?Ef ?Eg ?Eh ?Ei ?Ej ?Ek ?El ?Em ?En ?Eo ?Ep ?Eq ?Er ?Es ?Et ?Eu ?Ev ?Ew ?Ex ?Ey ?Ez ?Fa ?Fb ?Fc ?Fd ?Fe ?Ff ?Fg ?Fh ?Fi ?Fj ?Fk ?Fl ?Fm ?Fn ?Fo ?Fp ?Fq ?Fr ?Fs ?Ft ?Fu ?Fv ?Fw ?Fx ?Fy ?Fz ?Ga ?Gb ?Gc ?Gd ?Ge ?Gf ?Gg ?Gh ?Gi ?Gj ?Gk ?Gl ?Gm ?Gn ?Go ?Gp ?Gq ?Gr
  case Aa|Ab|Ac|Ad|Ae|Af=>k_is
  case Ag|Ah|Ai|Aj|Ak|Al|Am|An|Ao|Ap|Aq|Ar|As|At|Au|Av|Aw|Ax|Ay|Az|Ba|Bb|Bc|Bd|Be|Bf|Bg|Bh|Bi|Bj|Bk|Bl|Bm|Bn|Bo|Bp|Bq|Br|Bs|Bt|Bu|Bv|Bw|Bx|By|Bz|Ca|Cb|Cc|Cd|Ce|Cf|Cg|Ch|Ci|Cj|Ck|Cl|Cm|Cn|Co|Cp|Cq|Cr|Cs|Ct|Cu|Cv|Cw|Cx|Cy|Cz|Da|Db|Dc|Dd|De|Df|Dg|Dh|Di=>first |(refine' K70.mkT (by assumption) (by assumption) ?b ?a ?l ?c ?k;(case b=>first|exact fun _ _ _ _ _ _=>K70.len_of1 (fun _=>rfl)|exact fun _ _ _ _ _ _=>K70.len_of2 (fun _ _=>rfl)|exact fun _ _ _ _ _ _=>K70.len_of3 (fun _ _ _=>rfl)|exact fun _ _ _ _ _ _=>K70.len_of4 (fun _ _ _ _=>rfl)|exact fun _ _ _ _ _ _=>K70.len_of5 (fun _ _ _ _ _=>rfl));(case a=>k_is);(case l=>k_is);(case c=>k_is);(case k=>k_is))|(refine' K70.mkM ?b ?a ?l ?c ?k ?i;(case b=>first|exact fun _ _ _ _ _ _=>K70.len_of1 (fun _=>rfl)|exact fun _ _ _ _ _ _=>K70.len_of2 (fun _ _=>rfl)|exact fun _ _ _ _ _ _=>K70.len_of3 (fun _ _ _=>rfl)|exact fun _ _ _ _ _ _=>K70.len_of4 (fun _ _ _ _=>rfl)|exact fun _ _ _ _ _ _=>K70.len_of5 (fun _ _ _ _ _=>rfl));(case a=>k_is);(case l=>k_is);(case c=>k_is);(case k=>k_is);(case i=>k_is))|k_is
  case Dj|Dk|Dl|Dm|Dn|Do|Dp|Dq|Dr|Ds|Dt|Du|Dv|Dw|Dx|Dy|Dz|Ea|Eb|Ec|Ed|Ee|Ef|Eg|Eh|Ei|Ej|Ek|El|Em|En|Eo|Ep|Eq|Er|Es|Et|Eu|Ev|Ew|Ex|Ey|Ez|Fa|Fb|Fc|Fd|Fe|Ff|Fg|Fh|Fi|Fj|Fk|Fl|Fm|Fn|Fo|Fp|Fq|Fr|Fs=>k_is
  case Ft|Fu|Fv=>first | k_is | kernel_rfl
  case Fw|Fx|Fy|Fz|Ga|Gb|Gc|Gd=>kit_is
  case Ge|Gf|Gg|Gh|Gi|Gj|Gk|Gl|Gm|Gn|Go|Gp|Gq|Gr=>k_is
