import PyProof.Rows.All
import Wide.All
import OpenK.AllK
import Wide.FinOn
import Lean
import PyProof.EqAt
import PyProof.EqKinds
import PyProof.TupleCall
import PyProof.ExcBaseAll.ValueError
import PyProof.EnumMake
import PyProof.Rows.EnumRows
import PyProof.TupleIter
import PyProof.DictValues
import PyProof.CollectStr
import PySem.Builtin.Int.W1All
import PyProof.DictRoadsH
import PyProof.DictKinds
import PyProof.FactsAll.NoneType
import KE.KRevIter
import PyProof.FactsAll.list_3
import KE.KDictList
import PyProof.DictIter
import PyProof.DictWalks
import PyProof.ListRange
import PyProof.Rows.SumAny
import PyProof.Rows.SeqCalls
import PyProof.P3In
import KE.KNest
import PySem.Challenge.RW_wormyard_k67_whole_still_stands
set_option compiler.extract_closed false
set_option Elab.async false
set_option linter.all false
set_option maxRecDepth 100000
set_option maxHeartbeats 4000000
theorem η0(h:1=1:=by rfl):1=1:=h
def η:=η0._auto_1
theorem θ0(h:1=1:=by decide):1=1:=h
def θ:=θ0._auto_1
theorem ζ0(h:1=1:=by first | exact .inl rfl | exact .inr rfl | assumption):1=1:=h
def ζ:=ζ0._auto_1
theorem ξ0(h:1=1:=by decide +kernel):1=1:=h
def ξ:=ξ0._auto_1
theorem ψ0(h:1=1:=by intro _;rfl):1=1:=h
def ψ:=ψ0._auto_1
open PySem.W (Frag keepIn findIn fnOf codeIn nsIn mg_of isFn kitOne hasDictIn mg_none_of plainGet plainOver makesIn)
open List (getElem?_eq_getElem getElem?_map getElem?_append_left find?_cons getElem?_set_ne getElem?_concat_length getElem?_append_right all_cons all_eq_true all_map any_cons any_eq_true append_assoc append_eq_nil_iff append_nil contains_cons eq_of_mem_replicate ext_getElem? filterMap_cons filter_append filter_cons_of_neg filter_cons_of_pos filter_eq_nil_iff getD_eq_getElem?_getD getElem_map getElem_mem getElem_of_mem isEmpty_iff length_append length_cons length_drop length_eq_zero_iff length_filter_le length_map length_range length_replicate length_set length_singleton length_take length_take_le lookup_cons map_append map_congr_left map_cons map_eq_nil_iff map_map map_nil map_take mem_append mem_append_left mem_append_right mem_cons mem_cons_of_mem mem_cons_self mem_filter mem_flatMap mem_map mem_map_of_mem mem_of_getElem? mem_of_head? mem_of_mem_drop mem_of_mem_take mem_range mem_reverse mem_singleton nodup_append nodup_cons nodup_nil not_mem_nil of_mem_zip range_succ set_cons_succ set_cons_zero size_toArray sum_append sum_cons take_length take_of_length_le take_succ)
open Nat (add_zero le_of_eq le_of_lt le_succ le_trans lt_irrefl lt_of_le_of_lt lt_of_lt_of_le lt_or_ge lt_succ_self ne_of_gt ne_of_lt zero_le)
open Int (emod_eq_of_lt emod_lt_of_pos emod_nonneg natCast_add natCast_mul toNat_natCast zero_add)
open PySem.F (args_tuple_add_2 entry_tuple_add plainAttrs_list slot_list_extend slot_tuple_add type_list_extend)
open PySem.Heap (lt_size size_push)
noncomputable section
abbrev L2.zQ0:PySem.Scope:={kind:=.function,names:=[],isGenerator:=false,isCoroutine:=false}
theorem L2.gQ0 {α:Type}{l:List α}{i:Nat}{a:α}(h:l[i]?=some a):i<l.length:=(List.getElem?_eq_some_iff.mp h).1
namespace L2
theorem Fi {α:Type}{n:Nat}{l:List α}(h:l.length=n + 1):∃ a t,l=a :: t/\t.length=n:=by
 cases l with
 | nil=>cases h
 | cons a t=>exact⟨a,t,rfl,Nat.succ.inj h⟩
open PySem PySem.Spec PyProof.Rows
noncomputable abbrev kj:=Sum Int Str
noncomputable def wS:kj->Value->Bool
 | .inl k,v=>Value.isInt k v
 | .inr x,v=>Value.isStrOf x v
noncomputable def O9 (w:World):kj->Int
 | .inl k=>hashInt k
 | .inr x=>hashStr w x
theorem bL:∀ {k:kj}{v:Value},wS k v=true->(∃ i t,k=Sum.inl i/\v=Value.int i t)∨(∃ x t,k=Sum.inr x/\v=Value.str x t)
 | .inl i,v,h=>by
  obtain⟨t,e⟩:=Value.isInt_shape (k:=i) (v:=v) h
  exact .inl ⟨i,t,rfl,e⟩
 | .inr x,v,h=>by
  obtain⟨t,e⟩:=Value.isStrOf_shape (x:=x) (v:=v) h
  exact .inr ⟨x,t,rfl,e⟩
theorem yE (a b:Int):decide ((Sum.inl a:kj)=Sum.inl b)=(a == b):=by
 by_cases e:a=b
 ·subst e;simp
 ·have h:¬ (Sum.inl a:kj)=Sum.inl b:=fun q=>e (Sum.inl.inj q)
  rw[decide_eq_false h]
  exact(beq_eq_false_iff_ne.mpr e).symm
theorem yA (a b:Str):decide ((Sum.inr a:kj)=Sum.inr b)=decide (a=b):=by
 by_cases e:a=b
 ·subst e;simp
 ·have h:¬ (Sum.inr a:kj)=Sum.inr b:=fun q=>e (Sum.inr.inj q)
  rw[decide_eq_false h,decide_eq_false e]
theorem yD (a:Int)(b:Str):decide ((Sum.inl a:kj)=Sum.inr b)=false:=decide_eq_false (fun q=>nomatch q)
theorem yB (a:Str)(b:Int):decide ((Sum.inr a:kj)=Sum.inl b)=false:=decide_eq_false (fun q=>nomatch q)
noncomputable def ly (prog:Program)(w:World):PySem.KeyKind prog w kj where
 is:=wS
 hash:=O9 w
 inj:=fun v a b ha hb=>by
  rcases bL ha with ⟨i,t,rfl,rfl⟩ | ⟨x,t,rfl,rfl⟩
  ·rcases bL hb with ⟨j,u,rfl,e⟩ | ⟨y,u,rfl,e⟩
   ·injection e with e1 _;rw[e1]
   ·exact nomatch e
  ·rcases bL hb with ⟨j,u,rfl,e⟩ | ⟨y,u,rfl,e⟩
   ·exact nomatch e
   ·injection e with e1 _;rw[e1]
 byValue:=fun k v h=>by
  rcases bL h with ⟨i,t,rfl,rfl⟩ | ⟨x,t,rfl,rfl⟩<;>rfl
 pyHash:=fun hv h=>by
  rcases bL hv with ⟨i,t,rfl,rfl⟩ | ⟨x,t,rfl,rfl⟩
  ·exact wpAny_pyHash_int h
  ·exact wpAny_pyHash_str h
 eqBool:=fun hu hv h=>by
  rcases bL hu with ⟨i,t,rfl,rfl⟩ | ⟨x,t,rfl,rfl⟩
  ·rcases bL hv with ⟨j,u,rfl,rfl⟩ | ⟨y,u,rfl,rfl⟩
   ·rw[yE]at h;exact wpAny_eqBool_int h
   ·rw[yD]at h;exact SeqAt.EqAt.int_str i t y u _ _ _ _ h
  ·rcases bL hv with ⟨j,u,rfl,rfl⟩ | ⟨y,u,rfl,rfl⟩
   ·rw[yB]at h;exact SeqAt.EqAt.str_int x t j u _ _ _ _ h
   ·rw[yA]at h;exact wpAny_eqBool_str h
 «strs»:=fun k x t v h=>by
  rcases bL h with ⟨i,u,rfl,e⟩ | ⟨y,u,rfl,e⟩
  ·exact nomatch e
  ·injection e with e1 _
   subst e1
   cases v<;>rfl
open PySem.Spec PyProof.Rows
inductive V where
 | zD | bl (b:Bool) | int (i:Int) | str (x:Str) | CJ (b:Array UInt8) | G0 (b:UInt64) | ref (a:Addr) | ty (n:String)
 deriving DecidableEq
noncomputable def RelV:V->Value->Prop
 | .zD,u=>u=Value.none
 | .bl b,u=>u=Value.bool b
 | .int i,u=>∃ t,u=Value.int i t
 | .str x,u=>∃ t,u=Value.str x t
 | .CJ b,u=>∃ t,u=Value.bytes b t
 | .G0 b,u=>∃ t,u=Value.float b t
 | .ref a,u=>u=Value.ref a
 | .ty n,u=>u=Value.type n
noncomputable abbrev Vals:List V->List Value->Prop:=Paired RelV
theorem Vals.length {xs:List V}{us:List Value}(r:Vals xs us):xs.length=us.length:=Paired.length r
theorem Vals.get:∀ {xs:List V}{us:List Value}{i:Nat}{x:V},Vals xs us->xs[i]? = some x->∃ u,us[i]? = some u/\RelV x u
 | _,_,_,_, .nil,e=>by simp at e
 | _,_,0,_, .cons r _,e=>by simp at e;subst e;exact⟨_,rfl,r⟩
 | _,_,i + 1,x, .cons _ t,e=>by
  obtain⟨u,h1,h2⟩:=Vals.get (i:=i) (x:=x) t (by simpa using e)
  exact⟨u,by simpa using h1,h2⟩
theorem Vals.set {x:V}{u:Value}(r:RelV x u):∀ {xs:List V}{us:List Value}(i:Nat),Vals xs us->Vals (xs.set i x) (us.set i u)
 | _,_,_, .nil => .nil
 | _,_,0, .cons _ t => .cons r t
 | _,_,i + 1, .cons q t => .cons q (Vals.set r i t)
theorem Vals.append:∀ {xs ys:List V}{us ws:List Value},Vals xs us->Vals ys ws->Vals (xs ++ ys) (us ++ ws)
 | _,_,_,_, .nil,s=>s
 | _,_,_,_, .cons r t,s => .cons r (Vals.append t s)
theorem Vals.take:∀ {xs:List V}{us:List Value}(n:Nat),Vals xs us->Vals (xs.take n) (us.take n)
 | _,_,0,_ => .nil
 | _,_,_ + 1, .nil => .nil
 | _,_,n + 1, .cons r t => .cons r (Vals.take n t)
theorem Vals.drop:∀ {xs:List V}{us:List Value}(n:Nat),Vals xs us->Vals (xs.drop n) (us.drop n)
 | _,_,0,r=>r
 | _,_,_ + 1, .nil => .nil
 | _,_,n + 1, .cons _ t=>Vals.drop n t
noncomputable def AL:Option V->Option Value->Prop
 | some v,some u=>RelV v u
 | none,none=>True
 | _,_=>False
noncomputable def KV {κ:Type}:List (κ × V)->List (κ × Value)->Prop:=Paired fun (p:κ × V)(q:κ × Value)=>p.1=q.1/\RelV p.2 q.2
noncomputable def kV:kj->V
 | .inl i => .int i
 | .inr x => .str x
inductive HO where
  | lst (xs:List V)
  | tup (xs:List V)
  | dK (zq:List (kj × V)) | dT (zq:List (List kj × V))
  | set (S:Int->Bool) (n:Nat)
  | ins (C dx:Addr) (fs:List (Str × V))
  | own (x:Addr)
  | xd (fs:List (Str × V))
  | met (f x:Addr)
  | Nb (lo hi:Int)
  | Cy (o:Obj) (u:HO)
  | Bb (ps:Array Value)
  | ext (φ:Heap->Prop)
noncomputable abbrev Hp:=Addr->Option HO
noncomputable def upd (H:Hp)(a:Addr)(o:HO):Hp:=fun b=>if b=a then some o else H b
theorem ac {H:Hp}{a:Addr}{o:HO}:upd H a o a=some o:=by unfold upd;rw[if_pos rfl]
theorem ae {H:Hp}{a b:Addr}{o:HO}(h:b ≠ a):upd H a o b=H b:=by unfold upd;rw[if_neg h]
theorem b8 {H:Hp}{a b:Addr}{o u:HO}(h:H a=some o)(h':H b=some u)(d:o ≠ u):a ≠ b:=by
 intro e;subst e;rw[h]at h';exact d (Option.some.inj h')
theorem ag {H:Hp}{a b:Addr}{o:HO}(h:H a=some o)(h':H b=none):a ≠ b:=by
 intro e;subst e;rw[h]at h';cases h'
noncomputable def Aw (h:Heap)(a:Addr)(items:Array Value):Prop:=∃ o,h.get? a=some o/\(o.cls = .type "tuple"/\∃ n,o.data = .seq items n)/\o.dict=none
theorem Aw.isTup {h:Heap}{a:Addr}{items:Array Value}:Aw h a items->IsTup h a items:=fun zk=>by obtain⟨o,e,c,_⟩:=zk;exact⟨o,e,c⟩
theorem Aw.new (h:Heap)(items:Array Value):Aw (h.push { cls := .type "tuple",data := .seq items }) h.objs.size items:=⟨_,Heap.get?_push_size _ rfl,⟨rfl,_,rfl⟩,rfl⟩
section
variable (P:Program)(w:World)
noncomputable def zL (H:Hp)(h:Heap)(a:Addr):HO->Prop
 | .lst xs=>xs.length <= sizeLine/\∃ (zl:List Value)(n:Nat),Vals xs zl/\h.get? a=some { cls := .type "list",data := .seq zl.toArray n }
 | .tup xs=>xs.length <= sizeLine/\∃ zl:List Value,Vals xs zl/\Aw h a zl.toArray
 | .dK zq=>zq.length <= sizeLine/\(a == sysModules)=false/\∃ vs,KV zq vs/\h.DictOf (ly P w) a vs
 | .dT zq=>zq.length <= sizeLine/\(a == sysModules)=false/\∃ xs:List (List kj × Addr × Value),
   Paired (fun (p:List kj × V)(q:List kj × Addr × Value)=>p.1=q.1/\H q.2.1=some (.tup (p.1.map kV))/\RelV p.2 q.2.2) zq xs /\
   ∃ o es ep,h.get? a=some o/\o.ExactDict/\o.data = .dict es ep/\es.toList=xs.map (entryOfKey (tupleKind (ly P w)))/\(xs.map (·.1)).Nodup
 | .set S n=>h.SetOf (intKind P w) a S n
 | .ins C dx fs=>H dx=some (.own a)/\fs.length <= 1000/\dx ≠ a/\h.get? a=some (PySem.W.instObj C dx) /\
   ∃ mA,h.Ns1 dx mA/\(∀ f,AL (fs.lookup f) (mA f))/\PySem.Within mA (fs.map (·.1))
 | .own _=>∃ o,h.get? a=some o
 | .xd fs=>∃ mA,h.Ns1 a mA/\∀ f,AL (fs.lookup f) (mA f)
 | .Nb lo hi=>∃ t u v,h.get? a=some { cls := .type "range",data := .fields #[.int lo t, .int hi u, .int 1 v] }
 | .Cy o u=>h.get? a=some o/\zL H h a u
 | .Bb ps=>h.get? a=some { cls := .none,data := .fields ps }
 | .met f x=>h.get? a=some (PySem.W.methodObj (.ref f) (.ref x))
 | .ext φ=>φ h/\(∃ o,h.get? a=some o)/\∀ h1 h2:Heap,φ h1->(∀ o,h1.get? a=some o->h2.get? a=some o)->φ h2
noncomputable def AE (H:Hp)(h:Heap):Prop:=∀ a o,H a=some o->zL P w H h a o
end
section
variable {P:Program}{w:World}{H H':Hp}{h h':Heap}{a:Addr}{o:HO}
theorem zL.lt (x:zL P w H h a o):a < h.objs.size:=by
 cases o with
 | lst xs=>obtain⟨_,_,_,_,e⟩:=x;exact lt_size e
 | tup xs=>obtain⟨_,_,_,p⟩:=x;exact p.isTup.lt
 | dK zq=>obtain⟨_,_,_,_,o,_,_,e,_⟩:=x;exact lt_size e
 | dT zq=>obtain⟨_,_,_,_,o,_,_,e,_⟩:=x;exact lt_size e
 | set S n=>obtain⟨o,_,_,_,e,_⟩:=x;exact lt_size e
 | ins C dx fs=>obtain⟨_,_,_,e,_⟩:=x;exact lt_size e
 | own y=>obtain⟨_,e⟩:=x;exact lt_size e
 | xd fs=>obtain⟨_,⟨_,_,_,e,_⟩,_⟩:=x;exact lt_size e
 | Nb lo hi=>obtain⟨_,_,_,e⟩:=x;exact lt_size e
 | Cy ob u=>obtain⟨e,_⟩:=x;exact lt_size e
 | Bb ps=>exact lt_size (show h.get? a=some _ from x)
 | met f y=>exact lt_size (show h.get? a=some _ from x)
 | ext φ=>obtain⟨_,⟨_,e⟩,_⟩:=x;exact lt_size e
theorem Paired.Jd {α β:Type}{F G:α->β->Prop}:∀ {l₁:List α}{l₂:List β},Paired F l₁ l₂->(∀ a b,F a b->G a b)->Paired G l₁ l₂
 | _,_, .nil,_ => .nil
 | _,_, .cons r t,f => .cons (f _ _ r) (Paired.Jd t f)
theorem zL.AA (x:zL P w H h a o)(k:∀ b u,(b=a∨H b=some (.own a))->h.get? b=some u->h'.get? b=some u)
  (ho:∀ b,H b=some (.own a)->H' b=some (.own a)) (ht:∀ b xs,H b=some (.tup xs)->H' b=some (.tup xs)):zL P w H' h' a o:=by
 induction o with
 | lst xs=>obtain⟨z,zl,n,r,e⟩:=x;exact⟨z,zl,n,r,k _ _ (.inl rfl) e⟩
 | tup xs=>obtain⟨z,zl,r,ob,e,c⟩:=x;exact⟨z,zl,r,ob,k _ _ (.inl rfl) e,c⟩
 | dK zq=>obtain⟨z,y,vs,r,ob,es,ep,e,c⟩:=x;exact⟨z,y,vs,r,ob,es,ep,k _ _ (.inl rfl) e,c⟩
 | dT zq =>
  obtain⟨z,y,xs,r,ob,es,ep,e,c⟩:=x
  exact⟨z,y,xs,Paired.Jd r fun p q z=>⟨z.1,ht _ _ z.2.1,z.2.2⟩,ob,es,ep,k _ _ (.inl rfl) e,c⟩
 | set S n=>obtain⟨ob,es,ep,t,e,c⟩:=x;exact⟨ob,es,ep,t,k _ _ (.inl rfl) e,c⟩
 | ins C dx fs =>
  obtain⟨d,z,ne,e,mA,⟨od,es,ep,e2,c⟩,r⟩:=x
  exact⟨ho _ d,z,ne,k _ _ (.inl rfl) e,mA,⟨od,es,ep,k _ _ (.inr d) e2,c⟩,r⟩
 | own y=>obtain⟨ob,e⟩:=x;exact⟨ob,k _ _ (.inl rfl) e⟩
 | xd fs=>obtain⟨mA,⟨od,es,ep,e,c⟩,r⟩:=x;exact⟨mA,⟨od,es,ep,k _ _ (.inl rfl) e,c⟩,r⟩
 | Nb lo hi=>obtain⟨t,u,v,e⟩:=x;exact⟨t,u,v,k _ _ (.inl rfl) e⟩
 | Cy ob u ih=>obtain⟨e,q⟩:=x;exact⟨k _ _ (.inl rfl) e,ih q⟩
 | Bb ps =>
  have e:h.get? a=some { cls := .none,data := .fields ps }:=x
  show h'.get? a=some { cls := .none,data := .fields ps }
  exact k a _ (.inl rfl) e
 | met f y =>
  have e:h.get? a=some (PySem.W.methodObj (.ref f) (.ref y)):=x
  show h'.get? a=some (PySem.W.methodObj (.ref f) (.ref y))
  exact k a _ (.inl rfl) e
 | ext φ=>obtain⟨p,⟨o,e⟩,st⟩:=x;exact⟨st _ _ p fun o q=>k _ _ (.inl rfl) q,⟨o,k _ _ (.inl rfl) e⟩,st⟩
theorem AE.lt (x:AE P w H h)(e:H a=some o):a < h.objs.size:=(x a o e).lt
theorem AE.fresh (x:AE P w H h)(e:h.objs.size <= a):H a=none:=by
 cases q:H a with
 | none=>rfl
 | some u=>exact absurd (lt_of_lt_of_le (x.lt q) e) (lt_irrefl _)
theorem AE.kept (x:AE P w H h)(k:∀ b u,h.get? b=some u->h'.get? b=some u):AE P w H h':=fun a o e =>
 (x a o e).AA (fun b u _ q=>k b u q) (fun _ q=>q) fun _ _ q=>q
theorem AE.laid (x:AE P w H h)(k:∀ b u,h.get? b=some u->h'.get? b=some u)(hp:h.objs.size <= a)(new:zL P w (upd H a o) h' a o):AE P w (upd H a o) h':=fun b u e=>by
 have hn:=x.fresh hp
 by_cases hb:b=a
 ·subst hb;rw[ac]at e;cases e;exact new
 ·rw[ae hb]at e
  exact(x b u e).AA (fun c v _ q=>k c v q) (fun c q=>by rw[ae (ag q hn)];exact q) fun c xs q=>by rw[ae (ag q hn)];exact q
end
noncomputable def Rd (H:Hp)(a:Addr)(u:HO):Prop:=H a=some u∨∃ o,H a=some (.Cy o u)
theorem Rd.ok {P:Program}{w:World}{H:Hp}{h:Heap}{a:Addr}{u:HO}(r:Rd H a u)(x:AE P w H h):zL P w H h a u:=by
 rcases r with r | ⟨o,r⟩
 ·exact x a u r
 ·obtain⟨_,q⟩:=x a _ r
  exact q
noncomputable def Nc:Option HO->Prop
 | some (.lst _)=>True
 | some (.dK _)=>True
 | some (.dT _)=>True
 | some (.set _ _)=>True
 | some (.ins _ _ _)=>True
 | some (.ext _)=>True
 | _=>False
section
variable {P:Program}{w:World}{H:Hp}{h h':Heap}{x e:Addr}{o':HO}
theorem AE.write (ok:AE P w H h)(mu:Nc (H x))(he:e=x∨H e=some (.own x))(k:∀ b u,b ≠ e->h.get? b=some u->h'.get? b=some u)(Ig:∃ u,h'.get? e=some u)
  (new:zL P w (upd H x o') h' x o'):AE P w (upd H x o') h':=fun b u q=>by
 have Je:∀ c y,H c=some (.own y)->c ≠ x:=fun c y r z=>by subst z;rw[r]at mu;exact mu
 have OA:∀ c xs,H c=some (.tup xs)->c ≠ x:=fun c xs r z=>by subst z;rw[r]at mu;exact mu
 by_cases hb:b=x
 ·subst hb;rw[ac]at q;cases q;exact new
 ·rw[ae hb]at q
  by_cases Bh:b=e
  ·have q':H b=some (.own x):=by
    rcases he with z | z
    ·exact absurd (Bh.trans z) hb
    ·rw[Bh];exact z
   rw[q]at q';cases q'
   obtain⟨v,hv⟩:=Ig
   exact⟨v,by rw[Bh];exact hv⟩
  ·refine(ok b u q).AA (fun c v hc r=>k c v ?_ r) (fun c r=>by rw[ae (Je c b r)];exact r) fun c xs r=>by rw[ae (OA c xs r)];exact r
   rcases hc with rfl | hc
   ·exact Bh
   ·rintro rfl
    rcases he with z | z
    ·exact Je c b hc z
    ·rw[hc]at z;cases z;exact hb rfl
end
structure Un (fs ex:List Addr)(H H':Hp)(h h':Heap):Prop where
 keep:∀ b o,h.get? b=some o->H b=none->b ∉ fs->b ∉ ex->h'.get? b=some o
 slot:∀ b o,h.get? b=some o->H b=none->b ∈ fs->b ∉ ex->∃ sl,h'.get? b=some { o with slots:=sl }
 free:∀ b o,h.get? b=some o->H b=none->b ∉ ex->H' b=none
 there:∀ b o,h.get? b=some o->b ∉ ex->∃ o',h'.get? b=some o'
 B1:∀ b xs,H b=some (.tup xs)->H' b=some (.tup xs)
 Bo:∀ b o u,H b=some (.Cy o u)->H' b=some (.Cy o u)
 Bp:∀ b ps,H b=some (.Bb ps)->∃ more,H' b=some (.Bb (ps ++ more))
section
variable {fs Ih ex Ii:List Addr}{H H1 H2:Hp}{h h1 h2 h':Heap}{a x e:Addr}{o:HO}
theorem Un.any (u:Un fs ex H H1 h h1){b:Addr}{ob:Obj}(q:h.get? b=some ob)(n:H b=none)(hx:b ∉ ex):∃ sl,h1.get? b=some { ob with slots:=sl }:=by
 by_cases hb:b ∈ fs
 ·exact u.slot b ob q n hb hx
 ·exact⟨ob.slots,u.keep b ob q n hb hx⟩
theorem Un.kept (k:∀ b u,h.get? b=some u->h'.get? b=some u):Un fs ex H H h h' :=
 ⟨fun b ob q _ _ _=>k b ob q,fun b ob q _ _ _=>⟨ob.slots,k b ob q⟩,fun _ _ _ n _=>n,fun b ob q _=>⟨ob,k b ob q⟩,fun _ _ q=>q,fun _ _ _ q=>q,fun _ ps q=>⟨#[],by rw[q];simp⟩⟩
theorem Un.refl:Un fs ex H H h h:=Un.kept fun _ _ q=>q
theorem Un.laid (k:∀ b u,h.get? b=some u->h'.get? b=some u)(hp:h.objs.size <= a)(hn:H a=none):Un fs ex H (upd H a o) h h' where
 keep:=fun b u q _ _ _=>k b u q
 slot:=fun b u q _ _ _=>⟨u.slots,k b u q⟩
 free:=fun b u q n _=>by rw[ae (ne_of_lt (lt_of_lt_of_le (lt_size q) hp))];exact n
 there:=fun b u q _=>⟨u,k b u q⟩
 B1:=fun b xs q=>by rw[ae (ag q hn)];exact q
 Bo:=fun b u xs q=>by rw[ae (ag q hn)];exact q
 Bp:=fun b ps q=>⟨#[],by rw[ae (ag q hn),q];simp⟩
theorem Un.write (mu:Nc (H x))(he:e=x∨H e=some (.own x))(k:∀ b u,b ≠ e->h.get? b=some u->h'.get? b=some u)(Ig:∃ u,h'.get? e=some u):Un fs ex H (upd H x o) h h':=by
 have hx:∀ b,H b=none->b ≠ x:=fun b n z=>by subst z;rw[n]at mu;exact mu
 have hb:∀ b,H b=none->b ≠ e:=fun b n z=>by
  subst z
  rcases he with r | r
  ·exact hx b n r
  ·rw[n]at r;cases r
 have hm:∀ b u,H b=some u->¬ Nc (some u)->b ≠ x:=fun b u q nm z=>by subst z;rw[q]at mu;exact nm mu
 refine⟨fun b u q n _ _=>k b u (hb b n) q,fun b u q n _ _=>⟨u.slots,k b u (hb b n) q⟩,fun b u q n _=>by rw[ae (hx b n)];exact n,fun b u q _=>?_,
  fun b xs q=>by rw[ae (hm b _ q fun z=>z)];exact q,fun b u xs q=>by rw[ae (hm b _ q fun z=>z)];exact q,fun b ps q=>⟨#[],by rw[ae (hm b _ q fun z=>z),q];simp⟩⟩
 by_cases Bh:b=e
 ·subst Bh;exact Ig
 ·exact⟨u,k b u Bh q⟩
end
noncomputable def Nd (h:Heap)(H:Hp):List Addr:=(List.range h.objs.size).filter fun a=>(H a).isSome
noncomputable def jZ (h:Heap)(H:Hp):Heap:=PySem.W.hideAll h (Nd h H)
theorem rc (h:Heap)(H:Hp):(jZ h H).objs.size=h.objs.size:=PySem.W.hideAll_size _ _
theorem ud {h:Heap}{H:Hp}{b:Addr}{o:Obj}(e:h.get? b=some o)(n:H b=none):(jZ h H).get? b=some o :=
 PySem.W.hideAll_get _ e fun hm=>by
  have q:(H b).isSome=true:=(mem_filter.mp hm).2
  rw[n]at q;simp at q
theorem vR {h:Heap}{H:Hp}{b:Addr}{o:Obj}(e:(jZ h H).get? b=some o):h.get? b=some o/\H b=none:=by
 have e':h.get? b=some o:=PySem.W.of_hideAll (Nd h H) e
 refine⟨e',?_⟩
 cases q:H b with
 | none=>rfl
 | some x =>
  have hm:b ∈ Nd h H:=mem_filter.mpr ⟨mem_range.mpr (lt_size e'),by simp[q]⟩
  have z:(jZ h H).get? b=none:=PySem.W.hideAll_none (Nd h H) hm
  rw[z]at e;cases e
structure Mod (K:Frag)(mg:Str->Option Value)(base:Heap):Prop where
 BY:K.In base
 glob:base.Ns mainGlobals mg
 blt:∃ mb,base.Ns builtinsNs mb/\∀ x:Str,x ≠ "__name__"->mb x=bootBuiltins x
 nolimit:base.NoLimit
structure Cx where
 prog:Program
 w:World
 K:Frag
 mg:Str->Option Value
 base:Heap
 A:Around
 N:List Str
 s₀:Shared
 H₀:Hp
 env:Env
 outer:List Env
 stack:List Env
 ex:List Addr
 fn:Str->Bool
 calm:Bool
 pn:List (Addr × Obj)
 xe:Value->Shared->Prop
noncomputable def jK (l:List Env):List Addr:=l.filterMap (·.frame)
noncomputable abbrev Cx.fs (X:Cx):List Addr:=jK X.outer
noncomputable def Nf (sc:Scope)(x:Str):Prop:=sc.names.lookup x=some .local∨sc.names.lookup x=some .cell∨sc.names.lookup x=some .free
noncomputable def Loc (sc:Scope)(x:Str):Prop:=sc.names.lookup x=some .local∨sc.names.lookup x=some .cell
noncomputable def Look (env:Env)(h:Heap)(m:Str->Option Value)(x:Str)(u:Value):Prop :=
 (env.kindOf x=some .local/\m x=some u)∨((env.kindOf x=some .cell∨env.kindOf x=some .free)/\∃ c,env.cells.lookup x=some c/\h.IsCell c (some u))
structure Cx.Ok (X:Cx):Prop where
 mod:Mod X.K X.mg X.base
 kind:X.env.scope.kind = .function
 glob:X.env.globals=mainGlobals
 blt:X.env.builtins=builtinsNs
 above:X.s₀.heap.objs.size <= X.env.locals
 inj:∀ x y c,X.env.cells.lookup x=some c->X.env.cells.lookup y=some c->x=y
 has:∀ x,(X.env.kindOf x=some .cell∨X.env.kindOf x=some .free)->∃ c,X.env.cells.lookup x=some c
 Fj:∀ x c,X.fn x=true->X.env.cells.lookup x=some c->X.s₀.heap.objs.size <= c
 hd:X.calm=true->X.A.handled=none
 frames:X.A.frames=some X.stack
 Ij:X.stack=X.outer∨(X.stack=X.env :: X.outer/\X.env.frame=some X.env.locals)
 Ng:∀ b ∈ X.ex,b ≠ X.env.locals/\∀ x c,X.env.cells.lookup x=some c->c ≠ b
 bs:∀ b o,X.base.get? b=some o->X.s₀.heap.get? b=some o/\X.H₀ b=none
 Dx:X.base.objs.size <= X.s₀.heap.objs.size
 Cz:∀ b o,X.base.get? b=some o->b ∉ X.ex
 CT:∀ b ∈ X.ex,b ∉ X.fs
 AB:X.s₀.heap.FunFrames X.base X.outer
 Ef:∀ b ∈ X.fs,X.H₀ b=none
structure Inv (X:Cx)(pins:List (Addr × Obj))(σ:List (Option V))(H:Hp)(s:Shared):Prop where
 ok:X.Ok
 os:s.os=X.s₀.os
 bare:AllBare s.gens
 base:Un X.fs X.ex X.H₀ H X.s₀.heap s.heap
 loc:∃ m,s.heap.Ns X.env.locals m/\∀ (i:Nat)(x:Str)(v:V),X.N[i]? = some x->σ[i]? = some (some v)->Nf X.env.scope x->∃ u,RelV v u/\Look X.env s.heap m x u
 cell:∀ x c,X.env.cells.lookup x=some c->∃ v,s.heap.IsCell c v
 free:H X.env.locals=none
 zU:∀ x c,X.env.cells.lookup x=some c->H c=none
 pin:∀ p ∈ X.pn ++ pins,s.heap.get? p.1=some p.2/\H p.1=none/\p.1 ≠ X.env.locals/\p.1 ∉ X.fs/\∀ v,p.2.data ≠ .cell v
 zp:AE X.prog X.w H s.heap
 len:σ.length=X.N.length
section
variable {X:Cx}{pins:List (Addr × Obj)}{σ:List (Option V)}{H H':Hp}{s:Shared}{h':Heap}
theorem Cx.Ok.OB (ok:X.Ok){b:Addr}{o:Obj}(e:X.base.get? b=some o):b ∉ X.fs:=fun hb=>by
 have:=(ok.AB.mem hb).1
 rw[e]at this;cases this
theorem Inv.bs (I:Inv X pins σ H s):∀ b o,X.base.get? b=some o->s.heap.get? b=some o/\H b=none:=fun b o e =>
 ⟨I.base.keep b o (I.ok.bs b o e).1 (I.ok.bs b o e).2 (I.ok.OB e) (I.ok.Cz b o e),I.base.free b o (I.ok.bs b o e).1 (I.ok.bs b o e).2 (I.ok.Cz b o e)⟩
theorem Inv.bk (I:Inv X pins σ H s):∀ b o,X.base.get? b=some o->s.heap.get? b=some o:=fun b o e=>(I.bs b o e).1
theorem Inv.mod (I:Inv X pins σ H s):Mod X.K X.mg X.base:=I.ok.mod
theorem Inv.Al (I:Inv X pins σ H s):X.K.In s.heap:=I.ok.mod.BY.keeps I.bk
theorem Inv.lt (I:Inv X pins σ H s):X.env.locals < s.heap.objs.size:=let ⟨_,hn,_⟩:=I.loc;hn.lt
theorem Inv.sz (I:Inv X pins σ H s):X.s₀.heap.objs.size <= s.heap.objs.size:=le_trans I.ok.above (le_of_lt I.lt)
theorem Inv.G5 (I:Inv X pins σ H s){a:Addr}(h:s.heap.objs.size <= a):a ∉ X.fs:=fun hb=>by
 obtain⟨_,o,ho,_⟩:=I.ok.AB.mem hb
 exact absurd (lt_of_lt_of_le (lt_size ho) (le_trans I.sz h)) (lt_irrefl _)
theorem Inv.CU (I:Inv X pins σ H s):∀ x c,X.env.cells.lookup x=some c->c ≠ X.env.locals:=fun x c e z=>by
 obtain⟨v,o,ho,hd⟩:=I.cell x c e
 obtain⟨m,⟨o',es,ep,Ez,Fm,_⟩,_⟩:=I.loc
 rw[z,Ez]at ho;cases ho;rw[Fm]at hd;cases hd
theorem Inv.AB (I:Inv X pins σ H s):s.heap.FunFrames X.base X.outer:=by
 have all:∀ (l:List Env),(∀ b ∈ jK l,b ∈ X.fs)->X.s₀.heap.FunFrames X.base l->s.heap.FunFrames X.base l:=by
  intro l
  induction l with
  | nil=>intro _ _;trivial
  | cons env r ih =>
   intro hs hl
   obtain⟨hk,⟨L,o,hf,hn,ho,hd⟩,hr⟩:=hl
   have hL:L ∈ X.fs:=hs L (by unfold jK;rw[filterMap_cons,hf];exact mem_cons_self)
   obtain⟨sl,e⟩:=I.base.slot L o ho (I.ok.Ef L hL) hL fun z=>I.ok.CT L z hL
   exact⟨hk,⟨L,_,hf,hn,e,hd⟩,ih (fun b hb=>hs b (by unfold jK;rw[filterMap_cons,hf];exact mem_cons_of_mem _ hb)) hr⟩
 exact all X.outer (fun _ hb=>hb) I.ok.AB
theorem Inv.stack (I:Inv X pins σ H s):s.heap.FunFrames X.base X.stack:=by
 rcases I.ok.Ij with e | ⟨e,hf⟩
 ·rw[e];exact I.AB
 ·rw[e]
  obtain⟨m,hn,_⟩:=I.loc
  refine .cons (by rw[I.ok.kind];decide) hf hn ?_ I.AB
  exact Heap.get?_none_of_le (le_trans I.ok.Dx I.ok.above)
theorem Inv.Ax (I:Inv X pins σ H s):∀ b ∈ jK X.stack,b ∈ X.env.locals :: X.fs:=fun b hb=>by
 rcases I.ok.Ij with e | ⟨e,hf⟩
 ·rw[e]at hb;exact mem_cons_of_mem _ hb
 ·rw[e]at hb
  unfold jK at hb
  rw[filterMap_cons,hf]at hb
  exact hb
theorem Inv.Bv (I:Inv X pins σ H s):∀ b ∈ jK X.stack,H b=none:=fun b hb=>by
 rcases mem_cons.mp (I.Ax b hb) with e | hb
 ·rw[e];exact I.free
 ·obtain⟨_,o,ho,_⟩:=I.ok.AB.mem hb
  exact I.base.free b o ho (I.ok.Ef b hb) fun z=>I.ok.CT b z hb
theorem Inv.step {g':Array GenState}{t':Nat}{d':Drawn}{ch:List Addr}(I:Inv X pins σ H s)
  (B7:∀ b ∈ ch,(b ∈ X.ex∨X.s₀.heap.objs.size <= b)/\b ≠ X.env.locals/\(∀ x c,X.env.cells.lookup x=some c->c ≠ b)/\∀ p ∈ X.pn ++ pins,p.1 ≠ b)
  (keep:∀ b o,b ≠ X.env.locals->b ∉ X.fs->b ∉ ch->s.heap.get? b=some o->H b=none->h'.get? b=some o)
  (slot:∀ b o,b ≠ X.env.locals->b ∈ X.fs->b ∉ ch->s.heap.get? b=some o->H b=none->∃ sl,h'.get? b=some { o with slots:=sl }) (free:∀ b o,b ∉ ch->s.heap.get? b=some o->H b=none->H' b=none)
  (there:∀ b o,b ∉ ch->s.heap.get? b=some o->∃ o',h'.get? b=some o')
  (B1:∀ b xs,H b=some (.tup xs)->H' b=some (.tup xs)) (Bo:∀ b o u,H b=some (.Cy o u)->H' b=some (.Cy o u)) (Bp:∀ b ps,H b=some (.Bb ps)->∃ more,H' b=some (.Bb (ps ++ more)))
  (ns:∀ m,s.heap.Ns X.env.locals m->h'.Ns X.env.locals m) (zp:AE X.prog X.w H' h') (hg:AllBare g') :
  Inv X pins σ H' { s with heap:=h',gens:=g',drawn:=d',toks:=t' }:=by
 have Uq:∀ b o,X.s₀.heap.get? b=some o->b ≠ X.env.locals:=fun b o e=>ne_of_lt (lt_of_lt_of_le (lt_size e) I.ok.above)
 have Nh:∀ b o,X.s₀.heap.get? b=some o->b ∉ X.ex->b ∉ ch:=fun b o e hx hb=>by
  rcases (B7 b hb).1 with z | z
  ·exact hx z
  ·exact absurd (lt_of_lt_of_le (lt_size e) z) (lt_irrefl _)
 have cellK:∀ x c,X.env.cells.lookup x=some c->∀ v,s.heap.IsCell c v->h'.IsCell c v:=fun x c e v ⟨o,ho,hd⟩=>by
  have Jf:c ∉ ch:=fun z=>(B7 c z).2.2.1 x c e rfl
  by_cases hc:c ∈ X.fs
  ·obtain⟨sl,q⟩:=slot c o (I.CU x c e) hc Jf ho (I.zU x c e)
   exact⟨_,q,hd⟩
  ·exact⟨o,keep c o (I.CU x c e) hc Jf ho (I.zU x c e),hd⟩
 refine⟨I.ok,I.os,hg,⟨fun b o e n hb hx=>?_,fun b o e n hb hx=>?_,fun b o e n hx=>?_,fun b o e hx=>?_,fun b xs e=>B1 b xs (I.base.B1 b xs e),fun b o xs e=>Bo b o xs (I.base.Bo b o xs e),fun b ps e=>?_⟩,?_,fun x c e=>?_,?_,fun x c e=>?_,fun p hp=>?_,zp,I.len⟩
 ·exact keep b o (Uq b o e) hb (Nh b o e hx) (I.base.keep b o e n hb hx) (I.base.free b o e n hx)
 ·obtain⟨sl,e1⟩:=I.base.slot b o e n hb hx
  obtain⟨sl',e2⟩:=slot b _ (Uq b o e) hb (Nh b o e hx) e1 (I.base.free b o e n hx)
  exact⟨sl',e2⟩
 ·obtain⟨o',e1⟩:=I.base.there b o e hx
  exact free b o' (Nh b o e hx) e1 (I.base.free b o e n hx)
 ·obtain⟨o',e1⟩:=I.base.there b o e hx
  exact there b o' (Nh b o e hx) e1
 ·obtain⟨m1,e1⟩:=I.base.Bp b ps e
  obtain⟨m2,e2⟩:=Bp b _ e1
  exact⟨m1 ++ m2,by rw[e2,Array.append_assoc]⟩
 ·obtain⟨m,hn,hl⟩:=I.loc
  refine⟨m,ns m hn,fun i x v e1 e2 e3=>?_⟩
  obtain⟨u,r,l⟩:=hl i x v e1 e2 e3
  refine⟨u,r,?_⟩
  rcases l with l | ⟨k,c,e,z⟩
  ·exact .inl l
  ·exact .inr ⟨k,c,e,cellK x c e _ z⟩
 ·obtain⟨v,z⟩:=I.cell x c e
  exact⟨v,cellK x c e v z⟩
 ·obtain⟨m,⟨o,_,_,ho,_⟩,_⟩:=I.loc
  exact free _ o (fun z=>(B7 _ z).2.1 rfl) ho I.free
 ·obtain⟨v,o,ho,hd⟩:=I.cell x c e
  exact free c o (fun z=>(B7 c z).2.2.1 x c e rfl) ho (I.zU x c e)
 ·obtain⟨e,n,ne,nf,d⟩:=I.pin p hp
  have Jf:p.1 ∉ ch:=fun z=>(B7 p.1 z).2.2.2 p hp rfl
  exact⟨keep p.1 p.2 ne nf Jf e n,free p.1 p.2 Jf e n,ne,nf,d⟩
theorem Inv.un {t':Nat}(I:Inv X pins σ H s)(u:Un X.fs [] H H' s.heap h')(zp:AE X.prog X.w H' h'):Inv X pins σ H' { s with heap:=h',toks:=t' }:=by
 obtain⟨m,⟨o,es,ep,ho,r⟩,_⟩:=id I.loc
 obtain⟨sl,hL⟩:=u.any ho I.free (by simp)
 exact I.step (g':=s.gens) (d':=s.drawn) (ch:=[]) (fun _ z=>nomatch z) (fun b o _ hb _ e n=>u.keep b o e n hb (by simp)) (fun b o _ hb _ e n=>u.slot b o e n hb (by simp)) (fun b o _ e n=>u.free b o e n (by simp)) (fun b o _ e=>u.there b o e (by simp)) u.B1 u.Bo u.Bp (fun m' hm=>by
  obtain⟨o',Ni,OC,Ez,r'⟩:=hm
  rw[ho]at Ez;cases Ez
  exact⟨_,Ni,OC,hL,r'⟩) zp I.bare
theorem Inv.call {g':Array GenState}{t':Nat}{d':Drawn}{ch:List Addr}(I:Inv X pins σ H s)(u:Un (jK X.stack) ch H H' s.heap h')(zp:AE X.prog X.w H' h')(hg:AllBare g')
  (B7:∀ b ∈ ch,(b ∈ X.ex∨X.s₀.heap.objs.size <= b)/\b ≠ X.env.locals/\(∀ x c,X.env.cells.lookup x=some c->c ≠ b)/\∀ p ∈ X.pn ++ pins,p.1 ≠ b) :
  Inv X pins σ H' { s with heap:=h',gens:=g',drawn:=d',toks:=t' }:=by
 obtain⟨m,⟨o,es,ep,ho,r⟩,_⟩:=id I.loc
 obtain⟨sl,hL⟩:=u.any ho I.free fun z=>(B7 _ z).2.1 rfl
 exact I.step (ch:=ch) B7 (fun b o hL hb hc e n=>u.keep b o e n (fun z=>(mem_cons.mp (I.Ax b z)).elim hL hb) hc) (fun b o _ _ hc e n=>u.any e n hc) (fun b o hc e n=>u.free b o e n hc) (fun b o hc e=>u.there b o e hc) u.B1 u.Bo u.Bp (fun m' hm=>by
  obtain⟨o',Ni,OC,Ez,r'⟩:=hm
  rw[ho]at Ez;cases Ez
  exact⟨_,Ni,OC,hL,r'⟩) zp hg
theorem Inv.turned {t':Nat}{it:Addr}(I:Inv X pins σ H s)(k:∀ b o,b ≠ it->s.heap.get? b=some o->h'.get? b=some o)(hn:H it=none)(hL:it ≠ X.env.locals)
  (h1:it ∈ X.ex∨X.s₀.heap.objs.size <= it) (h2:∀ x c,X.env.cells.lookup x=some c->c ≠ it) (h3:∀ p ∈ X.pn ++ pins,p.1 ≠ it):Inv X pins σ H { s with heap:=h',toks:=t' }:=by
 have Ur:∀ b u,H b=some u->b ≠ it:=fun b u e z=>by rw[z,hn]at e;cases e
 refine I.step (g':=s.gens) (d':=s.drawn) (ch:=[it]) (fun b hb=>?_) (fun b o _ _ hc e _=>k b o (fun z=>hc (by simp[z])) e) (fun b o _ _ hc e _=>⟨o.slots,k b o (fun z=>hc (by simp[z])) e⟩) (fun _ _ _ _ n=>n)
  (fun b o hc e=>⟨o,k b o (fun z=>hc (by simp[z])) e⟩) (fun _ _ e=>e) (fun _ _ _ e=>e) (fun b ps e=>⟨#[],by rw[e];simp⟩) (fun m hm=>?_) (fun b u e=>?_) I.bare
 ·have e:b=it:=by simpa using hb
  subst e
  exact⟨h1,hL,h2,h3⟩
 ·obtain⟨o,es,ep,ho,r⟩:=hm
  exact⟨o,es,ep,k _ o (Ne.symm hL) ho,r⟩
 ·refine(I.zp b u e).AA (fun c v hc q=>k c v ?_ q) (fun _ q=>q) fun _ _ q=>q
  rcases hc with z | z
  ·rw[z];exact Ur b u e
  ·exact Ur c _ z
theorem Inv.tok (I:Inv X pins σ H s)(t:Nat):Inv X pins σ H { s with toks:=t }:=I.un (h':=s.heap) (t':=t) Un.refl I.zp
theorem Inv.kept {t':Nat}(I:Inv X pins σ H s)(k:∀ b u,s.heap.get? b=some u->h'.get? b=some u):Inv X pins σ H { s with heap:=h',toks:=t' }:=I.un (Un.kept k) (I.zp.kept k)
theorem Inv.laid {a:Addr}{o:HO}{t':Nat}(I:Inv X pins σ H s)(k:∀ b u,s.heap.get? b=some u->h'.get? b=some u)(hp:s.heap.objs.size <= a)(new:zL X.prog X.w (upd H a o) h' a o) :
  Inv X pins σ (upd H a o) { s with heap:=h',toks:=t' }:=I.un (Un.laid k hp (I.zp.fresh hp)) (I.zp.laid k hp new)
theorem Inv.write {x e:Addr}{o:HO}{t':Nat}(I:Inv X pins σ H s)(mu:Nc (H x))(he:e=x∨H e=some (.own x))(k:∀ b u,b ≠ e->s.heap.get? b=some u->h'.get? b=some u)(Ig:∃ u,h'.get? e=some u)
  (new:zL X.prog X.w (upd H x o) h' x o):Inv X pins σ (upd H x o) { s with heap:=h',toks:=t' }:=I.un (Un.write mu he k Ig) (I.zp.write mu he k Ig new)
theorem Inv.Am {pins':List (Addr × Obj)}(I:Inv X pins σ H s)(h:∀ p ∈ pins',s.heap.get? p.1=some p.2/\H p.1=none/\p.1 ≠ X.env.locals/\p.1 ∉ X.fs/\∀ v,p.2.data ≠ .cell v):Inv X pins' σ H s :=
 ⟨I.ok,I.os,I.bare,I.base,I.loc,I.cell,I.free,I.zU,fun p hp=>(mem_append.mp hp).elim (fun z=>I.pin p (mem_append_left _ z)) (h p),I.zp,I.len⟩
theorem dz {N:List Str}(hN:N.Nodup){i j:Nat}{x:Str}(a:N[i]? = some x)(b:N[j]? = some x):i=j:=by
 obtain⟨h1,e1⟩:=List.getElem?_eq_some_iff.mp a
 obtain⟨h2,e2⟩:=List.getElem?_eq_some_iff.mp b
 exact(List.getElem_inj hN).mp (e1.trans e2.symm)
theorem kz {M:Model}{A:Around}{E:Value->Shared->Prop}{i:Nat}{x:Str}{v:V}{u:Value}{Q:Unit->Shared->Prop}(I:Inv X pins σ H s)(hN:X.N.Nodup)(hi:X.N[i]? = some x)(hx:Loc X.env.scope x)(r:RelV v u)
  (h:∀ s',Inv X pins (σ.set i (some v)) H s'->(∃ a,Heap.SameBut a s.heap s'.heap/\(a=X.env.locals∨X.env.cells.lookup x=some a))->Q () s') (hf:autoParam (X.fn x=true∨X.env.scope.names.lookup x=some .local) ζ):wpAny M A (storeName X.env x u) Q E s:=by
 obtain⟨m,hn,hl⟩:=id I.loc
 have OD:(X.env.scope.kind == .class || (X.env.scope.kind == .module && X.env.locals != X.env.globals))=false:=by rw[I.ok.kind];rfl
 have Jg:i < σ.length:=by rw[I.len];exact(gQ0 hi)
 have CU:=I.CU
 have tracked:∀ {a:Addr}{h':Heap},(∃ o,s.heap.get? a=some o/\H a=none)->Heap.SameBut a s.heap h'->AE X.prog X.w H h':=fun {a h'} ha hs b ob e=>by
  obtain⟨_,_,Fn⟩:=ha
  refine(I.zp b ob e).AA (fun c w' hc q=>(hs.2 c ?_).trans q) (fun _ q=>q) fun _ _ q=>q
  rintro rfl
  rcases hc with rfl | hc
  ·rw[Fn]at e;cases e
  ·rw[Fn]at hc;cases hc
 rcases hx with hk | hk
 ·refine wpAny_storeName_local hk hn (fun h' Ct hs=>?_) OD
  obtain⟨oL,_,_,hoL,_⟩:=id hn
  refine h _ ⟨I.ok,I.os,I.bare,⟨fun b o e n hb hx=>?_,fun b o e n hb hx=>?_,I.base.free,fun b o e hx=>?_,I.base.B1,I.base.Bo,I.base.Bp⟩,⟨_,Ct,fun j y v' e1 e2 e3=>?_⟩,fun y c e=>?_,I.free,I.zU,fun p hp=>?_,tracked ⟨oL,hoL,I.free⟩ hs,by simpa using I.len⟩ ⟨_,hs, .inl rfl⟩
  ·exact(hs.2 b (ne_of_lt (lt_of_lt_of_le (lt_size e) I.ok.above))).trans (I.base.keep b o e n hb hx)
  ·obtain⟨sl,e1⟩:=I.base.slot b o e n hb hx
   exact⟨sl,(hs.2 b (ne_of_lt (lt_of_lt_of_le (lt_size e) I.ok.above))).trans e1⟩
  ·obtain⟨o',e1⟩:=I.base.there b o e hx
   exact⟨o',(hs.2 b (ne_of_lt (lt_of_lt_of_le (lt_size e) I.ok.above))).trans e1⟩
  ·by_cases hj:j=i
   ·subst hj
    rw[hi]at e1;cases e1
    rw[List.getElem?_set_self Jg]at e2
    cases e2
    exact⟨u,r, .inl ⟨hk,by simp⟩⟩
   ·rw[getElem?_set_ne (Ne.symm hj)]at e2
    obtain⟨u',r',q⟩:=hl j y v' e1 e2 e3
    refine⟨u',r',?_⟩
    rcases q with ⟨k,e⟩ | ⟨k,c,e,z⟩
    ·refine .inl ⟨k,?_⟩
     have:y ≠ x:=fun e=>hj (dz hN e1 (e ▸ hi))
     simp[this,e]
    ·exact .inr ⟨k,c,e,z.sameBut hs (CU y c e)⟩
  ·obtain⟨w',z⟩:=I.cell y c e
   exact⟨w',z.sameBut hs (CU y c e)⟩
  ·obtain⟨e,n,ne,nf,d⟩:=I.pin p hp
   exact⟨(hs.2 p.1 ne).trans e,n,ne,nf,d⟩
 ·have OE:X.fn x=true:=by
   rcases hf with z | z
   ·exact z
   ·rw[z]at hk;cases hk
  obtain⟨c,hc⟩:=I.ok.has x (.inl hk)
  obtain⟨w',z⟩:=I.cell x c hc
  refine wpAny_storeName_cell I.ok.kind hk hc z (fun h' Dy hs=>?_)
  obtain⟨oc,Nj,OF⟩:=id z
  refine h { s with heap:=h' } ⟨I.ok,I.os,I.bare,⟨fun b o e n hb hx=>?_,fun b o e n hb hx=>?_,I.base.free,fun b o e hx=>?_,I.base.B1,I.base.Bo,I.base.Bp⟩,⟨m,hn.sameBut hs (Ne.symm (CU x c hc)),fun j y v' e1 e2 e3=>?_⟩,fun y c' e=>?_,I.free,I.zU,fun p hp=>?_,tracked ⟨oc,Nj,I.zU x c hc⟩ hs,by simpa using I.len⟩ ⟨c,hs, .inr hc⟩
  ·exact(hs.2 b (ne_of_lt (lt_of_lt_of_le (lt_size e) (I.ok.Fj x c OE hc)))).trans (I.base.keep b o e n hb hx)
  ·obtain⟨sl,e1⟩:=I.base.slot b o e n hb hx
   exact⟨sl,(hs.2 b (ne_of_lt (lt_of_lt_of_le (lt_size e) (I.ok.Fj x c OE hc)))).trans e1⟩
  ·obtain⟨o',e1⟩:=I.base.there b o e hx
   exact⟨o',(hs.2 b (ne_of_lt (lt_of_lt_of_le (lt_size e) (I.ok.Fj x c OE hc)))).trans e1⟩
  ·by_cases hj:j=i
   ·subst hj
    rw[hi]at e1;cases e1
    rw[List.getElem?_set_self Jg]at e2
    cases e2
    exact⟨u,r, .inr ⟨.inl hk,c,hc,Dy⟩⟩
   ·rw[getElem?_set_ne (Ne.symm hj)]at e2
    obtain⟨u',r',q⟩:=hl j y v' e1 e2 e3
    refine⟨u',r',?_⟩
    rcases q with q | ⟨k,c',e,z'⟩
    ·exact .inl q
    ·refine .inr ⟨k,c',e,z'.sameBut hs ?_⟩
     rintro rfl
     exact hj (dz hN e1 (I.ok.inj _ _ _ e hc ▸ hi))
  ·by_cases CV:c' = c
   ·subst CV;exact⟨_,Dy⟩
   ·obtain⟨w2,z2⟩:=I.cell y c' e
    exact⟨w2,z2.sameBut hs CV⟩
  ·obtain⟨e,n,ne,nf,d⟩:=I.pin p hp
   refine⟨(hs.2 p.1 ?_).trans e,n,ne,nf,d⟩
   intro q
   rw[q,Nj]at e
   have q':oc=p.2:=Option.some.inj e
   exact d w' (by rw[← q'];exact OF)
theorem jn {M:Model}{A:Around}{E:Value->Shared->Prop}{i:Nat}{x:Str}{v:V}{u:Value}{Q:Unit->Shared->Prop}(I:Inv X pins σ H s)(hN:X.N.Nodup)(hi:X.N[i]? = some x)(hx:Loc X.env.scope x)(r:RelV v u)
  (h:∀ s',Inv X pins (σ.set i (some v)) H s'->Q () s') (hf:autoParam (X.fn x=true∨X.env.scope.names.lookup x=some .local) ζ):wpAny M A (storeName X.env x u) Q E s :=
 kz I hN hi hx r (fun s' I' _=>h s' I') hf
theorem Inv.Fo {s':Shared}{ch:List Addr}(I:Inv X pins σ H s)(ho:s'.os=s.os)(u:Un (jK X.stack) ch H H' s.heap s'.heap)(zp:AE X.prog X.w H' s'.heap)(hg:AllBare s'.gens)
  (B7:∀ b ∈ ch,(b ∈ X.ex∨X.s₀.heap.objs.size <= b)/\b ≠ X.env.locals/\(∀ x c,X.env.cells.lookup x=some c->c ≠ b)/\∀ p ∈ X.pn ++ pins,p.1 ≠ b):Inv X pins σ H' s':=by
 obtain⟨h',g',d',t',o'⟩:=s'
 have e:o' = s.os:=ho
 subst e
 exact I.call (g':=g') (t':=t') (d':=d') u zp hg B7
end
noncomputable abbrev XK:=Value->Option Addr->Hp->Prop
noncomputable abbrev St:=List (Option V)
noncomputable abbrev VK:=V->Hp->Prop
noncomputable abbrev TE:=St->Hp->VK->Prop
noncomputable abbrev TT:=St->Hp->(Bool->Hp->Prop)->Prop
noncomputable abbrev TA:=St->Hp->(List V->Hp->Prop)->Prop
structure lI where
 nx:St->Hp->Prop
 rt:VK
 bk:St->Hp->Prop:=fun _ _=>False
 ct:St->Hp->Prop:=fun _ _=>False
noncomputable abbrev TS:=lI->St->Hp->Prop
noncomputable def EP (X:Cx)(pins:List (Addr × Obj))(σ:St)(Q:VK)(u:Value)(s':Shared):Prop:=∃ v H',Inv X pins σ H' s'/\RelV v u/\Q v H'
noncomputable def TP (X:Cx)(pins:List (Addr × Obj))(σ:St)(Q:Bool->Hp->Prop)(b:Bool)(s':Shared):Prop:=∃ H',Inv X pins σ H' s'/\Q b H'
noncomputable def AP (X:Cx)(pins:List (Addr × Obj))(σ:St)(Q:List V->Hp->Prop)(us:List Value)(s':Shared):Prop:=∃ vs H',Inv X pins σ H' s'/\Vals vs us/\Q vs H'
noncomputable def SP (X:Cx)(pins:List (Addr × Obj))(D:lI)(f:Flow)(s':Shared):Prop :=
 match f with
 | .next=>∃ σ' H',Inv X pins σ' H' s'/\D.nx σ' H'
 | .brk=>∃ σ' H',Inv X pins σ' H' s'/\D.bk σ' H'
 | .cont=>∃ σ' H',Inv X pins σ' H' s'/\D.ct σ' H'
 | .ret u=>∃ v σ' H',Inv X pins σ' H' s'/\RelV v u/\D.rt v H'
noncomputable def PE (X:Cx)(e:Expr)(t:TE):Prop :=
 ∀ (pins:List (Addr × Obj))(s:Shared)(σ:St)(H:Hp)(Q:VK),Inv X pins σ H s->t σ H Q->wpAny (model X.prog X.w) X.A (eval e X.env) (EP X pins σ Q) X.xe s
noncomputable def PT (X:Cx)(e:Expr)(t:TT):Prop :=
 ∀ (pins:List (Addr × Obj))(s:Shared)(σ:St)(H:Hp)(Q:Bool->Hp->Prop),Inv X pins σ H s->t σ H Q->wpAny (model X.prog X.w) X.A (isTrue e X.env (eval e X.env)) (TP X pins σ Q) X.xe s
noncomputable def PW (X:Cx)(e:Expr)(t:TT):Prop :=
 ∀ (whole:Sem Value)(pins:List (Addr × Obj))(s:Shared)(σ:St)(H:Hp)(Q:Bool->Hp->Prop),Inv X pins σ H s->t σ H Q->wpAny (model X.prog X.w) X.A (isTrue e X.env whole) (TP X pins σ Q) X.xe s
theorem PW.pt {X:Cx}{e:Expr}{t:TT}(h:PW X e t):PT X e t:=h _
noncomputable def PA (X:Cx)(es:List Expr)(t:TA):Prop :=
 ∀ (pos:Pos)(pins:List (Addr × Obj))(s:Shared)(σ:St)(H:Hp)(Q:List V->Hp->Prop),Inv X pins σ H s->t σ H Q->wpAny (model X.prog X.w) X.A (spliced (backTo pos (starEach es X.env))) (AP X pins σ Q) X.xe s
noncomputable def PS (X:Cx)(st:Stmt)(t:TS):Prop :=
 ∀ (pins:List (Addr × Obj))(s:Shared)(σ:St)(H:Hp)(D:lI),Inv X pins σ H s->t D σ H->wpAny (model X.prog X.w) X.A (exec st X.env) (SP X pins D) X.xe s
noncomputable def Bi (X:Cx)(st:List Stmt)(t:TS):Prop :=
 ∀ (pins:List (Addr × Obj))(s:Shared)(σ:St)(H:Hp)(D:lI),Inv X pins σ H s->t D σ H->wpAny (model X.prog X.w) X.A (execs st X.env) (SP X pins D) X.xe s
theorem aW {α:Type}{t:Sem α}{Q Q':α->Shared->Prop}{M:Model}{A:Around}{E:Value->Shared->Prop}{s:Shared}(h:wpAny M A t Q E s)(hQ:∀ a s,Q a s->Q' a s):wpAny M A t Q' E s:=wpAny_mono h hQ fun _ _ x=>x
section
variable {X:Cx}
noncomputable def nN (i:Nat):TE:=fun σ H Q=>∃ v,σ[i]? = some (some v)/\Q v H
noncomputable def tC (v:V):TE:=fun _ H Q=>Q v H
theorem sQ {i:Nat}{x:Str}{pos:Pos}(hN:X.N[i]? = some x)(hv:Nf X.env.scope x)(hd:autoParam ((x == ("__debug__":Str))=false) θ)(Bc:autoParam ((x == ("__classdict__":Str))=false) θ):PE X (.Name x pos) (nN i):=by
 intro pins s σ H Q I h
 obtain⟨v,e,h⟩:=h
 obtain⟨m,hn,hl⟩:=I.loc
 obtain⟨u,r,l⟩:=hl i x v hN e hv
 have fin:EP X pins σ Q u s:=⟨v,H,I,r,h⟩
 rcases l with ⟨hk,hm⟩ | ⟨hk,c,hc,BJ⟩
 ·exact wpAny_Name (wpAny_loadName_local I.ok.kind hk hn hm fin) hd
 ·rcases hk with hk | hk
  ·exact wpAny_Name (wpAny_loadName_cell I.ok.kind hk hc BJ fin) hd
  ·exact wpAny_Name (wpAny_loadName_free I.ok.kind hk hc BJ fin Bc) hd
theorem aj {i j pos}:PE X (.Constant (.int i) j pos) (tC (.int i)):=fun _ _ _ H _ I h=>wpAny_Constant_int ⟨.int i,H,I.tok _,⟨_,rfl⟩,h⟩
theorem fD {b j pos}:PE X (.Constant (.bool b) j pos) (tC (.bl b)):=fun _ _ _ H _ I h=>Constant_bool ⟨.bl b,H,I,rfl,h⟩
theorem ce {j pos}:PE X (.Constant .none j pos) (tC .zD):=fun _ _ _ H _ I h=>Constant_none ⟨.zD,H,I,rfl,h⟩
theorem bG {x j pos}:PE X (.Constant (.str x) j pos) (tC (.str x)):=fun _ _ _ H _ I h=>Calls.Constant_str ⟨.str x,H,I.tok _,⟨_,rfl⟩,h⟩
noncomputable def Gl (X:Cx)(x:Str):Prop:=X.env.kindOf x=some .globalImplicit
theorem fT {E:Value->Shared->Prop}{pins:List (Addr × Obj)}{s:Shared}{σ:St}{H:Hp}{x:Str}{u:Value}{pos:Pos}{Q:Value->Shared->Prop}(I:Inv X pins σ H s)(hg:Gl X x)(hm:X.mg x=some u)(h:Q u s)
  (hd:autoParam ((x == ("__debug__":Str))=false) θ):wpAny (model X.prog X.w) X.A (eval (.Name x pos) X.env) Q E s :=
 Calls.Name_function_global I.ok.kind hg (Calls.loadGlobal_global (by rw[I.ok.glob];exact I.mod.glob.keeps I.bk) hm h) hd
theorem iC {E:Value->Shared->Prop}{pins:List (Addr × Obj)}{s:Shared}{σ:St}{H:Hp}{x:Str}{u:Value}{pos:Pos}{Q:Value->Shared->Prop}(I:Inv X pins σ H s)(hg:Gl X x)(hm:X.mg x=none)(hv:bootBuiltins x=some u)(h:Q u s)
  (hn:autoParam (x ≠ "__name__") θ) (hd:autoParam ((x == ("__debug__":Str))=false) θ):wpAny (model X.prog X.w) X.A (eval (.Name x pos) X.env) Q E s:=by
 obtain⟨mb,h1,h2⟩:=I.mod.blt
 exact Calls.Name_function_global I.ok.kind hg (Calls.loadGlobal_builtin (by rw[I.ok.glob];exact I.mod.glob.keeps I.bk) hm (by rw[I.ok.blt];exact h1.keeps I.bk) ((h2 x hn).trans hv) h) hd
theorem fO {x:Str}{v:V}{u:Value}{pos:Pos}(hg:Gl X x)(hm:X.mg x=some u)(r:RelV v u)(hd:autoParam ((x == ("__debug__":Str))=false) θ):PE X (.Name x pos) (tC v) :=
 fun _ _ _ H _ I h=>fT I hg hm ⟨v,H,I,r,h⟩ hd
theorem fP {x:Str}{v:V}{u:Value}{pos:Pos}(hg:Gl X x)(hm:X.mg x=none)(hv:bootBuiltins x=some u)(r:RelV v u)(hn:autoParam (x ≠ "__name__") θ)(hd:autoParam ((x == ("__debug__":Str))=false) θ):PE X (.Name x pos) (tC v) :=
 fun _ _ _ H _ I h=>iC I hg hm hv ⟨v,H,I,r,h⟩ hn hd
variable {a b:Expr}{ta tb:TE}{pos:Pos}
noncomputable def PC (X:Cx)(op:CmpOp)(a b:Expr)(t:TE):Prop :=
 ∀ (pins:List (Addr × Obj))(s:Shared)(σ:St)(H:Hp)(Q:VK),Inv X pins σ H s->t σ H Q ->
  wpAny (model X.prog X.w) X.A (eval a X.env) (fun v s₁=>wpAny (model X.prog X.w) X.A (eval b X.env) (fun u s₂=>wpAny (model X.prog X.w) X.A (compareOp op v u) (EP X pins σ Q) X.xe s₂) X.xe s₁) X.xe s
noncomputable def tB (t:TE):TT:=fun σ H Q=>t σ H fun x H1=>∃ c,x = .bl c/\Q c H1
theorem xV {op:CmpOp}{t:TE}(h:PC X op a b t)(h1:behindInMarks op b=false:=by first | exact Jh _ (by decide) (by decide) | rfl):PT X (.Compare a [op] [b] pos) (tB t):=by
 intro pins s σ H Q I hw
 refine wpAny_isTrue_Compare1 (aW (h pins s σ H _ I hw) fun v s1 h1=>aW h1 fun u s2 h2=>aW h2 fun c s3 zk=>?_) h1
 obtain⟨x,H1,I1,r1,q1⟩:=zk
 obtain⟨d,rfl,q⟩:=q1
 cases r1
 exact wpAny_truthy_bool ⟨H1,I1,q⟩
theorem bQ {e:Expr}{t:TE}(h:PE X e t)(he:autoParam (∀ whole,isTrue e X.env whole=(do let v ← whole;standAt e.pos;holding [v] (truthy v))) ψ):PT X e (tB t):=by
 intro pins s σ H Q I hw
 refine isTrue_plain (aW (h pins s σ H _ I hw) fun v s1 zk=>?_) (he _)
 obtain⟨x,H1,I1,r1,q1⟩:=zk
 obtain⟨d,rfl,q⟩:=q1
 cases r1
 exact wpAny_truthy_bool ⟨H1,I1,q⟩
variable {tA Nk:TT}{rest:List Expr}
noncomputable def OG (t u:TT):TT:=fun σ H Q=>t σ H fun c H1=>if c=true then u σ H1 Q else Q false H1
noncomputable def tOr (t u:TT):TT:=fun σ H Q=>t σ H fun c H1=>if c=true then Q true H1 else u σ H1 Q
noncomputable def OH (t:TT):TT:=fun σ H Q=>t σ H fun c H1=>Q (!c) H1
theorem fN (ha:PT X a tA):PW X (.BoolOp .And [a] pos) tA:=by
 intro wh pins s σ H Q I h
 refine isTrue_and (aW (ha pins s σ H Q I h) fun c s1 e=>?_)
 cases c with
 | true=>exact isTrue_and_nil e
 | false=>exact e
theorem eA (ha:PT X a tA):PW X (.BoolOp .Or [a] pos) tA:=by
 intro wh pins s σ H Q I h
 refine isTrue_or (aW (ha pins s σ H Q I h) fun c s1 e=>?_)
 cases c with
 | false=>exact isTrue_or_nil e
 | true=>exact e
theorem iy (ha:PT X a tA)(hb:PW X (.BoolOp .And (b :: rest) pos) Nk):PW X (.BoolOp .And (a :: b :: rest) pos) (OG tA Nk):=by
 intro wh pins s σ H Q I h
 refine isTrue_and (aW (ha pins s σ H _ I h) fun c s1 zk=>?_)
 obtain⟨H1,I1,q1⟩:=zk
 cases c with
 | true=>exact hb wh pins s1 σ H1 Q I1 q1
 | false=>exact⟨H1,I1,q1⟩
theorem hG (ha:PT X a tA)(hb:PW X (.BoolOp .Or (b :: rest) pos) Nk):PW X (.BoolOp .Or (a :: b :: rest) pos) (tOr tA Nk):=by
 intro wh pins s σ H Q I h
 refine isTrue_or (aW (ha pins s σ H _ I h) fun c s1 zk=>?_)
 obtain⟨H1,I1,q1⟩:=zk
 cases c with
 | true=>exact⟨H1,I1,q1⟩
 | false=>exact hb wh pins s1 σ H1 Q I1 q1
theorem cr (ha:PT X a tA):PT X (.UnaryOp .Not a pos) (OH tA):=by
 intro pins s σ H Q I h
 exact isTrue_not (ha pins s σ H (fun c H1=>Q (!c) H1) I h)
noncomputable def Ji (ta tb:TE):TE:=fun σ H Q=>ta σ H fun x H1=>∃ c,x = .bl c/\if c=true then tb σ H1 Q else Q (.bl false) H1
noncomputable def OI (ta tb:TE):TE:=fun σ H Q=>ta σ H fun x H1=>∃ c,x = .bl c/\if c=true then Q (.bl true) H1 else tb σ H1 Q
noncomputable def Jj (ta:TE):TE:=fun σ H Q=>ta σ H fun x H1=>∃ c,x = .bl c/\Q (.bl (!c)) H1
theorem c4 {op} {t:TE} (h:PE X a t):PE X (.BoolOp op [a] pos) t:=fun pins s σ H Q I hw=>BoolOp_one (h pins s σ H Q I hw)
theorem c5 (ha:PE X a ta)(hb:PE X (.BoolOp .And (b :: rest) pos) tb):PE X (.BoolOp .And (a :: b :: rest) pos) (Ji ta tb):=by
 intro pins s σ H Q I h
 refine BoolOp_and (aW (ha pins s σ H _ I h) fun v s1 zk=>?_)
 obtain⟨x,H1,I1,r1,q1⟩:=zk
 obtain⟨c,rfl,q1⟩:=q1
 cases r1
 refine wpAny_truthy_bool ?_
 cases c with
 | true=>exact hb pins s1 σ H1 Q I1 q1
 | false=>exact⟨.bl false,H1,I1,rfl,q1⟩
theorem Jk (ha:PE X a ta)(hb:PE X (.BoolOp .Or (b :: rest) pos) tb):PE X (.BoolOp .Or (a :: b :: rest) pos) (OI ta tb):=by
 intro pins s σ H Q I h
 refine BoolOp_or (aW (ha pins s σ H _ I h) fun v s1 zk=>?_)
 obtain⟨x,H1,I1,r1,q1⟩:=zk
 obtain⟨c,rfl,q1⟩:=q1
 cases r1
 refine wpAny_truthy_bool ?_
 cases c with
 | false=>exact hb pins s1 σ H1 Q I1 q1
 | true=>exact⟨.bl true,H1,I1,rfl,q1⟩
theorem lu (ha:PE X a ta):PE X (.UnaryOp .Not a pos) (Jj ta):=by
 intro pins s σ H Q I h
 refine UnaryOp_ (aW (ha pins s σ H _ I h) fun v s1 zk=>?_)
 obtain⟨x,H1,I1,r1,q1⟩:=zk
 obtain⟨c,rfl,q1⟩:=q1
 cases r1
 exact not_of (wpAny_truthy_bool ⟨.bl (!c),H1,I1,rfl,q1⟩)
noncomputable def tIf (t:TT)(ta tb:TE):TE:=fun σ H Q=>t σ H fun c H1=>if c=true then ta σ H1 Q else tb σ H1 Q
theorem dq {c:Expr}(hc:PT X c tA)(ha:PE X a ta)(hb:PE X b tb):PE X (.IfExp c a b pos) (tIf tA ta tb):=by
 intro pins s σ H Q I h
 refine wpAny_IfExp (aW (hc pins s σ H _ I h) fun d s1 zk=>?_)
 obtain⟨H1,I1,q1⟩:=zk
 cases d with
 | true=>exact ha pins s1 σ H1 Q I1 q1
 | false=>exact hb pins s1 σ H1 Q I1 q1
end
noncomputable def zj (K:Frag)(H:Hp)(a:Addr)(xs:List V):Prop :=
 Rd H a (.lst xs) ∨
  ∃ (o:Obj)(zl:Array Value)(n:Nat),K.lookup a=some o/\o.cls = .type "list"/\o.dict=none/\o.data = .seq zl n/\zl.size <= sizeLine/\Vals xs zl.toList
noncomputable def zt (K:Frag)(H:Hp)(a:Addr)(xs:List V):Prop :=
 Rd H a (.tup xs) ∨
  ∃ (o:Obj)(zl:Array Value)(n:Nat),K.lookup a=some o/\o.cls = .type "tuple"/\o.data = .seq zl n/\zl.size <= sizeLine/\Vals xs zl.toList
noncomputable def OJ:Value->Option V
 | .none=>some .zD
 | .bool b=>some (.bl b)
 | .int i _=>some (.int i)
 | .str x _=>some (.str x)
 | .bytes b _=>some (.CJ b)
 | .float b _=>some (.G0 b)
 | .ref a=>some (.ref a)
 | .type n=>some (.ty n)
 | _=>none
theorem RelV.abs {x:V}{u:Value}(r:RelV x u):OJ u=some x:=by
 cases x with
 | zD=>cases r;rfl
 | bl _=>cases r;rfl
 | int _=>obtain⟨t,rfl⟩:=r;rfl
 | str _=>obtain⟨t,rfl⟩:=r;rfl
 | CJ _=>obtain⟨t,rfl⟩:=r;rfl
 | G0 _=>obtain⟨t,rfl⟩:=r;rfl
 | ref _=>cases r;rfl
 | ty _=>cases r;rfl
theorem RelV.inj {x y:V}{u:Value}(r:RelV x u)(q:RelV y u):x=y:=Option.some.inj (r.abs.symm.trans q.abs)
theorem Vals.inj:∀ {xs ys:List V}{us:List Value},Vals xs us->Vals ys us->xs=ys
 | _,_,_, .nil, .nil=>rfl
 | _,_,_, .cons r t, .cons r' t'=>by rw[r.inj r',Vals.inj t t']
section
variable {X:Cx}{pins:List (Addr × Obj)}{σ:St}{H:Hp}{s:Shared}{a:Addr}{xs ys:List V}
theorem zj.of {K:Frag}(h:H a=some (.lst xs)):zj K H a xs := .inl (.inl h)
theorem zt.of {K:Frag}(h:H a=some (.tup xs)):zt K H a xs := .inl (.inl h)
theorem Inv.list (I:Inv X pins σ H s)(h:zj X.K H a xs):∃ zl:List Value,Vals xs zl/\PlainL s.heap a zl.toArray/\xs.length <= sizeLine:=by
 rcases h with h | ⟨o,zl,n,hk,hc,hd,hs,hz,r⟩
 ·obtain⟨z,zl,n,r,e⟩:=h.ok I.zp
  exact⟨zl,r,⟨_,n,e,rfl,rfl,rfl⟩,z⟩
 ·refine⟨zl.toList,r,⟨o,n,I.Al a o hk,hc,hd,by simpa using hs⟩,?_⟩
  have e:=r.length
  simp only[Array.length_toList]at e
  omega
theorem Inv.tuple (I:Inv X pins σ H s)(h:zt X.K H a xs):∃ zl:List Value,Vals xs zl/\IsTup s.heap a zl.toArray/\xs.length <= sizeLine:=by
 rcases h with h | ⟨o,zl,n,hk,hc,hs,hz,r⟩
 ·obtain⟨z,zl,r,p⟩:=h.ok I.zp
  exact⟨zl,r,p.isTup,z⟩
 ·refine⟨zl.toList,r,⟨o,I.Al a o hk,hc,n,by simpa using hs⟩,?_⟩
  have e:=r.length
  simp only[Array.length_toList]at e
  omega
theorem Inv.Cd (I:Inv X pins σ H s)(h:zj X.K H a xs)(h':zj X.K H a ys):xs=ys:=by
 obtain⟨zl,r,⟨o,n,e,_,_,d⟩,_⟩:=I.list h
 obtain⟨its',r',⟨o',n',e',_,_,d'⟩,_⟩:=I.list h'
 rw[e]at e';cases e'
 rw[d]at d'
 injection d' with d1 _
 have:zl=its':=by simpa using congrArg Array.toList d1
 subst this
 exact r.inj r'
theorem Inv.BK (I:Inv X pins σ H s)(h:zt X.K H a xs)(h':zt X.K H a ys):xs=ys:=by
 obtain⟨zl,r,⟨o,e,_,n,d⟩,_⟩:=I.tuple h
 obtain⟨its',r',⟨o',e',_,n',d'⟩,_⟩:=I.tuple h'
 rw[e]at e';cases e'
 rw[d]at d'
 injection d' with d1 _
 have:zl=its':=by simpa using congrArg Array.toList d1
 subst this
 exact r.inj r'
end
noncomputable abbrev Cx.BC (X:Cx)(E:Value->Shared->Prop):Cx:={ X with xe:=E }
noncomputable abbrev Cx.Fp (X:Cx):Cx:=X.BC fun _ _=>False
theorem Cx.Ok.BC {X:Cx}(ok:X.Ok)(E:Value->Shared->Prop):(X.BC E).Ok :=
 ⟨ok.mod,ok.kind,ok.glob,ok.blt,ok.above,ok.inj,ok.has,ok.Fj,ok.hd,ok.frames,ok.Ij,ok.Ng,ok.bs,ok.Dx,ok.Cz,ok.CT,ok.AB,ok.Ef⟩
theorem Cx.Ok.Ay {X:Cx}{E:Value->Shared->Prop}(ok:(X.BC E).Ok):X.Ok :=
 ⟨ok.mod,ok.kind,ok.glob,ok.blt,ok.above,ok.inj,ok.has,ok.Fj,ok.hd,ok.frames,ok.Ij,ok.Ng,ok.bs,ok.Dx,ok.Cz,ok.CT,ok.AB,ok.Ef⟩
section
variable {X:Cx}{pins:List (Addr × Obj)}{σ:St}{H:Hp}{s:Shared}{E:Value->Shared->Prop}
theorem Inv.BC (I:Inv X pins σ H s)(E:Value->Shared->Prop):Inv (X.BC E) pins σ H s:=⟨I.ok.BC E,I.os,I.bare,I.base,I.loc,I.cell,I.free,I.zU,I.pin,I.zp,I.len⟩
theorem Inv.Ay (I:Inv (X.BC E) pins σ H s):Inv X pins σ H s:=⟨I.ok.Ay,I.os,I.bare,I.base,I.loc,I.cell,I.free,I.zU,I.pin,I.zp,I.len⟩
theorem SP.Ay {D:lI}{f:Flow}{s':Shared}(h:SP (X.BC E) pins D f s'):SP X pins D f s':=by
 cases f with
 | next=>obtain⟨σ',H',I,q⟩:=h;exact⟨σ',H',I.Ay,q⟩
 | brk=>obtain⟨σ',H',I,q⟩:=h;exact⟨σ',H',I.Ay,q⟩
 | cont=>obtain⟨σ',H',I,q⟩:=h;exact⟨σ',H',I.Ay,q⟩
 | ret u=>obtain⟨v,σ',H',I,r,q⟩:=h;exact⟨v,σ',H',I.Ay,r,q⟩
theorem Bi.Fp {st:List Stmt}{t:TS}(h:Bi X.Fp st t):Bi X st t:=fun pins s σ H D I hw =>
 wpAny_mono (h pins s σ H D (I.BC _) hw) (fun _ _ q=>q.Ay) fun _ _ z=>False.elim z
end
section
variable {X:Cx}{st:Stmt}{rest:List Stmt}{t u:TS}{e:Expr}{te:TE}{pos:Pos}
noncomputable def Jl:TS:=fun D σ H=>D.nx σ H
noncomputable def xg (t u:TS):TS:=fun D σ H=>t { D with nx:=u D } σ H
theorem aF:Bi X [] Jl:=fun _ _ σ H _ I h=>wpAny_execs_nil ⟨σ,H,I,h⟩
theorem af (h1:PS X st t)(h2:Bi X rest u):Bi X (st :: rest) (xg t u):=by
 intro pins s σ H D I h
 refine wpAny_execs_cons (aW (h1 pins s σ H { D with nx:=u D } I h) fun f s1 q=>?_)
 cases f with
 | next =>
  obtain⟨σ',H',I',q⟩:=q
  exact h2 pins s1 σ' H' D I' q
 | ret v=>exact q
 | brk=>exact q
 | cont=>exact q
theorem ai (h1:PS X st t):Bi X [st] t:=by
 intro pins s σ H D I h
 refine wpAny_execs_cons (aW (h1 pins s σ H D I h) fun f s1 q=>?_)
 cases f with
 | next=>exact wpAny_execs_nil q
 | ret v=>exact q
 | brk=>exact q
 | cont=>exact q
theorem Inv.quiet {pins:List (Addr × Obj)}{σ:St}{H:Hp}{s:Shared}(I:Inv X pins σ H s):interactive X.env=false:=by simp[interactive,I.ok.kind]
noncomputable def Jm (te:TE):TS:=fun D σ H=>te σ H fun _ H1=>D.nx σ H1
theorem aN (he:PE X e te)(hs:autoParam (swapsWith e none pos.line X.env=pure false) η):PS X (.Expr e pos) (Jm te):=by
 intro pins s σ H D I h
 exact wpAny_Expr_any (aW (he pins s σ H _ I h) fun v s1 zk=>by obtain⟨x,H1,I1,r1,q1⟩:=zk;exact⟨σ,H1,I1,q1⟩) I.quiet hs
noncomputable def OK (te:TE):TS:=fun D σ H=>te σ H D.rt
theorem ar (he:PE X e te):PS X (.Return (some e) pos) (OK te):=by
 intro pins s σ H D I h
 exact wpAny_Return_some (aW (he pins s σ H _ I h) fun v s1 zk=>by obtain⟨x,H1,I1,r1,q1⟩:=zk;exact⟨x,σ,H1,I1,r1,q1⟩)
noncomputable def OL (c:TT)(t u:TS):TS:=fun D σ H=>c σ H fun b H1=>if b=true then t D σ H1 else u D σ H1
theorem aM {c:Expr}{a b:List Stmt}{tc:TT}(hc:PT X c tc)(ha:Bi X a t)(hb:Bi X b u):PS X (.If c a b pos) (OL tc t u):=by
 intro pins s σ H D I h
 refine wpAny_If (aW (hc pins s σ H _ I h) fun d s1 zk=>?_)
 obtain⟨H1,I1,q1⟩:=zk
 cases d with
 | true=>exact ha pins s1 σ H1 D I1 q1
 | false=>exact hb pins s1 σ H1 D I1 q1
end
noncomputable abbrev TG:=V->St->Hp->(St->Hp->Prop)->Prop
noncomputable abbrev zb:=List V->St->Hp->(St->Hp->Prop)->Prop
noncomputable def PG (X:Cx)(target:Expr)(t:TG):Prop :=
 ∀ (pins:List (Addr × Obj))(s:Shared)(σ:St)(H:Hp)(v:V)(u:Value)(Q:St->Hp->Prop),Inv X pins σ H s->RelV v u->t v σ H Q ->
  wpAny (model X.prog X.w) X.A (assign target X.env u) (fun _ s'=>∃ σ' H',Inv X pins σ' H' s'/\Q σ' H') X.xe s
noncomputable def Nl (X:Cx)(ts:List Expr)(t:zb):Prop :=
 ∀ (pins:List (Addr × Obj))(s:Shared)(σ:St)(H:Hp)(vs:List V)(us:List Value)(Q:St->Hp->Prop),Inv X pins σ H s->Vals vs us->t vs σ H Q ->
  wpAny (model X.prog X.w) X.A (assignInOrder ((assignEach ts X.env).map (·.2)) us) (fun _ s'=>∃ σ' H',Inv X pins σ' H' s'/\Q σ' H') X.xe s
noncomputable abbrev za:=V->V->V->Hp->(Hp->Prop)->Prop
noncomputable def Jn (X:Cx)(t:za):Prop :=
 ∀ (pins:List (Addr × Obj))(s:Shared)(σ:St)(H:Hp)(o i v:V)(ov iv u:Value)(Q:Hp->Prop),Inv X pins σ H s->RelV o ov->RelV i iv->RelV v u->t o i v H Q ->
  wpAny (model X.prog X.w) X.A (setItem ov iv u) (fun _ s'=>∃ H',Inv X pins σ H' s'/\Q H') X.xe s
section
variable {X:Cx}{pos:Pos}
noncomputable def dD (i:Nat):TG:=fun v σ H Q=>Q (σ.set i (some v)) H
theorem av {i:Nat}{x:Str}(hN:X.N.Nodup)(hi:X.N[i]? = some x)(hx:Loc X.env.scope x)(hf:autoParam (X.fn x=true∨X.env.scope.names.lookup x=some .local) ζ):PG X (.Name x pos) (dD i):=by
 intro pins s σ H v u Q I r h
 exact wpAny_assign_Name (jn I hN hi hx r (fun s' I'=>⟨_,H,I',h⟩) hf)
noncomputable def OM:zb:=fun vs σ H Q=>vs=[]/\Q σ H
noncomputable def Jo (t:TG)(u:zb):zb:=fun vs σ H Q=>∃ v r,vs=v :: r/\t v σ H fun σ' H'=>u r σ' H' Q
theorem cO:Nl X [] OM:=by
 intro pins s σ H vs us Q I r h
 obtain⟨e,h⟩:=h
 subst e
 cases r
 exact assignInOrder_nil ⟨σ,H,I,h⟩
theorem aO {e:Expr}{es:List Expr}{t:TG}{u:zb}(h1:PG X e t)(h2:Nl X es u)
  (hs:autoParam ((assignEach (e :: es) X.env).map (·.2)=assign e X.env :: (assignEach es X.env).map (·.2)) η):Nl X (e :: es) (Jo t u):=by
 intro pins s σ H vs us Q I r h
 obtain⟨v,vr,e1,h⟩:=h
 subst e1
 cases r with
 | cons r rr =>
  rw[hs]
  refine assignInOrder_cons (aW (h1 pins s σ H _ _ _ I r h) fun _ s1 zk=>?_)
  obtain⟨σ1,H1,I1,q1⟩:=zk
  exact h2 pins s1 σ1 H1 _ _ Q I1 rr q1
noncomputable def we (K:Frag)(n:Nat)(t:zb):TG:=fun v σ H Q=>∃ a xs,v = .ref a/\zt K H a xs/\xs.length=n/\t xs σ H Q
theorem eD {es:List Expr}{k:Nat}{t:zb}{n:Nat}(hc:X.calm=true)(h:Nl X es t)
  (hn:autoParam ((assignEach es X.env).length=n) η) (D9:autoParam ((assignEach es X.env).findIdx? (·.1)=none) η):PG X (.Tuple es k pos) (we X.K n t):=by
 intro pins s σ H v u Q I r hw
 obtain⟨a,xs,e1,hq,hl,hw⟩:=hw
 subst e1
 cases r
 obtain⟨zl,rv,ht,hz⟩:=I.tuple hq
 refine assign_Tuple_tuple (I.ok.hd hc) ht (by simp[hn,← hl,rv.length]) D9 fun h' hx=>?_
 have I1:Inv X pins σ H { s with heap:=h' }:=I.kept (t':=s.toks) fun b o e=>hx b o (ne_of_lt (lt_size e)) e
 exact h pins _ σ H xs _ Q I1 (by simpa using rv) hw
noncomputable def ON (to ti:TE)(t:za):TG:=fun v σ H Q=>to σ H fun o H1=>ti σ H1 fun i H2=>t o i v H2 fun H3=>Q σ H3
theorem oB {o i:Expr}{to ti:TE}{t:za}(ho:PE X o to)(hi:PE X i ti)(hs:Jn X t)
  (ha:∀ v,assign (.Subscript o i pos) X.env v=(do
   let ov ← holding [v] (eval o X.env)
   let iv ← holding [v,ov] (eval i X.env)
   standAt pos
   holding [v,ov,iv] (setItem ov iv v)
   release [v,ov,iv] []):=by intro _;rfl):PG X (.Subscript o i pos) (ON to ti t):=by
 intro pins s σ H v u Q I r h
 rw[ha]
 refine wpAny_bind (wpAny_holding (aW (ho pins s σ H _ I h) fun ov s1 zk=>?_))
 obtain⟨x,H1,I1,r1,q1⟩:=zk
 refine wpAny_bind (wpAny_holding (aW (hi pins s1 σ H1 _ I1 q1) fun iv s2 zk=>?_))
 obtain⟨y,H2,I2,r2,q2⟩:=zk
 refine wpAny_bind (wpAny_standAt (wpAny_bind (wpAny_holding (aW (hs pins s2 σ H2 x y v ov iv u _ I2 r1 r2 r q2) fun _ s3 zk=>?_))))
 obtain⟨H3,I3,q3⟩:=zk
 exact wpAny_release ⟨σ,H3,I3,q3⟩
noncomputable def xq (te:TE)(g:TG):TS:=fun D σ H=>te σ H fun x H1=>g x σ H1 D.nx
theorem i4 {tg e:Expr}{te:TE}{g:TG}(he:PE X e te)(hg:PG X tg g)(hs:autoParam (swapsWithSole [tg] e pos.line X.env=pure false) η)(hw:autoParam (swappedStores [tg] e X.env=pure none) η)
  (h1:autoParam ((assignEach [tg] X.env).map (·.2)=[assign tg X.env]) η):PS X (.Assign [tg] e pos) (xq te g):=by
 intro pins s σ H D I h
 refine wpAny_Assign_stores (aW (he pins s σ H _ I h) fun v s1 zk=>?_) hs hw
 obtain⟨x,H1,I1,r1,q1⟩:=zk
 rw[h1]
 exact aW (hg pins s1 σ H1 x v _ I1 r1 q1) fun _ s2 q=>q
theorem az {i:Nat}{x:Str}{e:Expr}{te:TE}{pos':Pos}(hN:X.N.Nodup)(hi:X.N[i]? = some x)(hx:Loc X.env.scope x)(he:PE X e te)(hs:autoParam (swapsWith e (some (.Name x pos')) pos.line X.env=pure false) η)(hf:autoParam (X.fn x=true∨X.env.scope.names.lookup x=some .local) ζ) :
  PS X (.Assign [.Name x pos'] e pos) (xq te (dD i)):=by
 intro pins s σ H D I h
 refine wpAny_Assign_Name (aW (he pins s σ H _ I h) fun v s1 zk=>?_) hs
 obtain⟨y,H1,I1,r1,q1⟩:=zk
 exact jn I1 hN hi hx r1 (fun s2 I2=>⟨_,H1,I2,q1⟩) hf
end
section
variable {X:Cx}{pos:Pos}
noncomputable def xf (c:TT)(tb:TS):TS:=fun D σ H=>∃ W:Nat->St->Hp->Prop,(∃ m,W m σ H)/\∀ m σ H,W m σ H ->
 c σ H fun b H1=>if b=true then ∃ N:St->Hp->Prop,(∀ σ' H',N σ' H'->∃ m',m' < m/\W m' σ' H')/\tb { D with nx:=N,ct:=N,bk:=D.nx } σ H1 else D.nx σ H1
theorem sN {c:Expr}{body:List Stmt}{tc:TT}{tb:TS}(hp:PassesOwn (model X.prog X.w) X.A X.env X.xe)(hc:PT X c tc)(hb:Bi X body tb):PS X (.While c body [] pos) (xf tc tb):=by
 intro pins s σ H D I h
 obtain⟨W,⟨m0,w0⟩,turn⟩:=h
 refine wpAny_While (codeAny_whileLoop (fun n s'=>∃ σ' H',Inv X pins σ' H' s'/\W n σ' H') ?_ m0 ⟨σ,H,I,w0⟩)
 rintro n s1 ⟨σ1,H1,I1,w1⟩
 refine wpAny_passesOwn hp (aW (hc pins s1 σ1 H1 _ I1 (turn n σ1 H1 w1)) fun b s2 zk=>?_)
 obtain⟨H2,I2,q2⟩:=zk
 cases b with
 | true =>
  obtain⟨N,hN,q2⟩:=q2
  rw[if_pos rfl]
  refine wpAny_passesOwn hp (aW (hb pins s2 σ1 H2 _ I2 q2) fun f s3 q3=>?_)
  cases f with
  | next =>
   obtain⟨σ3,H3,I3,n3⟩:=q3
   obtain⟨m',hm,w3⟩:=hN σ3 H3 n3
   exact⟨m',hm,σ3,H3,I3,w3⟩
  | cont =>
   obtain⟨σ3,H3,I3,n3⟩:=q3
   obtain⟨m',hm,w3⟩:=hN σ3 H3 n3
   exact⟨m',hm,σ3,H3,I3,w3⟩
  | brk=>exact q3
  | ret v=>exact q3
 | false =>
  rw[if_neg Bool.false_ne_true]
  exact wpAny_execs_nil ⟨σ1,H2,I2,q2⟩
end
structure It where
 go:Nat->Hp->Prop
 E2:Nat->Hp->V->Hp->Prop
 stop:Nat->Hp->Prop
noncomputable def fX (X:Cx)(pins:List (Addr × Obj))(H:Hp)(b:Addr):Prop :=
 H b=none/\b ≠ X.env.locals/\b ∉ X.fs/\(b ∈ X.ex∨X.s₀.heap.objs.size <= b)/\(∀ x c,X.env.cells.lookup x=some c->c ≠ b)/\∀ p ∈ X.pn ++ pins,p.1 ≠ b
theorem Inv.DA {X:Cx}{pins:List (Addr × Obj)}{σ:St}{H H':Hp}{s:Shared}{b:Addr}(I:Inv X pins σ H s)(hb:s.heap.objs.size <= b)(hn:H' b=none):fX X pins H' b:=by
 refine⟨hn,ne_of_gt (lt_of_lt_of_le I.lt hb),I.G5 hb, .inr (le_trans I.sz hb),fun x c e z=>?_,fun p hp z=>?_⟩
 ·obtain⟨v,q⟩:=I.cell x c e
  exact absurd (lt_of_lt_of_le q.lt (by rw[z];exact hb)) (lt_irrefl _)
 ·exact absurd (lt_of_lt_of_le (lt_size (I.pin p hp).1) (by rw[z];exact hb)) (lt_irrefl _)
structure pb (P:Program)(w:World)(K:Frag)(tg:Expr)(J:It)(fp:List Addr)(it:Addr)(tn:Nat->Heap->Prop):Prop where
 mem:it ∈ fp
 obj:∀ i h,tn i h->∀ b ∈ fp,∃ o,h.get? b=some o/\∀ v,o.data ≠ .cell v
 keep:∀ i h h',tn i h->(∀ b ∈ fp,∀ o,h.get? b=some o->h'.get? b=some o)->tn i h'
 item:∀ (X:Cx),X.prog=P->X.w=w->X.K=K->X.calm=true->∀ (i:Nat)(pins:List (Addr × Obj))(s:Shared)(σ:St)(H:Hp)(E:Value->Shared->Prop),Inv X pins σ H s->(∀ b ∈ fp,fX X pins H b)->tn i s.heap->J.go i H ->
  wpAny (model P w) X.A (pyNext (.ref it)) (fun r s1=>∃ u,r=some u /\
   wpAny (model P w) X.A (letOwnedTupleGo tg (.ref it) u) (fun _ s2=>∃ x H',Inv X pins σ H' s2/\RelV x u/\J.E2 i H x H'/\tn (i + 1) s2.heap/\∀ b ∈ fp,H' b=none) E s1) E s
 done:∀ (X:Cx),X.prog=P->X.w=w->X.K=K->X.calm=true->∀ (i:Nat)(pins:List (Addr × Obj))(s:Shared)(σ:St)(H:Hp)(E:Value->Shared->Prop),Inv X pins σ H s->(∀ b ∈ fp,fX X pins H b)->tn i s.heap->J.stop i H ->
  wpAny (model P w) X.A (pyNext (.ref it)) (fun r s1=>r=none/\Inv X pins σ H s1) E s
 self:∀ (A:Around)(i:Nat)(s:Shared)(Q:Value->Shared->Prop)(E:Value->Shared->Prop),tn i s.heap->Q (.ref it) s->wpAny (model P w) A (pyIter (.ref it)) Q E s
noncomputable abbrev TI:=St->Hp->(It->Hp->Prop)->Prop
noncomputable def Us (X:Cx)(pins:List (Addr × Obj))(σ:St)(tg:Expr)(R:It->Hp->Prop)(Nm:Value)(s2:Shared):Prop :=
 ∃ (it:Addr)(fp:List Addr)(tn:Nat->Heap->Prop)(J:It)(H':Hp),Nm = .ref it/\Inv X pins σ H' s2/\pb X.prog X.w X.K tg J fp it tn/\tn 0 s2.heap/\(∀ b ∈ fp,fX X pins H' b)/\R J H'
noncomputable def PI (X:Cx)(tg iter:Expr)(wi:TI):Prop :=
 ∀ (pins:List (Addr × Obj))(s:Shared)(σ:St)(H:Hp)(R:It->Hp->Prop),Inv X pins σ H s->wi σ H R ->
  wpAny (model X.prog X.w) X.A (eval iter X.env) (fun v s1=>wpAny (model X.prog X.w) X.A (pyIter v) (Us X pins σ tg R) X.xe s1) X.xe s
theorem uf {M:Model}{A:Around}{E:Value->Shared->Prop}{s:Shared}{tg:Expr}{it:Addr}{u:Value}{o:Obj}{n:String}{vs:Array Value}{Q:Unit->Shared->Prop}(ho:s.heap.get? it=some o)(hc:o.cls = .type n)(hd:o.data = .fields vs)
  (hn:["enumerate", "zip", "dict_itemiterator", "dict_reverseitemiterator", "odict_iterator", "itertools.zip_longest", "itertools.pairwise"].contains n=false) (hQ:Q () s):wpAny M A (letOwnedTupleGo tg (.ref it) u) Q E s:=by
 unfold letOwnedTupleGo
 cases tg<;>first
  | exact wpAny_pure hQ
  | (cases u<;>first
    | exact wpAny_pure hQ
    | (refine wpAny_bind (wpAny_load ho ?_)
       rw[hc,hd]
       show wpAny M A (if (["enumerate", "zip", "dict_itemiterator", "dict_reverseitemiterator", "odict_iterator", "itertools.zip_longest", "itertools.pairwise"].contains n && vs[0]? == some (rawInt _))=true then _ else _) Q E s
       rw[if_neg (by intro h;rw[hn,Bool.false_and]at h;cases h)]
       exact wpAny_pure hQ))
noncomputable def rp (K:Frag)(a:Addr):It :=
 ⟨fun i H=>∃ xs x,zj K H a xs/\xs[i]? = some x,fun i H x H'=>H' = H/\∀ xs,zj K H a xs->xs[i]? = some x,fun i H=>∃ xs,zj K H a xs/\xs.length <= i⟩
noncomputable def Jp (K:Frag)(a:Addr):It :=
 ⟨fun i H=>∃ xs x,zt K H a xs/\xs[i]? = some x,fun i H x H'=>H' = H/\∀ xs,zt K H a xs->xs[i]? = some x,fun i H=>∃ xs,zt K H a xs/\xs.length <= i⟩
noncomputable def uJ (lo:Int)(n:Nat):It:=⟨fun i _=>i < n,fun i H x H'=>H' = H/\x = .int (lo + i),fun i _=>n <= i⟩
theorem qy {P:Program}{w:World}{K:Frag}{tg:Expr}(a it:Addr):pb P w K tg (rp K a) [it] it (fun i h=>h.IsListIter it a i) where
 mem:=by simp
 obj:=fun i h st b hb=>by
  have e:b=it:=by simpa using hb
  subst e
  obtain⟨o,e,c,d⟩:=st
  exact⟨o,e,fun v z=>by rw[d]at z;cases z⟩
 keep:=fun i h h' st k=>st.at fun o e=>k it (by simp) o e
 item:=by
  intro X hP hw hK hc i pins s σ H E I hf st hg
  subst hP hw hK
  obtain⟨xs,x,hq,hx⟩:=hg
  obtain⟨zl,rv,p,hz⟩:=I.list hq
  obtain⟨u,hu,ru⟩:=rv.get hx
  obtain⟨f0,f1,f2,f3,f4,f5⟩:=hf it (by simp)
  refine wpAny_pyNext_list_item st p.isList (x:=u) (by simpa using hu) fun h' Fq sb=>?_
  have I1:Inv X pins σ H { s with heap:=h' }:=I.turned (t':=s.toks) (fun b o hb e=>(sb.2 b hb).trans e) f0 f1 f3 f4 f5
  obtain⟨o,e,c,d⟩:=id Fq
  exact⟨u,rfl,uf (s:={ s with heap:=h' }) e c d (by decide) ⟨x,H,I1,ru,⟨rfl,fun ys hy=>by rw[I.Cd hy hq];exact hx⟩,Fq,fun b hb=>(hf b hb).1⟩⟩
 done:=by
  intro X hP hw hK hc i pins s σ H E I hf st hg
  subst hP hw hK
  obtain⟨xs,hq,hx⟩:=hg
  obtain⟨zl,rv,p,hz⟩:=I.list hq
  obtain⟨f0,f1,f2,f3,f4,f5⟩:=hf it (by simp)
  have hl:=rv.length
  exact wpAny_pyNext_list_end (I.ok.hd hc) st p.isList (by simp;omega) fun h' eb=>⟨rfl,I.turned (t':=s.toks) (fun b o hb e=>eb b o hb e) f0 f1 f3 f4 f5⟩
 self:=fun _ _ _ _ _ st h=>wpAny_pyIter_listiter st h
theorem nG {P:Program}{w:World}{K:Frag}{tg:Expr}(a it:Addr):pb P w K tg (Jp K a) [it] it (fun i h=>h.IsTupleIter it a i) where
 mem:=by simp
 obj:=fun i h st b hb=>by
  have e:b=it:=by simpa using hb
  subst e
  obtain⟨o,e,c,d⟩:=st
  exact⟨o,e,fun v z=>by rw[d]at z;cases z⟩
 keep:=fun i h h' st k=>st.at fun o e=>k it (by simp) o e
 item:=by
  intro X hP hw hK hc i pins s σ H E I hf st hg
  subst hP hw hK
  obtain⟨xs,x,hq,hx⟩:=hg
  obtain⟨zl,rv,p,hz⟩:=I.tuple hq
  obtain⟨u,hu,ru⟩:=rv.get hx
  obtain⟨f0,f1,f2,f3,f4,f5⟩:=hf it (by simp)
  refine wpAny_pyNext_tuple_item st (show s.heap.IsTuple a zl.toArray from p) (x:=u) (by simpa using hu) fun h' Fq sb=>?_
  have I1:Inv X pins σ H { s with heap:=h' }:=I.turned (t':=s.toks) (fun b o hb e=>(sb.2 b hb).trans e) f0 f1 f3 f4 f5
  obtain⟨o,e,c,d⟩:=id Fq
  exact⟨u,rfl,uf (s:={ s with heap:=h' }) e c d (by decide) ⟨x,H,I1,ru,⟨rfl,fun ys hy=>by rw[I.BK hy hq];exact hx⟩,Fq,fun b hb=>(hf b hb).1⟩⟩
 done:=by
  intro X hP hw hK hc i pins s σ H E I hf st hg
  subst hP hw hK
  obtain⟨xs,hq,hx⟩:=hg
  obtain⟨zl,rv,p,hz⟩:=I.tuple hq
  obtain⟨f0,f1,f2,f3,f4,f5⟩:=hf it (by simp)
  have hl:=rv.length
  exact wpAny_pyNext_tuple_end (I.ok.hd hc) st (show s.heap.IsTuple a zl.toArray from p) (by simp;omega) fun h' eb=>⟨rfl,I.turned (t':=s.toks) (fun b o hb e=>eb b o hb e) f0 f1 f3 f4 f5⟩
 self:=fun _ _ _ _ _ st h=>wpAny_pyIter_tupleiter st h
theorem nH {P:Program}{w:World}{K:Frag}{tg:Expr}(it:Addr)(lo:Int)(n:Nat):pb P w K tg (uJ lo n) [it] it (fun i h=>IsRangeIter h it (lo + (i:Nat) * 1) ((n:Int) - (i:Nat)) 1) where
 mem:=by simp
 obj:=fun i h st b hb=>by
  have e:b=it:=by simpa using hb
  subst e
  exact⟨_,st,fun v z=>by
   have z':Data.fields _=Data.cell v:=z
   cases z'⟩
 keep:=fun i h h' st k=>k it (by simp) _ st
 item:=by
  intro X hP hw hK hc i pins s σ H E I hf st hg
  subst hP hw hK
  obtain⟨f0,f1,f2,f3,f4,f5⟩:=hf it (by simp)
  have W:=Walks.range (prog:=X.prog) (w:=X.w) (I.ok.hd hc) it lo 1 n
  refine W.item i s _ _ hg st fun v h' tk hv Fq kk=>?_
  obtain⟨t,rfl⟩:=hv
  have I1:Inv X pins σ H { s with heap:=h',toks:=tk }:=I.turned (fun b o hb e=>kk b o (by simpa using hb) e) f0 f1 f3 f4 f5
  refine⟨_,rfl,uf (s:={ s with heap:=h',toks:=tk }) (n := "range_iterator") Fq rfl rfl (by decide) ⟨.int (lo + i),H,I1,⟨t,?_⟩,⟨rfl,rfl⟩,Fq,fun b hb=>(hf b hb).1⟩⟩
  rw[Int.mul_one]
 done:=by
  intro X hP hw hK hc i pins s σ H E I hf st hg
  subst hP hw hK
  obtain⟨f0,f1,f2,f3,f4,f5⟩:=hf it (by simp)
  exact wpAny_pyNext_range_end (I.ok.hd hc) st (by have:n <= i:=hg;omega) fun h' eb=>⟨rfl,I.turned (t':=s.toks) (fun b o hb e=>eb b o hb e) f0 f1 f3 f4 f5⟩
 self:=fun _ _ _ _ _ st h=>wpAny_pyIter_rangeiter st h
section
variable {X:Cx}{tg:Expr}
noncomputable def Jq (K:Frag)(tl:TE):TI:=fun σ H R=>tl σ H fun x H1=>∃ a,x = .ref a/\(∃ xs,zj K H1 a xs)/\R (rp K a) H1
noncomputable def OO (K:Frag)(tl:TE):TI:=fun σ H R=>tl σ H fun x H1=>∃ a,x = .ref a/\(∃ xs,zt K H1 a xs)/\R (Jp K a) H1
theorem bx {l:Expr}{tl:TE}(hl:PE X l tl):PI X tg l (Jq X.K tl):=by
 intro pins s σ H R I h
 refine aW (hl pins s σ H _ I h) fun v s1 zk=>?_
 obtain⟨x,H1,I1,r1,q1⟩:=zk
 obtain⟨a,e,⟨xs,hq⟩,q⟩:=q1
 subst e
 cases r1
 obtain⟨zl,rv,p,hz⟩:=I1.list hq
 refine wpAny_pyIter_list p.isList ?_
 refine⟨s1.heap.objs.size,[s1.heap.objs.size],_,_,H1,rfl,I1.kept (t':=s1.toks) fun b o e=>Heap.get?_push_of_some _ e,qy a _,⟨_,Heap.get?_push_size _ rfl,rfl,rfl⟩,fun b hb=>?_,q⟩
 have e:b=s1.heap.objs.size:=by simpa using hb
 subst e
 exact I1.DA (Nat.le_refl _) (I1.zp.fresh (Nat.le_refl _))
theorem j7 {l:Expr}{tl:TE}(hl:PE X l tl):PI X tg l (OO X.K tl):=by
 intro pins s σ H R I h
 refine aW (hl pins s σ H _ I h) fun v s1 zk=>?_
 obtain⟨x,H1,I1,r1,q1⟩:=zk
 obtain⟨a,e,⟨xs,hq⟩,q⟩:=q1
 subst e
 cases r1
 obtain⟨zl,rv,p,hz⟩:=I1.tuple hq
 refine wpAny_pyIter_tuple (show s1.heap.IsTuple a zl.toArray from p) ?_
 refine⟨s1.heap.objs.size,[s1.heap.objs.size],_,_,H1,rfl,I1.kept (t':=s1.toks) fun b o e=>Heap.get?_push_of_some _ e,nG a _,⟨_,Heap.get?_push_size _ rfl,rfl,rfl⟩,fun b hb=>?_,q⟩
 have e:b=s1.heap.objs.size:=by simpa using hb
 subst e
 exact I1.DA (Nat.le_refl _) (I1.zp.fresh (Nat.le_refl _))
theorem sM {pins:List (Addr × Obj)}{σ:St}{H:Hp}{s:Shared}{R:It->Hp->Prop}{E:Value->Shared->Prop}{lo hi:Int}{t u v:Tok}{tk:Nat}(I:Inv X pins σ H s)(h1:-(2 ^ 62) <= lo)(h2:lo < 2 ^ 62)(h3:-(2 ^ 62) <= hi)(h4:hi < 2 ^ 62)
  (q:R (uJ lo (hi - lo).toNat) H):wpAny (model X.prog X.w) X.A (pyIter (.ref s.heap.objs.size)) (Us X pins σ tg R) E { s with heap:=s.heap.push { cls := .type "range",data := .fields #[.int lo t, .int hi u, .int 1 v] },toks:=tk }:=by
 refine wpAny_pyIter_range (IsRange.new ..) (small_one h1 h2 h3 h4) ?_
 have I1:Inv X pins σ H { s with heap:=s.heap.push { cls := .type "range",data := .fields #[.int lo t, .int hi u, .int 1 v] },toks:=tk }:=I.kept fun b o e=>Heap.get?_push_of_some _ e
 refine⟨(s.heap.push { cls := .type "range",data := .fields #[.int lo t, .int hi u, .int 1 v] }).objs.size,[(s.heap.push { cls := .type "range",data := .fields #[.int lo t, .int hi u, .int 1 v] }).objs.size],_,_,H,rfl,
  I1.kept (t':=tk) fun b o e=>Heap.get?_push_of_some _ e,nH _ lo (hi - lo).toNat,?_,fun b hb=>?_,q⟩
 ·have e1:lo + ((0:Nat):Int) * 1=lo:=by simp
  have e2:(((hi - lo).toNat:Nat):Int) - ((0:Nat):Int)=Builtin.Range.rangeSize lo hi 1:=by rw[rangeSize_one];split<;>omega
  show IsRangeIter _ _ (lo + ((0:Nat):Int) * 1) ((((hi - lo).toNat:Nat):Int) - ((0:Nat):Int)) 1
  rw[e1,e2]
  exact Heap.get?_push_size _ rfl
 ·have e:b=(s.heap.push { cls := .type "range",data := .fields #[.int lo t, .int hi u, .int 1 v] }).objs.size:=by simpa using hb
  subst e
  exact I1.DA (Nat.le_refl _) (I1.zp.fresh (Nat.le_refl _))
noncomputable def Jr (ta:TA):TI:=fun σ H R=>ta σ H fun vs H1=>∃ j:Int,vs=[.int j]/\-(2 ^ 62) <= j/\j < 2 ^ 62/\R (uJ 0 j.toNat) H1
theorem aX {a:Expr}{ta:TA}{p pos:Pos}(hg:Gl X "range")(hm:X.mg "range" = none)(ha:PA X [a] ta)(hs:autoParam (starEach [a] X.env=[(false,eval a X.env)]) η):PI X tg (.Call (.Name "range" p) [a] [] pos) (Jr ta):=by
 intro pins s σ H R I h
 refine Call_ (iC I hg hm boot_range (PyProof.Rows.callWith_type1 (aW (ha pos pins s σ H _ I h) fun us s1 zk=>?_) hs rfl))
 obtain⟨vs,H1,I1,r1,q1⟩:=zk
 obtain⟨j,e,q1,q2,q⟩:=q1
 subst e
 cases r1 with
 | cons r rr =>
  cases rr
  obtain⟨t,rfl⟩:=r
  exact call_range_1 (sM I1 (by omega) (by omega) q1 q2 (by simpa using q))
noncomputable def OP (wi:TI)(g:TG)(tb:TS):TS:=fun D σ H=>wi σ H fun J H1=>∃ W:Nat->Nat->St->Hp->Prop,(∃ m,W 0 m σ H1)/\∀ i m σ H,W i m σ H ->
 (J.stop i H/\D.nx σ H)∨(J.go i H/\∃ N:St->Hp->Prop,(∀ σ' H',N σ' H'->∃ m',m' < m/\W (i + 1) m' σ' H')/\∀ x H',J.E2 i H x H'->g x σ H' fun σ2 H2=>tb { D with nx:=N,ct:=N,bk:=D.nx } σ2 H2)
noncomputable def eC (fp:List Addr)(h:Heap):List (Addr × Obj):=fp.filterMap fun b=>(h.get? b).map fun o=>(b,o)
theorem eJ {fp:List Addr}{h:Heap}{b:Addr}{o:Obj}(hb:b ∈ fp)(e:h.get? b=some o):(b,o) ∈ eC fp h:=List.mem_filterMap.mpr ⟨b,hb,by rw[e];rfl⟩
theorem kB {fp:List Addr}{h:Heap}{p:Addr × Obj}(hp:p ∈ eC fp h):p.1 ∈ fp/\h.get? p.1=some p.2:=by
 obtain⟨b,hb,e⟩:=List.mem_filterMap.mp hp
 cases q:h.get? b with
 | none=>rw[q]at e;cases e
 | some o =>
  rw[q]at e
  have e':(b,o)=p:=Option.some.inj e
  subst e'
  exact⟨hb,q⟩
theorem Inv.pinned {pins:List (Addr × Obj)}{σ:St}{H:Hp}{s:Shared}{fp:List Addr}(I:Inv X pins σ H s)(hf:∀ b ∈ fp,fX X pins H b)(ho:∀ b ∈ fp,∃ o,s.heap.get? b=some o/\∀ v,o.data ≠ .cell v):Inv X (pins ++ eC fp s.heap) σ H s :=
 I.Am fun p hp=>(mem_append.mp hp).elim (fun z=>I.pin p (mem_append_right _ z)) fun z=>by
  obtain⟨hb,e⟩:=kB z
  obtain⟨f0,f1,f2,_⟩:=hf p.1 hb
  obtain⟨o,e',d⟩:=ho p.1 hb
  rw[e]at e';cases e'
  exact⟨e,f0,f1,f2,d⟩
theorem Inv.AM {pins pl:List (Addr × Obj)}{σ:St}{H:Hp}{s:Shared}(I:Inv X (pins ++ pl) σ H s):Inv X pins σ H s:=I.Am fun p hp=>I.pin p (mem_append_right _ (mem_append_left _ hp))
theorem bR {iter:Expr}{body:List Stmt}{wi:TI}{g:TG}{tb:TS}{pos:Pos}(hp:PassesOwn (model X.prog X.w) X.A X.env X.xe)(hc:X.calm=true)(hi:PI X tg iter wi)(hg:PG X tg g)(hb:Bi X body tb)
  (hs:autoParam (∀ x,foldedSetIterable iter X.env x=pure x) ψ):PS X (.For tg iter body [] pos) (OP wi g tb):=by
 intro pins s σ H D I h
 refine wpAny_For (aW (hi pins s σ H _ I h) fun v s1 h1=>aW h1 fun Nm s2 h2=>?_) hs
 obtain⟨it,fp,tn,J,H2,e,I2,T,Js,f2,W,⟨m0,w0⟩,turn⟩:=h2
 subst e
 have stat:∀ {H':Hp},(∀ b ∈ fp,H' b=none)->∀ b ∈ fp,fX X pins H' b:=fun hn b hb=>⟨hn b hb,(f2 b hb).2⟩
 refine codeAny_forLoop_any (fun n s'=>∃ i σ' H',Inv X pins σ' H' s'/\tn i s'.heap/\(∀ b ∈ fp,H' b=none)/\W i n σ' H') ?_ m0 ⟨0,σ,H2,I2,Js,fun b hb=>(f2 b hb).1,w0⟩
 rintro n s3 ⟨i,σ3,H3,I3,Ut,Uu,w3⟩
 rcases turn i n σ3 H3 w3 with ⟨stop,qn⟩ | ⟨go,N,hN,step⟩
 ·refine wpAny_passesOwn hp (aW (T.done X rfl rfl rfl hc i pins s3 σ3 H3 X.xe I3 (stat Uu) Ut stop) fun r s4 zk=>?_)
  obtain⟨hr,I4⟩:=zk
  subst hr
  exact wpAny_execs_nil ⟨σ3,H3,I4,qn⟩
 ·refine wpAny_passesOwn hp (aW (T.item X rfl rfl rfl hc i pins s3 σ3 H3 X.xe I3 (stat Uu) Ut go) fun r s4 zk=>?_)
  obtain⟨u,hr,h4⟩:=zk
  subst hr
  refine wpAny_passesOwn hp (aW h4 fun _ s5 zk=>?_)
  obtain⟨x,H5,I5,r5,y5,Ik,Nn⟩:=zk
  have I5':=I5.pinned (stat Nn) (T.obj _ _ Ik)
  refine wpAny_passesOwn hp (aW (hg _ s5 σ3 H5 x u _ I5' r5 (step x H5 y5)) fun _ s6 zk=>?_)
  obtain⟨σ6,H6,I6,q6⟩:=zk
  refine wpAny_passesOwn hp (aW (hb _ s6 σ6 H6 _ I6 q6) fun f s7 q7=>?_)
  have again:∀ {σ7:St}{H7:Hp},Inv X (pins ++ eC fp s5.heap) σ7 H7 s7->N σ7 H7->∃ m,m < n/\∃ i σ' H',Inv X pins σ' H' s7/\tn i s7.heap/\(∀ b ∈ fp,H' b=none)/\W i m σ' H':=fun {σ7 H7} I7 n7=>by
   obtain⟨m',hm,w7⟩:=hN σ7 H7 n7
   refine⟨m',hm,i + 1,σ7,H7,I7.AM,T.keep _ _ _ Ik fun b hb o e=>(I7.pin (b,o) (mem_append_right _ (mem_append_right _ (eJ hb e)))).1,fun b hb=>?_,w7⟩
   obtain⟨o,e,d⟩:=T.obj _ _ Ik b hb
   exact(I7.pin (b,o) (mem_append_right _ (mem_append_right _ (eJ hb e)))).2.1
  cases f with
  | next=>obtain⟨σ7,H7,I7,n7⟩:=q7;exact again I7 n7
  | cont=>obtain⟨σ7,H7,I7,n7⟩:=q7;exact again I7 n7
  | brk=>obtain⟨σ7,H7,I7,q7⟩:=q7;exact⟨σ7,H7,I7.AM,q7⟩
  | ret v=>obtain⟨x7,σ7,H7,I7,r7,q7⟩:=q7;exact⟨x7,σ7,H7,I7.AM,r7,q7⟩
end
theorem dX {K:Frag}{a:Addr}{xs:List V}{g:TG}{tb:TS}{D:lI}{σ:St}{H:Hp}(Pv:Nat->St->Hp->Prop)(h0:Pv 0 σ H)(hl:∀ i σ H,i <= xs.length->Pv i σ H->zj K H a xs)
  (hs:∀ i x σ H,xs[i]? = some x->Pv i σ H->g x σ H fun σ2 H2=>tb { D with nx:=Pv (i + 1),ct:=Pv (i + 1),bk:=D.nx } σ2 H2) (hd:∀ σ H,Pv xs.length σ H->D.nx σ H) :
  ∃ W:Nat->Nat->St->Hp->Prop,(∃ m,W 0 m σ H)/\∀ i m σ H,W i m σ H ->
   ((rp K a).stop i H/\D.nx σ H)∨((rp K a).go i H/\∃ N:St->Hp->Prop,(∀ σ' H',N σ' H'->∃ m',m' < m/\W (i + 1) m' σ' H')/\∀ x H',(rp K a).E2 i H x H'->g x σ H' fun σ2 H2=>tb { D with nx:=N,ct:=N,bk:=D.nx } σ2 H2):=by
 refine⟨fun i m σ H=>m=xs.length - i/\i <= xs.length/\Pv i σ H,⟨xs.length,by simp,zero_le _,h0⟩,?_⟩
 rintro i m σ H ⟨rfl,hi,p⟩
 have q:=hl i σ H hi p
 by_cases zT:i < xs.length
 ·refine .inr ⟨⟨xs,xs[i],q,by simp[zT]⟩,Pv (i + 1),fun σ' H' p'=>⟨xs.length - (i + 1),by omega,rfl,zT,p'⟩,fun x H' y=>?_⟩
  obtain⟨e,y⟩:=y
  subst e
  exact hs i x σ _ (y xs q) p
 ·have e:i=xs.length:=by omega
  subst e
  exact .inl ⟨⟨xs,q,Nat.le_refl _⟩,hd σ H p⟩
theorem bP {lo:Int}{n:Nat}{g:TG}{tb:TS}{D:lI}{σ:St}{H:Hp}(Pv:Nat->St->Hp->Prop)(h0:Pv 0 σ H)
  (hs:∀ i σ H,i < n->Pv i σ H->g (.int (lo + i)) σ H fun σ2 H2=>tb { D with nx:=Pv (i + 1),ct:=Pv (i + 1),bk:=D.nx } σ2 H2) (hd:∀ σ H,Pv n σ H->D.nx σ H) :
  ∃ W:Nat->Nat->St->Hp->Prop,(∃ m,W 0 m σ H)/\∀ i m σ H,W i m σ H ->
   ((uJ lo n).stop i H/\D.nx σ H)∨((uJ lo n).go i H/\∃ N:St->Hp->Prop,(∀ σ' H',N σ' H'->∃ m',m' < m/\W (i + 1) m' σ' H')/\∀ x H',(uJ lo n).E2 i H x H'->g x σ H' fun σ2 H2=>tb { D with nx:=N,ct:=N,bk:=D.nx } σ2 H2):=by
 refine⟨fun i m σ H=>m=n - i/\i <= n/\Pv i σ H,⟨n,by simp,zero_le _,h0⟩,?_⟩
 rintro i m σ H ⟨rfl,hi,p⟩
 by_cases zT:i < n
 ·refine .inr ⟨zT,Pv (i + 1),fun σ' H' p'=>⟨n - (i + 1),by omega,rfl,zT,p'⟩,fun x H' y=>?_⟩
  obtain⟨e,y⟩:=y
  subst e y
  exact hs i σ _ zT p
 ·have e:i=n:=by omega
  subst e
  exact .inl ⟨Nat.le_refl _,hd σ H p⟩
noncomputable abbrev R2:=V->V->Hp->VK->Prop
noncomputable def dI (X:Cx)(f:Value->Value->Sem Value)(r:R2):Prop :=
 ∀ (pins:List (Addr × Obj))(s:Shared)(σ:St)(H:Hp)(x y:V)(v u:Value)(Q:VK),Inv X pins σ H s->RelV x v->RelV y u->r x y H Q ->
  wpAny (model X.prog X.w) X.A (f v u) (EP X pins σ Q) X.xe s
noncomputable def dF (X:Cx)(f:Value)(r:List V->Hp->VK->Prop):Prop :=
 ∀ (pins:List (Addr × Obj))(s:Shared)(σ:St)(H:Hp)(xs:List V)(us:List Value)(Q:VK),Inv X pins σ H s->Vals xs us->r xs H Q ->
  wpAny (model X.prog X.w) X.A (call f us) (EP X pins σ Q) X.xe s
noncomputable def OQ (X:Cx)(r:V->Hp->(Bool->Hp->Prop)->Prop):Prop :=
 ∀ (pins:List (Addr × Obj))(s:Shared)(σ:St)(H:Hp)(x:V)(v:Value)(Q:Bool->Hp->Prop),Inv X pins σ H s->RelV x v->r x H Q ->
  wpAny (model X.prog X.w) X.A (truthy v) (TP X pins σ Q) X.xe s
noncomputable def Np (r:R2)(ta tb:TE):TE:=fun σ H Q=>ta σ H fun x H1=>tb σ H1 fun y H2=>r x y H2 Q
noncomputable def rI (C:Int->Int->Prop)(g:Int->Int->V):R2:=fun x y H Q=>∃ i j,x = .int i/\y = .int j/\C i j/\Q (g i j) H
noncomputable def rn (g:Int->Int->V):R2:=fun x y H Q=>∃ i j,x = .int i/\y = .int j/\Q (g i j) H
section
variable {X:Cx}{a b c:Expr}{ta tb tc:TE}{pos:Pos}
theorem yU (ha:PE X a ta)(hb:PE X b tb){pins:List (Addr × Obj)}{s:Shared}{σ:St}{H:Hp}{R:V->V->Hp->Prop}(I:Inv X pins σ H s)
  (h:ta σ H fun x H1=>tb σ H1 fun y H2=>R x y H2) {Q:Value->Shared->Prop} {f:Value->Value->Sem Value}
  (hf:∀ v u s2 x y H2,Inv X pins σ H2 s2->RelV x v->RelV y u->R x y H2->wpAny (model X.prog X.w) X.A (f v u) Q X.xe s2) :
  wpAny (model X.prog X.w) X.A (eval a X.env) (fun v s₁=>wpAny (model X.prog X.w) X.A (eval b X.env) (fun u s₂=>wpAny (model X.prog X.w) X.A (f v u) Q X.xe s₂) X.xe s₁) X.xe s:=by
 refine aW (ha pins s σ H _ I h) fun v s1 zk=>?_
 obtain⟨x,H1,I1,r1,q1⟩:=zk
 refine aW (hb pins s1 σ H1 _ I1 q1) fun u s2 zk=>?_
 obtain⟨y,H2,I2,r2,q2⟩:=zk
 exact hf v u s2 x y H2 I2 r1 r2 q2
theorem aB {op:Operator}{r:R2}(ho:dI X (binaryOp op) r)(ha:PE X a ta)(hb:PE X b tb):PE X (.BinOp a op b pos) (Np r ta tb):=by
 intro pins s σ H Q I h
 exact wpAny_BinOp (yU ha hb I h fun v u s2 x y H2 I2 rx ry q=>ho pins s2 σ H2 x y v u Q I2 rx ry q)
theorem Il {f:Value->Value->Sem Value}{C:Int->Int->Prop}{g:Int->Int->Int}
  (rule:∀ (i j:Int)(t u:Tok)(s:Shared)(Q:Value->Shared->Prop)(E:Value->Shared->Prop),C i j->Q (.int (g i j) s.toks) { s with toks:=s.toks + 1 }->wpAny (model X.prog X.w) X.A (f (.int i t) (.int j u)) Q E s) :
  dI X f (rI C fun i j => .int (g i j)):=by
 intro pins s σ H x y v u Q I rx ry h
 obtain⟨i,j,rfl,rfl,hc,q⟩:=h
 obtain⟨t,rfl⟩:=rx
 obtain⟨t',rfl⟩:=ry
 exact rule i j t t' s _ _ hc ⟨.int (g i j),H,I.tok _,⟨_,rfl⟩,q⟩
theorem qM {f:Value->Value->Sem Value}{g:Int->Int->Int}
  (rule:∀ (i j:Int)(t u:Tok)(s:Shared)(Q:Value->Shared->Prop)(E:Value->Shared->Prop),Q (.int (g i j) s.toks) { s with toks:=s.toks + 1 }->wpAny (model X.prog X.w) X.A (f (.int i t) (.int j u)) Q E s) :
  dI X f (rn fun i j => .int (g i j)):=by
 intro pins s σ H x y v u Q I rx ry h
 obtain⟨i,j,rfl,rfl,q⟩:=h
 obtain⟨t,rfl⟩:=rx
 obtain⟨t',rfl⟩:=ry
 exact rule i j t t' s _ _ ⟨.int (g i j),H,I.tok _,⟨_,rfl⟩,q⟩
theorem vp {f:Value->Value->Sem Value}{g:Int->Int->Bool}
  (rule:∀ (i j:Int)(t u:Tok)(s:Shared)(Q:Value->Shared->Prop)(E:Value->Shared->Prop),Q (.bool (g i j)) s->wpAny (model X.prog X.w) X.A (f (.int i t) (.int j u)) Q E s) :
  dI X f (rn fun i j => .bl (g i j)):=by
 intro pins s σ H x y v u Q I rx ry h
 obtain⟨i,j,rfl,rfl,q⟩:=h
 obtain⟨t,rfl⟩:=rx
 obtain⟨t',rfl⟩:=ry
 exact rule i j t t' s _ _ ⟨.bl (g i j),H,I,rfl,q⟩
noncomputable def OR (i j:Int):Prop:=0 < j/\j < 1073741824
noncomputable def Jt (i j:Int):Prop:=0 <= j/\j <= 1000000/\i.natAbs < 2 ^ 64
noncomputable def G6 (i j:Int):Prop:=(-(2 ^ 64) < i/\i < 2 ^ 64)∨(-(2 ^ 64) < j/\j < 2 ^ 64)
theorem G6.ok {i j:Int}(h:G6 i j):IntMulOk i j:=by
 rcases h with ⟨h1,h2⟩ | ⟨h1,h2⟩
 ·exact .of_left (intBits_le_64 h1 h2)
 ·exact .of_right (intBits_le_64 h1 h2)
theorem nB (k:Nat):(0:Int) <= 2 ^ k:=by
 rw[two_pow_cast]
 exact Int.natCast_nonneg _
theorem bN:dI X (binaryOp .Add) (rn fun i j => .int (i + j)):=qM fun _ _ _ _ _ _ _ q=>add_int q
theorem eG:dI X (binaryOp .Sub) (rn fun i j => .int (i - j)):=qM fun _ _ _ _ _ _ _ q=>sub_int q
theorem gk:dI X (binaryOp .Mult) (rI G6 fun i j => .int (i * j)):=Il fun _ _ _ _ _ _ _ hc q=>mul_int q hc.ok
theorem c3:dI X (binaryOp .FloorDiv) (rI OR fun i j => .int (i / j)):=Il fun i j _ _ _ _ _ hc q=>by
 have h1:(0:Int) < j:=hc.1
 have h2:j < 1073741824:=hc.2
 exact floordiv_int (by omega) (by rw[Int.fdiv_eq_ediv_of_nonneg i (by omega)];exact q) (.inl (PyProof.noPylong_small (by omega)))
theorem bH:dI X (binaryOp .Mod) (rI (fun _ j=>0 < j) fun i j => .int (i % j)):=Il fun i j _ _ _ _ _ hc q=>by
 have h1:(0:Int) < j:=hc
 exact mod_int' (by omega) (by rw[Int.fmod_eq_emod_of_nonneg i (by omega)];exact q)
theorem oC:dI X (binaryOp .Pow) (rI Jt fun i j => .int (i ^ j.toNat)):=Il fun _ _ _ _ _ _ _ hc q=>pow_int_small hc.1 hc.2.1 hc.2.2 q
theorem ya:dI X (binaryOp .LShift) (rI Jt fun i j => .int (i * 2 ^ j.toNat)):=Il fun _ _ _ _ _ _ _ hc q=>lshift_int_small hc.1 hc.2.1 hc.2.2 q
theorem sX:dI X (binaryOp .RShift) (rI (fun _ j=>0 <= j) fun i j => .int (i / 2 ^ j.toNat)):=Il fun i j _ _ _ _ _ hc q =>
 rshift_int hc (by rw[Int.fdiv_eq_ediv_of_nonneg i (nB _)];exact q)
theorem sY:dI X (binaryOp .BitAnd) (rn fun i j => .int (Builtin.bitAnd i j)):=qM fun _ _ _ _ _ _ _ q=>and_int q
theorem Ju:dI X (binaryOp .BitOr) (rn fun i j => .int (Builtin.bitOr i j)):=qM fun _ _ _ _ _ _ _ q=>or_int q
theorem l7:dI X (inplaceOp .Add) (rn fun i j => .int (i + j)):=qM fun _ _ _ _ _ _ _ q=>iadd_int q
theorem qe:dI X (inplaceOp .Sub) (rn fun i j => .int (i - j)):=qM fun _ _ _ _ _ _ _ q=>isub_int q
end
noncomputable def xw:V->V->Bool
 | .zD, .zD=>true | .zD, .int _=>true | .int _, .zD=>true | .zD, .bl _=>true | .bl _, .zD=>true | .zD, .str _=>true | .str _, .zD=>true
 | .int _, .int _=>true | .bl _, .bl _=>true | .str _, .str _=>true | .CJ _, .CJ _=>true
 | .int _, .str _=>true | .str _, .int _=>true | .bl _, .str _=>true | .str _, .bl _=>true
 | _,_=>false
noncomputable def rEq:R2:=fun x y H Q=>xw x y=true/\Q (.bl (decide (x=y))) H
noncomputable def rNe:R2:=fun x y H Q=>xw x y=true/\Q (.bl (!decide (x=y))) H
theorem qm {i j:Int}:decide (V.int i=V.int j)=(i == j):=by
 rw[Bool.eq_iff_iff]
 simp
theorem ur {i j:Bool}:decide (V.bl i=V.bl j)=(i == j):=by
 rw[Bool.eq_iff_iff]
 simp
theorem qk {i j:Str}:decide (V.str i=V.str j)=(i == j):=by
 rw[Bool.eq_iff_iff]
 simp
theorem qo {i j:Array UInt8}:decide (V.CJ i=V.CJ j)=(i.toList == j.toList):=by
 rw[Bool.eq_iff_iff]
 cases i
 cases j
 simp
section
variable {X:Cx}{a b c:Expr}{ta tb tc:TE}{pos:Pos}
theorem aS {pins:List (Addr × Obj)}{σ:St}{H:Hp}{s:Shared}{Q:VK}{k k':Bool}(I:Inv X pins σ H s)(q:Q (.bl k) H)(e:k=k'):EP X pins σ Q (.bool k') s:=by
 subst e
 exact⟨.bl k,H,I,rfl,q⟩
theorem bK:dI X (compareOp .Eq) rEq:=by
 intro pins s σ H x y v u Q I rx ry h
 obtain⟨hs,q⟩:=h
 cases x with
 | zD =>
  cases rx
  cases y with
  | zD=>cases ry;exact PySem.EqNone.eq_none_none (aS I q (by simp))
  | bl j=>cases ry;exact PySem.EqNone.eq_none_bool (aS I q (by simp))
  | int j=>obtain⟨t',rfl⟩:=ry;exact PySem.EqNone.eq_none_int (aS I q (by simp))
  | str j=>obtain⟨t',rfl⟩:=ry;exact PySem.EqNone.eq_none_str (aS I q (by simp))
  | _=>exact absurd (show false=true from hs) Bool.false_ne_true
 | bl i =>
  cases rx
  cases y with
  | zD=>cases ry;exact PySem.EqNone.eq_bool_none (aS I q (by simp))
  | bl j=>cases ry;exact eq_bool (aS I q ur)
  | str j=>obtain⟨t',rfl⟩:=ry;exact PySem.EqMixed.eq_bool_str (aS I q (by simp))
  | _=>exact absurd (show false=true from hs) Bool.false_ne_true
 | int i =>
  obtain⟨t,rfl⟩:=rx
  cases y with
  | zD=>cases ry;exact PySem.EqNone.eq_int_none (aS I q (by simp))
  | int j=>obtain⟨t',rfl⟩:=ry;exact eq_int (aS I q qm)
  | str j=>obtain⟨t',rfl⟩:=ry;exact PySem.EqMixed.eq_int_str (aS I q (by simp))
  | _=>exact absurd (show false=true from hs) Bool.false_ne_true
 | str i =>
  obtain⟨t,rfl⟩:=rx
  cases y with
  | zD=>cases ry;exact PySem.EqNone.eq_str_none (aS I q (by simp))
  | bl j=>cases ry;exact PySem.EqMixed.eq_str_bool (aS I q (by simp))
  | int j=>obtain⟨t',rfl⟩:=ry;exact PySem.EqMixed.eq_str_int (aS I q (by simp))
  | str j=>obtain⟨t',rfl⟩:=ry;exact eq_str (aS I q qk)
  | _=>exact absurd (show false=true from hs) Bool.false_ne_true
 | CJ i =>
  obtain⟨t,rfl⟩:=rx
  cases y with
  | CJ j=>obtain⟨t',rfl⟩:=ry;exact PySem.W.eq_bytes (aS I q qo)
  | _=>exact absurd (show false=true from hs) Bool.false_ne_true
 | _=>cases y<;>exact absurd (show false=true from hs) Bool.false_ne_true
theorem m5:dI X (compareOp .NotEq) rNe:=by
 intro pins s σ H x y v u Q I rx ry h
 obtain⟨hs,q⟩:=h
 cases x with
 | zD =>
  cases rx
  cases y with
  | zD=>cases ry;exact PySem.EqNone.ne_none_none (aS I q (by simp))
  | bl j=>cases ry;exact PySem.EqNone.ne_none_bool (aS I q (by simp))
  | int j=>obtain⟨t',rfl⟩:=ry;exact PySem.EqNone.ne_none_int (aS I q (by simp))
  | str j=>obtain⟨t',rfl⟩:=ry;exact PySem.EqNone.ne_none_str (aS I q (by simp))
  | _=>exact absurd (show false=true from hs) Bool.false_ne_true
 | bl i =>
  cases rx
  cases y with
  | zD=>cases ry;exact PySem.EqNone.ne_bool_none (aS I q (by simp))
  | bl j=>cases ry;exact ne_bool (aS I q (congrArg not ur))
  | str j=>obtain⟨t',rfl⟩:=ry;exact PySem.EqMixed.ne_bool_str (aS I q (by simp))
  | _=>exact absurd (show false=true from hs) Bool.false_ne_true
 | int i =>
  obtain⟨t,rfl⟩:=rx
  cases y with
  | zD=>cases ry;exact PySem.EqNone.ne_int_none (aS I q (by simp))
  | int j=>obtain⟨t',rfl⟩:=ry;exact ne_int (aS I q (congrArg not qm))
  | str j=>obtain⟨t',rfl⟩:=ry;exact PySem.EqMixed.ne_int_str (aS I q (by simp))
  | _=>exact absurd (show false=true from hs) Bool.false_ne_true
 | str i =>
  obtain⟨t,rfl⟩:=rx
  cases y with
  | zD=>cases ry;exact PySem.EqNone.ne_str_none (aS I q (by simp))
  | bl j=>cases ry;exact PySem.EqMixed.ne_str_bool (aS I q (by simp))
  | int j=>obtain⟨t',rfl⟩:=ry;exact PySem.EqMixed.ne_str_int (aS I q (by simp))
  | str j=>obtain⟨t',rfl⟩:=ry;exact ne_str (aS I q (congrArg not qk))
  | _=>exact absurd (show false=true from hs) Bool.false_ne_true
 | CJ i =>
  obtain⟨t,rfl⟩:=rx
  cases y with
  | CJ j=>obtain⟨t',rfl⟩:=ry;exact PySem.W.ne_bytes (aS I q (congrArg not qo))
  | _=>exact absurd (show false=true from hs) Bool.false_ne_true
 | _=>cases y<;>exact absurd (show false=true from hs) Bool.false_ne_true
theorem k8:dI X (compareOp .Lt) (rn fun i j => .bl (decide (i < j))):=vp fun _ _ _ _ _ _ _ q=>lt_int q
theorem pO:dI X (compareOp .LtE) (rn fun i j => .bl (decide (i <= j))):=vp fun _ _ _ _ _ _ _ q=>le_int q
theorem m6:dI X (compareOp .Gt) (rn fun i j => .bl (decide (j < i))):=vp fun _ _ _ _ _ _ _ q=>gt_int q
theorem wP:dI X (compareOp .GtE) (rn fun i j => .bl (decide (j <= i))):=vp fun _ _ _ _ _ _ _ q=>ge_int q
theorem j9:dI X (compareOp .Is) (fun x y H Q=>y = .zD/\Q (.bl (decide (x = .zD))) H):=by
 intro pins s σ H x y v u Q I rx ry h
 obtain⟨rfl,q⟩:=h
 cases ry
 refine is_none_gen (aS I q ?_)
 cases x<;>first
  | (cases rx;rfl)
  | (obtain⟨t,rfl⟩:=rx;rfl)
theorem pN:dI X (compareOp .IsNot) (fun x y H Q=>y = .zD/\Q (.bl (!decide (x = .zD))) H):=by
 intro pins s σ H x y v u Q I rx ry h
 obtain⟨rfl,q⟩:=h
 cases ry
 refine isnot_none_gen (aS I q ?_)
 cases x<;>first
  | (cases rx;rfl)
  | (obtain⟨t,rfl⟩:=rx;rfl)
theorem ax (b:Expr){op:CmpOp}(h:autoParam (op ≠ .In) θ)(h2:autoParam (op ≠ .NotIn) θ):behindInMarks op b=false:=by
 have e1:(op == CmpOp.In)=false:=by cases op<;>first | rfl | exact absurd rfl h
 have e2:(op == CmpOp.NotIn)=false:=by cases op<;>first | rfl | exact absurd rfl h2
 cases b<;>simp[behindInMarks,e1,e2]
theorem cz {op:CmpOp}{r:R2}(ho:dI X (compareOp op) r)(ha:PE X a ta)(hb:PE X b tb)(hm:behindInMarks op b=false):PE X (.Compare a [op] [b] pos) (Np r ta tb):=by
 intro pins s σ H Q I h
 exact wpAny_Compare1 (yU ha hb I h fun v u s2 x y H2 I2 rx ry q=>ho pins s2 σ H2 x y v u Q I2 rx ry q) hm
noncomputable def Jv (t:TE):TT:=fun σ H Q=>t σ H fun x H'=>∃ k,x = .bl k/\Q k H'
theorem au {op:CmpOp}{r:R2}(ho:dI X (compareOp op) r)(ha:PE X a ta)(hb:PE X b tb)(hm:behindInMarks op b=false):PT X (.Compare a [op] [b] pos) (Jv (Np r ta tb)):=by
 intro pins s σ H Q I h
 refine wpAny_isTrue_Compare1 (aW (ha pins s σ H _ I h) fun v s1 ⟨x,H1,I1,r1,q1⟩=>aW (hb pins s1 σ H1 _ I1 q1) fun u s2 ⟨y,H2,I2,r2,q2⟩ =>
  aW (ho pins s2 σ H2 x y v u _ I2 r1 r2 q2) fun c s3 ⟨z,H3,I3,r3,k,e,q3⟩=>?_) hm
 subst e
 cases r3
 exact wpAny_truthy_bool ⟨H3,I3,q3⟩
noncomputable def xm (r r':R2)(ta tb tc:TE):TE:=fun σ H Q=>ta σ H fun x H1=>tb σ H1 fun y H2=>r x y H2 fun z H3=>∃ k,z = .bl k /\
 (if k=true then tc σ H3 fun w' H4=>r' y w' H4 Q else Q (.bl false) H3)
theorem mz {op OS:CmpOp}{r r':R2}(ho:dI X (compareOp op) r)(Ez:dI X (compareOp OS) r')(ha:PE X a ta)(hb:PE X b tb)(hc:PE X c tc)
  (hm:lastMarks [op,OS] [b,c]=false:=by with_unfolding_all rfl):PE X (.Compare a [op,OS] [b,c] pos) (xm r r' ta tb tc):=by
 intro pins s σ H Q I h
 refine Compare_chain (aW (ha pins s σ H _ I h) fun v s1 ⟨x,H1,I1,r1,q1⟩=>chain_link (aW (hb pins s1 σ H1 _ I1 q1) fun u s2 ⟨y,H2,I2,r2,q2⟩ =>
  aW (ho pins s2 σ H2 x y v u _ I2 r1 r2 q2) fun d s3 ⟨z,H3,I3,r3,k,e,q3⟩=>?_)) hm
 subst e
 cases r3
 refine wpAny_truthy_bool ?_
 cases k with
 | false=>exact ite_ff ⟨.bl false,H3,I3,rfl,q3⟩
 | true=>exact ite_tt (chain_last (aW (hc pins s3 σ H3 _ I3 q3) fun w' s4 zk=>by obtain⟨z',H4,I4,r4,q4⟩:=zk;exact Ez pins s4 σ H4 y z' u w' Q I4 r2 r4 q4))
noncomputable def yZ (K:Frag)(x:V)(H:Hp)(k:Bool):Prop :=
 match x with
 | .zD=>k=false
 | .bl b=>k=b
 | .int i=>k=(i != 0)
 | .str y=>y.length <= sizeLine/\k=((y.length:Int) != 0)
 | .CJ y=>y.size <= sizeLine/\k=((y.size:Int) != 0)
 | .ref p=>(∃ xs,zj K H p xs/\k = !xs.isEmpty)∨(∃ xs,zt K H p xs/\k = !xs.isEmpty)∨∃ zq,H p=some (.dK zq)/\k = !zq.isEmpty
 | _=>False
theorem oP {κ:Type} {zq:List (κ × V)} {vs:List (κ × Value)} (r:KV zq vs):(!vs.isEmpty) = !zq.isEmpty:=by
 cases r<;>rfl
theorem jG {xs:List V}{zl:List Value}(r:Vals xs zl):(!zl.toArray.isEmpty) = !xs.isEmpty:=by
 cases r<;>simp
theorem jF:(sizeLine:Nat) < 2 ^ 63:=by rw[sizeLine_eq];decide
theorem rC:OQ X (fun x H Q=>∃ k,yZ X.K x H k/\Q k H):=by
 intro pins s σ H x v Q I rx h
 obtain⟨k,e,q⟩:=h
 have hl:=jF
 have hs:sizeLine=16777216:=sizeLine_eq
 cases x with
 | zD =>
  cases rx
  have e':k=false:=e
  subst e'
  exact truthy_none ⟨H,I,q⟩
 | bl b =>
  cases rx
  have e':k=b:=e
  subst e'
  exact wpAny_truthy_bool ⟨H,I,q⟩
 | int i =>
  obtain⟨t,rfl⟩:=rx
  have e':k=(i != 0):=e
  subst e'
  exact PySem.P.truthy_int ⟨H,I,q⟩
 | str y =>
  obtain⟨t,rfl⟩:=rx
  obtain⟨hy,e'⟩:y.length <= sizeLine/\k=((y.length:Int) != 0):=e
  subst e'
  exact PySem.P.truthy_str (by omega) ⟨H,I.tok _,q⟩
 | CJ y =>
  obtain⟨t,rfl⟩:=rx
  obtain⟨hy,e'⟩:y.size <= sizeLine/\k=((y.size:Int) != 0):=e
  subst e'
  exact PySem.W.truthy_bytes (by omega) ⟨H,I.tok _,q⟩
 | ref p =>
  cases rx
  have e':(∃ xs,zj X.K H p xs/\k = !xs.isEmpty)∨(∃ xs,zt X.K H p xs/\k = !xs.isEmpty)∨∃ zq,H p=some (.dK zq)/\k = !zq.isEmpty:=e
  rcases e' with ⟨xs,hx,e'⟩ | ⟨xs,hx,e'⟩ | ⟨zq,hx,e'⟩
  ·subst e'
   obtain⟨zl,r,pl,hz⟩:=I.list hx
   have hlen:=r.length
   exact wpAny_truthy_list pl.isList (by simp only[size_toArray];omega) ⟨H,I.tok _,by rw[jG r];exact q⟩
  ·subst e'
   obtain⟨zl,r,pl,hz⟩:=I.tuple hx
   have hlen:=r.length
   exact truthy_tuple pl (by simp only[size_toArray];omega) ⟨H,I.tok _,by rw[jG r];exact q⟩
  ·subst e'
   obtain⟨hz,hS,vs,r,m⟩:zq.length <= sizeLine/\(p == sysModules)=false/\∃ vs,KV zq vs/\s.heap.DictOf (ly X.prog X.w) p vs:=I.zp p _ hx
   have hlen:zq.length=vs.length:=Paired.length r
   exact wpAny_truthy_dict hS m (by omega) ⟨H,I.tok _,by rw[oP r];exact q⟩
 | _=>exact(show False from e).elim
theorem fA (ha:PE X a ta)(he:∀ whole,isTrue a X.env whole=(do let v ← whole;standAt a.pos;holding [v] (truthy v))) :
  PT X a (fun σ H Q=>ta σ H fun x H'=>∃ k,yZ X.K x H' k/\Q k H'):=by
 intro pins s σ H Q I h
 exact isTrue_plain (aW (ha pins s σ H _ I h) fun v s1 zk=>by obtain⟨x,H1,I1,r1,q1⟩:=zk;exact rC pins s1 σ H1 x v Q I1 r1 q1) (he _)
theorem kx {x:V}{us:List Value}(r:Vals [x] us):∃ u,us=[u]/\RelV x u:=by
 cases r with
 | cons r1 r2=>cases r2;exact⟨_,rfl,r1⟩
theorem uz:dF X (.builtin "abs") (fun xs H Q=>∃ i,xs=[.int i]/\Q (.int (if i < 0 then -i else i)) H):=by
 intro pins s σ H xs us Q I r h
 obtain⟨i,rfl,q⟩:=h
 obtain⟨u,rfl,t,rfl⟩:=kx r
 exact call_abs_int fun u tk=>⟨.int (if i < 0 then -i else i),H,I.tok _,⟨_,rfl⟩,q⟩
end
structure C0 (h:Heap)(x dx C:Addr)(mA:Str->Option Value):Prop where
 obj:h.get? x=some (PySem.W.instObj C dx)
 ns:h.Ns1 dx mA
 ne:dx ≠ x
theorem qW {h:Heap}{dx:Addr}{mA:Str->Option Value}(n:h.Ns1 dx mA):∃ od,h.get? dx=some od/\∀ name,PySem.W.lookIn name od=some (mA name):=by
 obtain⟨o,es,ep,ho,hd,hk,_,hm⟩:=n
 refine⟨o,ho,fun name=>?_⟩
 have e:=hm name
 unfold nsFind findBy at e
 rw[← Array.find?_toList]at e
 unfold PySem.W.lookIn
 rw[hd]
 dsimp only
 split
 ·rename_i y q
  rw[q]at e
  exact congrArg some e
 ·rename_i q
  rw[q]at e
  have a:es.toList.any (·.refKey)=false:=by
   rw[List.any_eq_false]
   intro y hy
   obtain⟨z,t,OT⟩:=hk y (Array.mem_toList_iff.mp hy)
   simp[DictEntry.refKey,OT]
  have a':¬ es.toList.any (·.refKey)=true:=by rw[a];exact Bool.false_ne_true
  rw[if_neg a']
  exact congrArg some e
theorem C0.look {h:Heap}{x dx C:Addr}{mA:Str->Option Value}(I:C0 h x dx C mA):∃ od,PySem.W.InstAt h x (PySem.W.instObj C dx) C (some od)/\∀ name,PySem.W.lookIn name od=some (mA name) :=
 let ⟨od,ho,hl⟩:=qW I.ns
 ⟨od,⟨I.obj,rfl,rfl,ho⟩,hl⟩
section
variable {prog:Program}{w:World}{A:Around}{E:Value->Shared->Prop}{s:Shared}{K:Frag}{x dx C f:Addr}{mA:Str->Option Value}{name:Str}{v:Value}
theorem wc {expr:Bool}{Q:Value->Shared->Prop}(X:K.In s.heap)(I:C0 s.heap x dx C mA)(hg:plainGet K C name=true)(hh:hasDictIn K C=true)
  (ha:findIn K (.ref C) name=some none) (hv:mA name=some v) (Im:PySem.W.handedIn v=true) (h:Q v { s with toks:=s.toks + 1 }) :
  wpAny (model prog w) A (getAttr (.ref x) name expr) Q E s:=by
 obtain⟨od,J,hl⟩:=I.look
 exact PySem.W.get_value X J (PySem.W.plainGet_of hg).1 (PySem.W.findObj_own hh ha rfl (by rw[hl,hv])) Im h
theorem ug {pl:Sem Bool}{Q:Value × List Value->Shared->Prop}(X:K.In s.heap)(I:C0 s.heap x dx C mA)(hg:plainGet K C name=true)
  (hf:findIn K (.ref C) name=some (some (.ref f))) (ht:isFn K (.ref f)=true) (hv:mA name=none) (h:Q (.ref f,[.ref x]) s) :
  wpAny (model prog w) A (getMethod (.ref x) name pl) Q E s:=by
 obtain⟨od,J,hl⟩:=I.look
 exact PySem.W.method_fn X J (PySem.W.plainGet_of hg).1 (PySem.W.plainGet_of hg).2 hf (beq_iff_eq.mp ht) (by show(PySem.W.lookIn name od).map (·.isSome)=some false;rw[hl,hv];rfl) h
theorem uT {ns:List Str}{Q:Unit->Shared->Prop}(X:K.In s.heap)(I:C0 s.heap x dx C mA)
  (hs:findIn K (.ref C) "__setattr__" = some (some (.builtin "object.__setattr__"))) (hp:plainOver K C=true) (ht:PySem.W.takerIn K C name=some none) (hh:hasDictIn K C=true)
  (hw:PySem.Within mA ns) (hsz:ns.length <= sizeLine)
  (h:∀ h',C0 h' x dx C (fun y=>if y=name then some v else mA y)->Heap.SameBut dx s.heap h'->Q () { s with heap:=h',toks:=s.toks + 2 }) :
  wpAny (model prog w) A (setAttr (.ref x) name v) Q E s:=by
 obtain⟨od,J,hl⟩:=I.look
 refine PySem.W.set_plain X J hs (PySem.W.osa_open (s:={ s with toks:=s.toks + 1 }) (r:=none) X J hp ht fun b=>?_)
 obtain⟨cd,hc,Fm⟩:=PySem.W.any_some hh
 have hx:s.heap.get? x=some ⟨.ref C,some dx, .plain,#[]⟩:=I.obj
 refine wpAny_bind (wpAny_pure (wpAny_bind (wpAny_bind (wpAny_loadPart hx (wpAny_bind (PySem.W.Looks.here (s:={ s with toks:=s.toks + 1 }) (PySem.W.looks_clsIn X hc) ?_))))))
 rw[Fm]
 refine wpAny_pure (a:=some dx) (wpAny_bind (wpAny_pure (wpAny_bind ?_)))
 refine wpAny_nsSet1 (s:={ s with toks:=s.toks + 1 }) I.ns fun h' CW Eg=>?_
 obtain⟨oD,Uv,Uw,Jw,Jx,Jy⟩:=CW.count (PySem.Within.cons name v hw)
 refine wpAny_bind (wpAny_lookBehind Jw (by rw[Jx];exact pastItsLine_dict (le_trans Jy (by rw[length_cons];omega))) ?_)
 exact wpAny_pure (h _ ⟨(Eg.2 _ (Ne.symm I.ne)).trans I.obj,CW,I.ne⟩ Eg)
theorem tY {R:Result->Shared->Prop}{vs:List Value}{kw:List (Str × Value)}(X:K.In s.heap)(hm:makesIn K C=true)
  (hi:findIn K (.ref C) "__init__" = some (some (.ref f))) (hf:PySem.W.typeIn K (.ref f)=some (.type "function"))
  (h:codeAny (model prog w) (A.under (.builtin "type.__call__" ⟨.ref C :: vs,kw⟩)) (.call (.ref f) ⟨.ref (s.heap.objs.size + 1) :: vs,kw⟩) (PySem.W.InitBack (s.heap.objs.size + 1) R)
   { s with heap:=(s.heap.push PySem.W.emptyDict).push (PySem.W.instObj C s.heap.objs.size) }) :
  codeAny (model prog w) A (.call (.ref C) ⟨vs,kw⟩) R s:=by
 obtain⟨hh,g,d,t,os⟩:=s
 exact PySem.W.make_core (PySem.W.makes_of X hm) (PySem.W.looks_findIn X hi) (fun self=>PySem.W.bind_fn X self hf) (.inl rfl) h
end
noncomputable def aK (f:Str)(v:V):List (Str × V)->List (Str × V)
 | []=>[(f,v)]
 | (g,x) :: r=>if g=f then (g,v) :: r else (g,x) :: aK f v r
theorem fG (f g:Str)(v:V):∀ fs:List (Str × V),(aK f v fs).lookup g=if g=f then some v else fs.lookup g
 | []=>by
  show List.lookup g [(f,v)]=_
  by_cases h:g=f
  ·have hb:(g == f)=true:=beq_iff_eq.mpr h
   simp only[List.lookup,hb,if_pos h]
  ·have hb:(g == f)=false:=beq_eq_false_iff_ne.mpr h
   simp only[List.lookup,hb,if_neg h]
 | (k,x) :: r=>by
  have ih:=fG f g v r
  rw[show aK f v ((k,x) :: r)=(if k=f then (k,v) :: r else (k,x) :: aK f v r) from rfl]
  by_cases hk:k=f
  ·rw[if_pos hk]
   by_cases h:g=k
   ·have hb:(g == k)=true:=beq_iff_eq.mpr h
    simp only[List.lookup,hb,if_pos (h.trans hk)]
   ·have hb:(g == k)=false:=beq_eq_false_iff_ne.mpr h
    simp only[List.lookup,hb,if_neg (fun e:g=f=>h (e.trans hk.symm))]
  ·rw[if_neg hk]
   by_cases h:g=k
   ·have hb:(g == k)=true:=beq_iff_eq.mpr h
    simp only[List.lookup,hb,if_neg (fun e:g=f=>hk (h.symm.trans e))]
   ·have hb:(g == k)=false:=beq_eq_false_iff_ne.mpr h
    simp only[List.lookup,hb]
    exact ih
theorem iD (f:Str)(v:V):∀ fs:List (Str × V),f ∈ (aK f v fs).map (·.1)/\∀ g,g ∈ fs.map (·.1)->g ∈ (aK f v fs).map (·.1)
 | []=>⟨by simp[aK],fun g h=>by simp at h⟩
 | (k,x) :: r=>by
  obtain⟨i1,i2⟩:=iD f v r
  rw[show aK f v ((k,x) :: r)=(if k=f then (k,v) :: r else (k,x) :: aK f v r) from rfl]
  by_cases hk:k=f
  ·rw[if_pos hk]
   subst hk
   exact⟨by simp,fun g h=>by simpa using h⟩
  ·rw[if_neg hk]
   refine⟨?_,fun g h=>?_⟩
   ·rw[map_cons]
    exact mem_cons_of_mem _ i1
   ·rw[map_cons]at h ⊢
    rcases mem_cons.mp h with e | e
    ·exact mem_cons.mpr (.inl e)
    ·exact mem_cons_of_mem _ (i2 g e)
theorem iP (f:Str)(v:V):∀ fs:List (Str × V),(aK f v fs).length <= fs.length + 1
 | []=>by simp[aK]
 | (k,x) :: r=>by
  have ih:=iP f v r
  rw[show aK f v ((k,x) :: r)=(if k=f then (k,v) :: r else (k,x) :: aK f v r) from rfl]
  by_cases hk:k=f
  ·rw[if_pos hk,length_cons,length_cons];omega
  ·rw[if_neg hk,length_cons,length_cons];omega
theorem AL.some_of {v:V}{o:Option Value}(r:AL (some v) o):∃ u,o=some u/\RelV v u:=by
 cases o with
 | none=>exact(show False from r).elim
 | some u=>exact⟨u,rfl,r⟩
theorem AL.none_of {o:Option Value}(r:AL none o):o=none:=by
 cases o with
 | none=>rfl
 | some u=>exact(show False from r).elim
theorem rf {v:V}{u:Value}(r:RelV v u):PySem.W.handedIn u=true:=by
 cases v with
 | zD=>cases (show u=Value.none from r);rfl
 | bl b=>cases (show u=Value.bool b from r);rfl
 | int i=>obtain⟨t,e⟩:=(show ∃ t,u=Value.int i t from r);cases e;rfl
 | str x=>obtain⟨t,e⟩:=(show ∃ t,u=Value.str x t from r);cases e;rfl
 | CJ b=>obtain⟨t,e⟩:=(show ∃ t,u=Value.bytes b t from r);cases e;rfl
 | G0 b=>obtain⟨t,e⟩:=(show ∃ t,u=Value.float b t from r);cases e;rfl
 | ref a=>cases (show u=Value.ref a from r);rfl
 | ty n=>cases (show u=Value.type n from r);rfl
section
variable {P:Program}{w:World}{H H':Hp}{h h':Heap}{a C dx:Addr}{fs Ih:List (Str × V)}
theorem jh (zp:AE P w H h)(e:H a=some (.ins C dx fs)):∃ mA,C0 h a dx C mA/\(∀ f,AL (fs.lookup f) (mA f))/\PySem.Within mA (fs.map (·.1))/\fs.length <= 1000/\H dx=some (.own a):=by
 obtain⟨d,z,ne,ob,mA,n,r,q⟩:=(show zL P w H h a (.ins C dx fs) from zp a _ e)
 exact⟨mA,⟨ob,n,ne⟩,r,q,z,d⟩
end
structure BL (K:Frag)(C:Addr):Prop where
 pg:plainGet K C Str.empty=true
 hd:hasDictIn K C=true
 po:plainOver K C=true
 sa:findIn K (.ref C) "__setattr__" = some (some (.builtin "object.__setattr__"))
theorem BL.get {K:Frag}{C:Addr}(c:BL K C)(f:Str):plainGet K C f=true:=c.pg
noncomputable def zx (K:Frag)(C:Addr)(f:Str):Prop:=findIn K (.ref C) f=some none
theorem zx.Jz {K:Frag}{C:Addr}{f:Str}(n:zx K C f):PySem.W.takerIn K C f=some none:=by
 unfold PySem.W.takerIn
 rw[show findIn K (.ref C) f=some none from n]
 rfl
structure bA (K:Frag)(C:Addr)(m:Str)(f:Addr):Prop where
 at_:findIn K (.ref C) m=some (some (.ref f))
 fn:isFn K (.ref f)=true
 kp:keepIn K (.ref f)=true
section
variable {X:Cx}{pins:List (Addr × Obj)}{σ:St}{H:Hp}{s:Shared}{a C dx:Addr}{fs:List (Str × V)}{f:Str}{v:V}{A:Around}{E:Value->Shared->Prop}
theorem jJ {b:Bool}{Q:Value->Shared->Prop}(I:Inv X pins σ H s)(e:H a=some (.ins C dx fs))(c:BL X.K C)(n:zx X.K C f)(l:fs.lookup f=some v)
  (h:∀ u s',Inv X pins σ H s'->RelV v u->Q u s'):wpAny (model X.prog X.w) A (getAttr (.ref a) f b) Q E s:=by
 obtain⟨mA,O,r,_,_,_⟩:=jh I.zp e
 obtain⟨u,hu,ru⟩:=AL.some_of (v:=v) (o:=mA f) (by rw[← l];exact r f)
 exact wc I.Al O (c.get f) c.hd n hu (rf ru) (h u _ (I.tok _) ru)
theorem jI {m:Str}{g:Addr}{pl:Sem Bool}{Q:Value × List Value->Shared->Prop}(I:Inv X pins σ H s)(e:H a=some (.ins C dx fs))(c:BL X.K C)(k:bA X.K C m g)(l:fs.lookup m=none)
  (h:Q (.ref g,[.ref a]) s):wpAny (model X.prog X.w) A (getMethod (.ref a) m pl) Q E s:=by
 obtain⟨mA,O,r,_,_,_⟩:=jh I.zp e
 have hn:mA m=none:=AL.none_of (by rw[← l];exact r m)
 exact ug I.Al O (c.get m) k.at_ k.fn hn h
theorem js {y:V}{u:Value}{Q:Unit->Shared->Prop}(I:Inv X pins σ H s)(e:H a=some (.ins C dx fs))(c:BL X.K C)(n:zx X.K C f)(hl:fs.length < 1000)(ry:RelV y u)
  (h:∀ s',Inv X pins σ (upd H a (.ins C dx (aK f y fs))) s'->Q () s'):wpAny (model X.prog X.w) A (setAttr (.ref a) f u) Q E s:=by
 obtain⟨mA,O,r,wi,_,ho⟩:=jh I.zp e
 have hz:(fs.map (·.1)).length <= sizeLine:=by rw[length_map,sizeLine_eq];omega
 refine uT I.Al O c.sa c.po n.Jz c.hd wi hz fun h' O' sb=>h _ ?_
 have hd:∃ o,h'.get? dx=some o:=let ⟨o,_,_,e',_⟩:=O'.ns; ⟨o,e'⟩
 refine I.write (x:=a) (e:=dx) (by rw[e];exact True.intro) (.inr ho) (fun b q hb z=>(sb.2 b hb).trans z) hd ?_
 refine⟨by rw[ae O.ne];exact ho,?_,O.ne,O'.obj,_,O'.ns,fun g=>?_,fun g hg=>?_⟩
 ·have:=iP f y fs;omega
 ·show AL ((aK f y fs).lookup g) (if g=f then some u else mA g)
  rw[fG]
  by_cases q:g=f
  ·rw[if_pos q,if_pos q];exact ry
  ·rw[if_neg q,if_neg q];exact r g
 ·by_cases q:g=f
  ·rw[q];exact(iD f y fs).1
  ·refine(iD f y fs).2 g (wi g fun z=>hg ?_)
   show(if g=f then some u else mA g)=none
   rw[if_neg q];exact z
theorem Inv.made (I:Inv X pins σ H s):Inv X pins σ (upd (upd H s.heap.objs.size (.own (s.heap.objs.size + 1))) (s.heap.objs.size + 1) (.ins C s.heap.objs.size []))
  { s with heap:=(s.heap.push PySem.W.emptyDict).push (PySem.W.instObj C s.heap.objs.size) }:=by
 have e1:(s.heap.push PySem.W.emptyDict).get? s.heap.objs.size=some PySem.W.emptyDict:=Heap.get?_push_size s.heap rfl
 have e2:((s.heap.push PySem.W.emptyDict).push (PySem.W.instObj C s.heap.objs.size)).get? (s.heap.objs.size + 1)=some (PySem.W.instObj C s.heap.objs.size):=by
  have:=Heap.get?_push_size (s.heap.push PySem.W.emptyDict) (o:=PySem.W.instObj C s.heap.objs.size) rfl
  rwa [size_push]at this
 have e3:(s.heap.push PySem.W.emptyDict).Ns s.heap.objs.size (fun _=>none):=⟨PySem.W.emptyDict,#[],_,e1,rfl,(fun e he=>absurd he (by simp)),fun _=>rfl⟩
 have I1:=I.laid (a:=s.heap.objs.size) (o := .own (s.heap.objs.size + 1)) (h':=s.heap.push PySem.W.emptyDict) (t':=s.toks) (fun b u q=>Heap.get?_push_of_some _ q) (Nat.le_refl _) ⟨_,e1⟩
 refine I1.laid (a:=s.heap.objs.size + 1) (o := .ins C s.heap.objs.size []) (t':=s.toks) (fun b u q=>Heap.get?_push_of_some _ q) (le_of_eq (size_push _ _)) ?_
 have ne:s.heap.objs.size ≠ s.heap.objs.size + 1:=ne_of_lt (lt_succ_self _)
 refine⟨by rw[ae ne,ac],zero_le _,ne,e2,fun _=>none,(Heap.Ns1.of_empty e3).at fun o q=>Heap.get?_push_of_some _ q,fun _=>True.intro,fun y hy=>absurd rfl hy⟩
theorem wq {prog:Program}{w:World}{env:Env}{e:Expr}{f:Str}{pos:Pos}{s:Shared}{Q:Value->Shared->Prop}(hb:attributeBase e f env (eval e env)=eval e env)
  (h:wpAny (model prog w) A (eval e env) (fun o s₁=>wpAny (model prog w) A (getAttr o f true) Q E s₁) E s):wpAny (model prog w) A (eval (.Attribute e f pos) env) Q E s :=
 Attribute_any_ h (by rw[arm_eval_Attribute,hb])
end
noncomputable def q5 (K:Frag)(ta:TE)(f:Str):TE:=fun σ H Q=>ta σ H fun x H1=>∃ a C dx fs v,x = .ref a/\H1 a=some (.ins C dx fs)/\BL K C/\zx K C f/\fs.lookup f=some v/\Q v H1
noncomputable def OU (K:Frag)(ta tv:TE)(f:Str):TS:=fun D σ H=>tv σ H fun y H1=>ta σ H1 fun x H2=>∃ a C dx fs,x = .ref a/\H2 a=some (.ins C dx fs)/\BL K C/\zx K C f/\fs.length < 1000 /\
 D.nx σ (upd H2 a (.ins C dx (aK f y fs)))
noncomputable def OV (X:Cx)(op:Operator)(rd:V->V->Hp->VK->Prop):Prop :=
 ∀ (pins:List (Addr × Obj))(s:Shared)(σ:St)(H:Hp)(x y:V)(u v:Value)(Q:VK),Inv X pins σ H s->RelV x u->RelV y v->rd x y H Q->wpAny (model X.prog X.w) X.A (inplaceOp op u v) (EP X pins σ Q) X.xe s
noncomputable def va (K:Frag)(ta tv:TE)(rd:V->V->Hp->VK->Prop)(f:Str):TS:=fun D σ H=>ta σ H fun x H1=>∃ a C dx fs v,x = .ref a/\H1 a=some (.ins C dx fs)/\BL K C/\zx K C f/\fs.lookup f=some v /\
 tv σ H1 fun y H2=>rd v y H2 fun z H3=>∃ CY Ih,H3 a=some (.ins C CY Ih)/\Ih.length < 1000/\D.nx σ (upd H3 a (.ins C CY (aK f z Ih)))
section
variable {X:Cx}{o e value:Expr}{f:Str}{pos pos' CZ:Pos}{ta tv:TE}
theorem al (he:PE X e ta)(hb:attributeBase e f X.env (eval e X.env)=eval e X.env):PE X (.Attribute e f pos) (q5 X.K ta f):=by
 intro pins s σ H Q I h
 refine wq hb (aW (he pins s σ H _ I h) fun u s1 zk=>?_)
 obtain⟨x,H1,I1,rx,a,C,dx,fs,v,ex,ea,c,n,l,q⟩:=zk
 subst ex
 obtain rfl:u=Value.ref a:=rx
 exact jJ I1 ea c n l fun u' s2 I2 ru=>⟨v,H1,I2,ru,q⟩
theorem bz (ha:PE X o ta)(hv:PE X value tv)(hs:swapsWith value (some (.Attribute o f pos')) pos.line X.env=pure false):PS X (.Assign [.Attribute o f pos'] value pos) (OU X.K ta tv f):=by
 intro pins s σ H D I h
 refine plainObj_wpAny_Assign_Attribute (aW (hv pins s σ H _ I h) fun u s1 ⟨y,H1,I1,ry,q⟩=>aW (ha pins s1 σ H1 _ I1 q) fun ov s2 zk=>?_) hs
 obtain⟨x,H2,I2,rx,a,C,dx,fs,ex,ea,c,n,l,q2⟩:=zk
 subst ex
 obtain rfl:ov=Value.ref a:=rx
 exact js I2 ea c n l ry fun s3 I3=>⟨σ,_,I3,q2⟩
theorem dO {op:Operator}{rd:V->V->Hp->VK->Prop}(ha:PE X o ta)(hv:PE X value tv)(Ae:OV X op rd):PS X (.AugAssign (.Attribute o f CZ) op value pos) (va X.K ta tv rd f):=by
 intro pins s σ H D I h
 refine wpAny_AugAssign_AttributeAny (aW (ha pins s σ H _ I h) fun ov s1 zk=>?_)
 obtain⟨x,H1,I1,rx,a,C,dx,fs,v,ex,ea,c,n,l,q⟩:=zk
 subst ex
 obtain rfl:ov=Value.ref a:=rx
 refine jJ I1 ea c n l fun u s2 I2 ru=>aW (hv pins s2 σ H1 _ I2 q) fun w3 s3 ⟨y,H2,I3,ry,q3⟩=>aW (Ae pins s3 σ H2 v y u w3 _ I3 ru ry q3) fun w4 s4 zk=>?_
 obtain⟨z,H3,I4,rz,CY,Ih,ea',l',q4⟩:=zk
 exact js I4 ea' c n l' rz fun s5 I5=>⟨σ,_,I5,q4⟩
end
section
variable {X:Cx}{pins:List (Addr × Obj)}{σ:St}{H:Hp}{s:Shared}{A:Around}{E:Value->Shared->Prop}{Q:Value->Shared->Prop}{c:Value}{b:Bool}
inductive iL (K:Frag)(H:Hp):V->Value->Prop where
 | zD:iL K H .zD (.type "NoneType")
 | bl (x:Bool):iL K H (.bl x) (.type "bool")
 | int (i:Int):iL K H (.int i) (.type "int")
 | str (x:Str):iL K H (.str x) (.type "str")
 | G0 (x:UInt64):iL K H (.G0 x) (.type "float")
 | lst {a:Addr} {xs:List V} (e:H a=some (.lst xs)):iL K H (.ref a) (.type "list")
 | Cy {a:Addr} {o:Obj} {xs:List V} (e:H a=some (.Cy o (.lst xs))):iL K H (.ref a) (.type "list")
 | tup {a:Addr} {xs:List V} (e:H a=some (.tup xs)):iL K H (.ref a) (.type "tuple")
 | dK {a:Addr} {zq:List (kj × V)} (e:H a=some (.dK zq)):iL K H (.ref a) (.type "dict")
 | dT {a:Addr} {zq:List (List kj × V)} (e:H a=some (.dT zq)):iL K H (.ref a) (.type "dict")
 | ins {a C dx:Addr} {fs:List (Str × V)} (e:H a=some (.ins C dx fs)) (cl:BL K C) (ha:findIn K (.ref C) "__class__" = some (some (.builtin "object.__class__")))
   (hn:PySem.W.specialIn K (.builtin "object.__class__") "__get__" = some (some (.builtin "getset_descriptor.__get__"))) (Ux:PySem.W.takesIn K (.builtin "object.__class__")=some true)
   (hm:PySem.W.mroIn K C (.type "object")=some true):iL K H (.ref a) (.ref C)
theorem qZ {x:V}{u t:Value}(I:Inv X pins σ H s)(rx:RelV x u)(ty:iL X.K H x t)(e:kitOne X.K t c=some b)(h:∀ tk,Q (.bool b) { s with toks:=tk }) :
  wpAny (model X.prog X.w) A (call (.builtin "isinstance") [u,c]) Q E s:=by
 cases ty with
 | zD=>cases (show u=Value.none from rx);exact PySem.W.kia_one PySem.W.kitx_none I.Al True.intro e (fun z=>nomatch z) h
 | bl y=>cases (show u=Value.bool y from rx);exact PySem.W.kia_one PySem.W.kitx_bool I.Al True.intro e (fun z=>nomatch z) h
 | int i=>obtain⟨t,q⟩:=(show ∃ t,u=Value.int i t from rx);cases q;exact PySem.W.kia_one PySem.W.kitx_int I.Al True.intro e (fun z=>nomatch z) h
 | str y=>obtain⟨t,q⟩:=(show ∃ t,u=Value.str y t from rx);cases q;exact PySem.W.kia_one PySem.W.kitx_str I.Al True.intro e (fun z=>nomatch z) h
 | G0 y=>obtain⟨t,q⟩:=(show ∃ t,u=Value.float y t from rx);cases q;exact PySem.W.kia_one PySem.W.kitx_float I.Al True.intro e (fun z=>nomatch z) h
 | @lst a xs ea =>
  cases (show u=Value.ref a from rx)
  obtain⟨_,_,n,_,h1⟩:=(show zL X.prog X.w H s.heap a (.lst xs) from I.zp a _ ea)
  exact PySem.W.kia_one PySem.W.kitx_list I.Al ⟨_,h1,rfl⟩ e (fun z=>nomatch z) h
 | @Cy a ob xs ea =>
  cases (show u=Value.ref a from rx)
  obtain⟨_,_,_,n,_,h1⟩:=(show zL X.prog X.w H s.heap a (.Cy ob (.lst xs)) from I.zp a _ ea)
  exact PySem.W.kia_one PySem.W.kitx_list I.Al ⟨_,h1,rfl⟩ e (fun z=>nomatch z) h
 | @tup a xs ea =>
  cases (show u=Value.ref a from rx)
  obtain⟨_,_,_,p⟩:=(show zL X.prog X.w H s.heap a (.tup xs) from I.zp a _ ea)
  obtain⟨o,h1,⟨h2,_⟩,_⟩:=p
  exact PySem.W.kia_one PySem.W.kitx_tuple I.Al ⟨o,h1,h2⟩ e (fun z=>nomatch z) h
 | @dK a zq ea =>
  cases (show u=Value.ref a from rx)
  obtain⟨_,_,vs,_,p⟩:=(show zL X.prog X.w H s.heap a (.dK zq) from I.zp a _ ea)
  obtain⟨o,es,ep,h1,h2,_⟩:=p
  exact PySem.W.kia_one PySem.W.kitx_dict I.Al ⟨o,h1,h2.1⟩ e (fun z=>nomatch z) h
 | @dT a zq ea =>
  cases (show u=Value.ref a from rx)
  obtain⟨_,_,xs,_,o,es,ep,h1,h2,_⟩:=(show zL X.prog X.w H s.heap a (.dT zq) from I.zp a _ ea)
  exact PySem.W.kia_one PySem.W.kitx_dict I.Al ⟨o,h1,h2.1⟩ e (fun z=>nomatch z) h
 | @ins a C dx fs ea cl ha hn Ux hm =>
  cases (show u=Value.ref a from rx)
  obtain⟨mA,O,_⟩:=jh I.zp ea
  obtain⟨od,J,_⟩:=O.look
  exact PySem.W.kia_one (PySem.W.kitx_own (cl.get _) cl.hd ha hn Ux hm) I.Al J e (fun z=>nomatch z) h
end
structure zm (k:Nat)(A:Around):Prop where
 hd:A.handled=none
 dp:A.depth + 3 * k + 5 < recursionLimit
 un:A.units + 16 * k + 200 < cLine
theorem zm.mono {j k:Nat}{A:Around}(r:zm k A)(h:j <= k):zm j A:=⟨r.hd,by have:=r.dp;omega,by have:=r.un;omega⟩
theorem zm.deeper {k:Nat}{A:Around}(r:zm (k + 1) A)(env:Env):zm k (A.deeper env) :=
 ⟨r.hd,by have:=r.dp;show A.depth + 1 + 3 * k + 5 < _;omega,by have:=r.un;show A.units + 3 + 16 * k + 200 < _;omega⟩
theorem oH {A:Around}{C:Addr}{us:List Value}{kw:List (Str × Value)}:(A.under (.builtin "type.__call__" ⟨.ref C :: us,kw⟩)).depth=A.depth + 1:=by
 first | rfl | simp[Around.under,Code.weight,Code.isCreation,Code.isGuard,Code.isCaller,Code.frames,Code.isFrame,guardIds]
theorem oG {A:Around}{C:Addr}{us:List Value}{kw:List (Str × Value)}:(A.under (.builtin "type.__call__" ⟨.ref C :: us,kw⟩)).units=A.units + 1:=by
 first | rfl | simp[Around.under,Code.cUnits,Code.frames,Code.isFrame]
theorem zm.make {k:Nat}{A:Around}(r:zm (k + 1) A)(C:Addr)(us:List Value)(kw:List (Str × Value)):zm k (A.under (.builtin "type.__call__" ⟨.ref C :: us,kw⟩)) :=
 ⟨r.hd,by have:=r.dp;rw[oH];omega,by have:=r.un;rw[oG];omega⟩
theorem zm.depth {k:Nat}{A:Around}(r:zm k A):A.depth < recursionLimit:=by have:=r.dp;omega
theorem zm.units {k:Nat}{A:Around}(r:zm k A):A.units + 64 < cLine:=by have:=r.un;omega
noncomputable def J0:TA:=fun _ H Q=>Q [] H
noncomputable def J4 (ta:TE)(tr:TA):TA:=fun σ H Q=>ta σ H fun x H1=>tr σ H1 fun xs H2=>Q (x :: xs) H2
section
variable {X:Cx}{e:Expr}{es:List Expr}{te:TE}{t:TA}{pos:Pos}
theorem ad:PA X [] J0:=fun _ _ _ _ H Q I h=>Calls.spliced_nil ⟨[],H,I, .nil,h⟩
theorem aa (ha:PE X e te)(hr:PA X es t)(hs:autoParam (starEach (e :: es) X.env=(false,eval e X.env) :: starEach es X.env) η):PA X (e :: es) (J4 te t):=by
 intro pos pins s σ H Q I h
 rw[hs]
 show wpAny _ _ (spliced ((false,eval e X.env) :: backTo pos (starEach es X.env))) _ _ s
 refine Calls.spliced_cons (aW (ha pins s σ H _ I h) fun u s1 zk=>?_)
 obtain⟨x,H1,I1,r1,q1⟩:=zk
 exact aW (hr pos pins s1 σ H1 _ I1 q1) fun us s2 zk=>by obtain⟨xs,H2,I2,r2,q2⟩:=zk;exact⟨x :: xs,H2,I2, .cons r1 r2,q2⟩
noncomputable def OW (t:TA):TE:=fun σ H Q=>t σ H fun xs H1=>xs.length <= sizeLine/\∀ p,H1 p=none->Q (.ref p) (upd H1 p (.tup xs))
noncomputable def OX (t:TA):TE:=fun σ H Q=>t σ H fun xs H1=>xs.length <= sizeLine/\∀ p,H1 p=none->Q (.ref p) (upd H1 p (.lst xs))
theorem bS {x1} (h:PA X es t):PE X (.Tuple es x1 pos) (OW t):=by
 intro pins s σ H Q I hq
 refine wpAny_Tuple_spliced (aW (h pos pins s σ H _ I hq) fun us s1 ⟨xs,H1,I1,r,z,q⟩=>⟨by rw[← r.length];exact z,?_⟩)
 have hf:H1 s1.heap.objs.size=none:=I1.zp.fresh (Nat.le_refl _)
 refine⟨.ref s1.heap.objs.size,upd H1 s1.heap.objs.size (.tup xs),I1.laid (t':=s1.toks) (fun b u e=>Heap.get?_push_of_some _ e) (Nat.le_refl _) ?_,rfl,q _ hf⟩
 exact⟨z,us,r,⟨_,Heap.get?_push_size _ rfl,⟨rfl,_,rfl⟩,rfl⟩⟩
theorem aP (h:PA X es t):PE X (.List es pos) (OX t):=by
 intro pins s σ H Q I hq
 refine wpAny_List_spliced (aW (h pos pins s σ H _ I hq) fun us s1 ⟨xs,H1,I1,r,z,q⟩=>⟨by rw[← r.length];exact z,?_⟩)
 have hf:H1 s1.heap.objs.size=none:=I1.zp.fresh (Nat.le_refl _)
 refine⟨.ref s1.heap.objs.size,upd H1 s1.heap.objs.size (.lst xs),I1.laid (t':=s1.toks) (fun b u e=>Heap.get?_push_of_some _ e) (Nat.le_refl _) ?_,rfl,q _ hf⟩
 exact⟨z,us,0,r,Heap.get?_push_size _ rfl⟩
end
noncomputable abbrev Sp:=List V->Hp->VK->XK->Prop
noncomputable abbrev lJ:=List Env->Hp->Shared->XK->Value->Shared->Prop
structure Ce (P:Program)(w:World)(K:Frag)(mg:Str->Option Value)(base:Heap)(A:Around)(outer:List Env)(s:Shared)(H:Hp):Prop where
 frames:A.frames=some outer
 mod:Mod K mg base
 bs:∀ b o,base.get? b=some o->s.heap.get? b=some o/\H b=none
 Dx:base.objs.size <= s.heap.objs.size
 AB:s.heap.FunFrames base outer
 Ef:∀ b ∈ jK outer,H b=none
 zp:AE P w H s.heap
 bare:AllBare s.gens
noncomputable def CE (outer:List Env)(P:Program)(w:World)(H:Hp)(s:Shared)(Q:VK)(u:Value)(s':Shared):Prop :=
 ∃ v H',s'.os=s.os/\AllBare s'.gens/\Un (jK outer) [] H H' s.heap s'.heap/\AE P w H' s'.heap/\RelV v u/\Q v H'
noncomputable def CR (CX:lJ)(outer:List Env)(P:Program)(w:World)(H:Hp)(s:Shared)(Q:VK)(E:XK)(r:Result)(s':Shared):Prop :=
 match r with
 | .ok (.ret u)=>CE outer P w H s Q u s'
 | .ok _=>False
 | .error e=>CX outer H s E e s'
structure zg (P:Program)(w:World)(K:Frag)(mg:Str->Option Value)(base:Heap)(CX:lJ)(k:Nat)(f:Addr)(fd:FuncData)(ps:List Str)(sp:Sp):Prop where
 len:∀ vs H Q E,sp vs H Q E->vs.length=ps.length
 run:∀ (A:Around)(outer:List Env)(s:Shared)(H:Hp)(args:Args)(us:List Value)(vs:List V)(Q:VK)(E:XK),zm k A->Ce P w K mg base A outer s H->BindsTo s fd args (ps.zip us)->Vals vs us->sp vs H Q E ->
  codeAny (model P w) A (.call (.ref f) args) (CR CX outer P w H s Q E) s
theorem zg.imp {P:Program}{w:World}{K:Frag}{mg:Str->Option Value}{base:Heap}{CX:lJ}{k:Nat}{f:Addr}{fd:FuncData}{ps:List Str}{sp Uy:Sp}(F:zg P w K mg base CX k f fd ps sp)
  (h:∀ vs H Q E,Uy vs H Q E->sp vs H Q E):zg P w K mg base CX k f fd ps Uy :=
 ⟨fun vs H Q E q=>F.len vs H Q E (h _ _ _ _ q),fun A outer s H args us vs Q E hr he hb hv hs=>F.run A outer s H args us vs Q E hr he hb hv (h _ _ _ _ hs)⟩
theorem Ce.make {P:Program}{w:World}{K:Frag}{mg:Str->Option Value}{base:Heap}{A:Around}{outer:List Env}{s:Shared}{H:Hp}(e:Ce P w K mg base A outer s H)(C:Addr)(us:List Value)(kw:List (Str × Value)) :
  Ce P w K mg base (A.under (.builtin "type.__call__" ⟨.ref C :: us,kw⟩)) outer s H:=⟨by first | exact e.frames | (simpa [Around.under,Code.envs,Code.isFrame,pushEnvs] using e.frames),e.mod,e.bs,e.Dx,e.AB,e.Ef,e.zp,e.bare⟩
section
variable {X:Cx}{pins:List (Addr × Obj)}{σ:St}{H:Hp}{s s':Shared}
theorem Inv.G7 (I:Inv X pins σ H s):Ce X.prog X.w X.K X.mg X.base X.A X.stack s H :=
 ⟨I.ok.frames,I.ok.mod,I.bs,le_trans I.ok.Dx I.sz,I.stack,I.Bv,I.zp,I.bare⟩
theorem Inv.after {Q:VK}{u:Value}(I:Inv X pins σ H s)(h:CE X.stack X.prog X.w H s Q u s'):EP X pins σ Q u s':=by
 obtain⟨v,H',os,bare,un,zp,r,q⟩:=h
 obtain⟨hh,g,d,t,os'⟩:=s'
 obtain rfl:os' = s.os:=os
 exact⟨v,H',I.call (h':=hh) (g':=g) (d':=d) (t':=t) (ch:=[]) un zp bare (fun b z=>absurd z (by simp)),r,q⟩
end
noncomputable def J5 (sp:Sp)(zP:List V)(E:XK)(t:TA):TE:=fun σ H Q=>t σ H fun vs H1=>sp (vs ++ zP) H1 Q E
noncomputable def wA (C:Addr)(m:Str)(sp:Sp)(zP:List V)(E:XK)(ta:TE)(t:TA):TE:=fun σ H Q=>ta σ H fun x H1=>∃ a dx fs,x = .ref a/\H1 a=some (.ins C dx fs)/\fs.lookup m=none /\
 t σ H1 fun vs H2=>sp (x :: (vs ++ zP)) H2 Q E
noncomputable def J6 (C:Addr)(sp:Sp)(zP:List V)(E:XK)(t:TA):TE:=fun σ H Q=>t σ H fun vs H1=>∀ x dx,H1 x=none->H1 dx=none->dx ≠ x ->
 sp (.ref x :: (vs ++ zP)) (upd (upd H1 dx (.own x)) x (.ins C dx [])) (fun v H2=>v = .zD/\Q (.ref x) H2) E
noncomputable def Binds (K:Frag)(fd:FuncData)(ps:List Str)(ds:List Value):Prop :=
 ∀ (s:Shared)(us:List Value),K.In s.heap->(us ++ ds).length=ps.length->BindsTo s fd ⟨us,[]⟩ (ps.zip (us ++ ds))
theorem Binds.all {K:Frag}{fd:FuncData}{ps:List Str}(h:∀ us:List Value,us.length=ps.length->bindArgs fd ⟨us,[]⟩ = pure (ps.zip us)):Binds K fd ps []:=fun s us _ hl=>by
 rw[append_nil]at hl ⊢
 exact .of_eq (h us hl)
noncomputable def cC (CX:lJ)(X:Cx)(E:XK):Prop:=∀ (pins:List (Addr × Obj))(σ:St)(H:Hp)(s:Shared)(e:Value)(s':Shared),Inv X pins σ H s->CX X.stack H s E e s'->X.xe e s'
section
variable {X:Cx}{CX:lJ}{k:Nat}{f C:Addr}{fd:FuncData}{ps:List Str}{sp:Sp}{zP:List V}{ds:List Value}{E:XK}{x m:Str}{p pos apos:Pos}{e o:Expr}{es:List Expr}{ta:TE}{t:TA}
theorem j0 {pins:List (Addr × Obj)}{σ:St}{H:Hp}{s:Shared}{Q:VK}{us:List Value}{vs:List V}(F:zg X.prog X.w X.K X.mg X.base CX k f fd ps sp)(hr:zm k X.A)(hb:Binds X.K fd ps ds)(hd:Vals zP ds)(hx:cC CX X E)
  (I:Inv X pins σ H s) (r:Vals vs us) (h:sp (vs ++ zP) H Q E):wpAny (model X.prog X.w) X.A (call (.ref f) us) (EP X pins σ Q) X.xe s:=by
 have r2:Vals (vs ++ zP) (us ++ ds):=r.append hd
 have hl:(us ++ ds).length=ps.length:=by rw[← r2.length];exact F.len _ _ _ _ h
 refine wpAny_call (codeAny_mono (F.run X.A X.stack s H ⟨us,[]⟩ (us ++ ds) (vs ++ zP) Q E hr I.G7 (hb s us I.Al hl) r2 h) fun r s' hq=>?_)
 cases r with
 | error e=>exact hx pins σ H s e s' I hq
 | ok fl =>
  cases fl with
  | ret u=>exact I.after hq
  | next=>exact False.elim hq
  | brk=>exact False.elim hq
  | cont=>exact False.elim hq
theorem ay (F:zg X.prog X.w X.K X.mg X.base CX k f fd ps sp)(hr:zm k X.A)(hg:Gl X x)(hm:X.mg x=some (.ref f))(hk:keepIn X.K (.ref f)=true)(hb:Binds X.K fd ps ds)(hd:Vals zP ds)(hx:cC CX X E)
  (ha:PA X (e :: es) t) (C2:autoParam ((x == ("__debug__":Str))=false) θ) (he:autoParam (starEach (e :: es) X.env=(false,eval e X.env) :: starEach es X.env) η) (Bj:autoParam ((backTo pos (starEach es X.env)).any (·.1)=false) η) :
  PE X (.Call (.Name x p) (e :: es) [] pos) (J5 sp zP E t):=by
 intro pins s σ H Q I h
 refine wpAny_Call_Name_kw (fT I hg hm ?_ C2)
 refine PySem.W.callWith_K (h₀:=X.base) I.ok.mod.BY hk (aW (ha pos pins s σ H _ I h) fun us s1 ⟨vs,H1,I1,r,q⟩=>⟨I1.Al,?_⟩) he Bj
 exact j0 F hr hb hd hx I1 r q
theorem aC {pl:Sem Bool}(he:PE X o ta)(c:BL X.K C)(hm:bA X.K C m f)(F:zg X.prog X.w X.K X.mg X.base CX k f fd ps sp)(hr:zm k X.A)(hb:Binds X.K fd ps ds)(hd:Vals zP ds)(hx:cC CX X E)(ha:PA X (e :: es) t)
  (D9:autoParam (starEach (e :: es) X.env=(false,eval e X.env) :: starEach es X.env) η) (Bj:autoParam ((backTo pos (starEach es X.env)).any (·.1)=false) η)
  (ht:eval (.Call (.Attribute o m apos) (e :: es) [] pos) X.env=(do
   let ov ← eval o X.env
   standAt apos.atName
   let (f,first) ← holding [ov] (getMethod ov m pl)
   callWith pos f first (backTo pos (starEach (e :: es) X.env)) (backToKw pos (keywordEach [] X.env))):=by rfl) :
  PE X (.Call (.Attribute o m apos) (e :: es) [] pos) (wA C m sp zP E ta t):=by
 intro pins s σ H Q I h
 refine PySem.W.methodCall_KW (pl:=pl) (aW (he pins s σ H _ I h) fun u s1 zk=>?_) ht
 obtain⟨x,H1,I1,rx,a,dx,fs,ex,ea,l,q⟩:=zk
 subst ex
 obtain rfl:u=Value.ref a:=rx
 refine jI I1 ea c hm l ?_
 refine PySem.W.callWith_K (first:=[.ref a]) (h₀:=X.base) I.ok.mod.BY hm.kp (aW (ha pos pins s1 σ H1 _ I1 q) fun us s2 ⟨vs,H2,I2,r,q2⟩=>⟨I2.Al,?_⟩) D9 Bj
 exact j0 (us := .ref a :: us) (vs := .ref a :: vs) F hr hb hd hx I2 (.cons rfl r) q2
theorem b7 {pl:Sem Bool}(he:PE X o ta)(c:BL X.K C)(hm:bA X.K C m f)(F:zg X.prog X.w X.K X.mg X.base CX k f fd ps sp)(hr:zm k X.A)(hb:Binds X.K fd ps ds)(hd:Vals zP ds)(hx:cC CX X E)
  (ht:eval (.Call (.Attribute o m apos) [] [] pos) X.env=(do
   let ov ← eval o X.env
   standAt apos.atName
   let (f,first) ← holding [ov] (getMethod ov m pl)
   callWith pos f first (backTo pos (starEach [] X.env)) (backToKw pos (keywordEach [] X.env))):=by rfl) :
  PE X (.Call (.Attribute o m apos) [] [] pos) (wA C m sp zP E ta J0):=by
 intro pins s σ H Q I h
 refine PySem.W.methodCall_KW (pl:=pl) (aW (he pins s σ H _ I h) fun u s1 zk=>?_) ht
 obtain⟨x,H1,I1,rx,a,dx,fs,ex,ea,l,q⟩:=zk
 subst ex
 obtain rfl:u=Value.ref a:=rx
 refine jI I1 ea c hm l ?_
 exact PySem.W.callWith_K0 (first:=[.ref a]) I1.Al hm.kp (j0 (us:=[.ref a]) (vs:=[.ref a]) F hr hb hd hx I1 (.cons rfl .nil) q)
structure Mk (K:Frag)(C f:Addr):Prop where
 makes:makesIn K C=true
 init:findIn K (.ref C) "__init__" = some (some (.ref f))
 fn:isFn K (.ref f)=true
 kp:keepIn K (.ref C)=true
theorem sJ {pins:List (Addr × Obj)}{σ:St}{H:Hp}{s:Shared}{Q:VK}{us:List Value}{vs:List V}(M:Mk X.K C f)(F:zg X.prog X.w X.K X.mg X.base CX k f fd ps sp)(hr:zm (k + 1) X.A)(hb:Binds X.K fd ps ds)(hd:Vals zP ds)
  (hx:cC CX X E) (I:Inv X pins σ H s) (r:Vals vs us)
  (h:∀ x dx,H x=none->H dx=none->dx ≠ x->sp (.ref x :: (vs ++ zP)) (upd (upd H dx (.own x)) x (.ins C dx [])) (fun v H2=>v = .zD/\Q (.ref x) H2) E) :
  wpAny (model X.prog X.w) X.A (call (.ref C) us) (EP X pins σ Q) X.xe s:=by
 have hq:=h (s.heap.objs.size + 1) s.heap.objs.size (I.zp.fresh (le_succ _)) (I.zp.fresh (Nat.le_refl _)) (ne_of_lt (lt_succ_self _))
 have I2:=Inv.made (C:=C) I
 have r2:Vals (V.ref (s.heap.objs.size + 1) :: (vs ++ zP)) (Value.ref (s.heap.objs.size + 1) :: (us ++ ds)) := .cons rfl (r.append hd)
 have hl:(Value.ref (s.heap.objs.size + 1) :: us ++ ds).length=ps.length:=by
  have e:=r2.length
  rw[F.len _ _ _ _ hq]at e
  exact e.symm
 refine wpAny_call (tY (f:=f) I.Al M.makes M.init (beq_iff_eq.mp M.fn) (codeAny_mono (F.run _ X.stack _ _ ⟨Value.ref (s.heap.objs.size + 1) :: us,[]⟩ (Value.ref (s.heap.objs.size + 1) :: (us ++ ds)) _ _ E (hr.make C us [])
  (I2.G7.make C us []) (hb _ (Value.ref (s.heap.objs.size + 1) :: us) I2.Al hl) r2 hq) fun r s' BM=>?_))
 cases r with
 | error e=>exact hx pins σ _ _ e s' I2 BM
 | ok fl =>
  cases fl with
  | ret u =>
   obtain⟨v,H',I3,rv,ev,q3⟩:=I2.after BM
   subst ev
   exact⟨rv,⟨V.ref (s.heap.objs.size + 1),H',I3,rfl,q3⟩⟩
  | next=>exact False.elim BM
  | brk=>exact False.elim BM
  | cont=>exact False.elim BM
theorem eE (M:Mk X.K C f)(F:zg X.prog X.w X.K X.mg X.base CX k f fd ps sp)(hr:zm (k + 1) X.A)(hg:Gl X x)(hm:X.mg x=some (.ref C))(hb:Binds X.K fd ps ds)(hd:Vals zP ds)(hx:cC CX X E)
  (ha:PA X (e :: es) t) (C2:autoParam ((x == ("__debug__":Str))=false) θ) (he:autoParam (starEach (e :: es) X.env=(false,eval e X.env) :: starEach es X.env) η) (Bj:autoParam ((backTo pos (starEach es X.env)).any (·.1)=false) η) :
  PE X (.Call (.Name x p) (e :: es) [] pos) (J6 C sp zP E t):=by
 intro pins s σ H Q I h
 refine wpAny_Call_Name_kw (fT I hg hm ?_ C2)
 refine PySem.W.callWith_K (h₀:=X.base) I.ok.mod.BY M.kp (aW (ha pos pins s σ H _ I h) fun us s1 ⟨vs,H1,I1,r,q⟩=>⟨I1.Al,?_⟩) he Bj
 exact sJ M F hr hb hd hx I1 r q
end
section
variable {X:Cx}{CX:lJ}{k:Nat}{f C:Addr}{fd:FuncData}{ps ks:List Str}{sp:Sp}{E:XK}{x m:Str}{p pos apos kpos:Pos}{e o:Expr}{es:List Expr}{kws:List Keyword}{te ta:TE}{t tk:TA}{nm:Option Str}
variable {g:List Value->List Value->List Value}{gV:List V->List V->List V}
end
structure ao (N P:List Str)(sc:Scope):Prop where
 kind:sc.kind = .function
 co:sc.isCoroutine=false
 gen:sc.isGenerator=false
 nd:N.Nodup
 pre:N.take P.length=P
 par:∀ x ∈ P,sc.names.lookup x=some .local∨sc.names.lookup x=some .cell
 G8:∀ y ∈ sc.names,y.2 ≠ .free
theorem kM {kindOf:Str->Option NameKind}{x:Str}:∀ {binds:List (Str × Value)}{m:Str->Option Value},(∀ v,(x,v) ∉ binds)->bindL kindOf binds m x=m x
 | [],_,_=>rfl
 | (n,v) :: r,m,h=>by
  unfold bindL
  rw[kM fun w hw=>h w (mem_cons_of_mem _ hw)]
  split
  ·have:x ≠ n:=by rintro rfl;exact h v mem_cons_self
   simp[this]
  ·rfl
theorem kO {kindOf:Str->Option NameKind}{x:Str}:∀ {binds:List (Str × Value)}{m:Str->Option Value},(∀ v,(x,v) ∉ binds)->bindC kindOf binds m x=m x
 | [],_,_=>rfl
 | (n,v) :: r,m,h=>by
  unfold bindC
  rw[kO fun w hw=>h w (mem_cons_of_mem _ hw)]
  split
  ·rfl
  ·have:x ≠ n:=by rintro rfl;exact h v mem_cons_self
   simp[this]
theorem kN {kindOf:Str->Option NameKind}{x:Str}{v:Value}:∀ {P:List Str}{vs:List Value}{i:Nat}{m:Str->Option Value},P.Nodup->P[i]? = some x->vs[i]? = some v->kindOf x=some .local ->
  bindL kindOf (P.zip vs) m x=some v
 | [],_,_,_,_,h,_,_=>by simp at h
 | _ :: _,[],_,_,_,_,h,_=>by simp at h
 | p :: P,w :: vs,0,m,nd,h1,h2,hk=>by
  simp at h1 h2;subst h1;subst h2
  show bindL kindOf ((p,w) :: P.zip vs) m p=_
  unfold bindL
  rw[kM fun v hv=>(nodup_cons.mp nd).1 (of_mem_zip hv).1,if_pos hk]
  simp
 | p :: P,w :: vs,i + 1,m,nd,h1,h2,hk=>by
  show bindL kindOf ((p,w) :: P.zip vs) m x=_
  unfold bindL
  exact kN (i:=i) (nodup_cons.mp nd).2 (by simpa using h1) (by simpa using h2) hk
theorem kP {kindOf:Str->Option NameKind}{x:Str}{v:Value}:∀ {P:List Str}{vs:List Value}{i:Nat}{m:Str->Option Value},P.Nodup->P[i]? = some x->vs[i]? = some v->kindOf x ≠ some .local ->
  bindC kindOf (P.zip vs) m x=some v
 | [],_,_,_,_,h,_,_=>by simp at h
 | _ :: _,[],_,_,_,_,h,_=>by simp at h
 | p :: P,w :: vs,0,m,nd,h1,h2,hk=>by
  simp at h1 h2;subst h1;subst h2
  show bindC kindOf ((p,w) :: P.zip vs) m p=_
  unfold bindC
  rw[kO fun v hv=>(nodup_cons.mp nd).1 (of_mem_zip hv).1,if_neg hk]
  simp
 | p :: P,w :: vs,i + 1,m,nd,h1,h2,hk=>by
  show bindC kindOf ((p,w) :: P.zip vs) m x=_
  unfold bindC
  exact kP (i:=i) (nodup_cons.mp nd).2 (by simpa using h1) (by simpa using h2) hk
noncomputable def start (N:List Str)(vs:List V):St:=vs.map some ++ List.replicate (N.length - vs.length) none
noncomputable def iG (CX:lJ)(P:Program)(w:World)(K:Frag)(mg:Str->Option Value)(base:Heap)(N:List Str)(qual:Str)(scope:Scope)(f:Addr)(cd:Value)(A:Around)(outer:List Env)(s:Shared)(H:Hp)(E:XK):Cx where
 prog:=P
 w:=w
 K:=K
 mg:=mg
 base:=base
 A:=A.deeper (envOfC qual scope s.heap.objs.size f cd)
 N:=N
 s₀:=s
 H₀:=H
 env:=envOfC qual scope s.heap.objs.size f cd
 outer:=outer
 stack:=envOfC qual scope s.heap.objs.size f cd :: outer
 ex:=[]
 calm:=true
 fn:=fun _=>true
 pn:=[]
 xe:=fun e s'=>wpAny (model P w) (A.deeper (envOfC qual scope s.heap.objs.size f cd)) (leaving (envOfC qual scope s.heap.objs.size f cd) e) (fun _ DB=>CX outer H s E e DB) (fun e' DB=>CX outer H s E e' DB) s'
theorem na {sc:Scope}{n:Nat}{x:Str}(h:sc.names.lookup x=some .cell):∃ c,(cellsFrom n sc.names []).lookup x=some c:=by
 have q:=PySem.W.cellsFrom_some sc.names n [] (.inl h)
 exact Option.isSome_iff_exists.mp q
theorem rb {CX:lJ}{P:Program}{w:World}{K:Frag}{mg:Str->Option Value}{base:Heap}{N ps:List Str}{qual:Str}{scope:Scope}{f:Addr}{cd:Value}{A:Around}{outer:List Env}{s s1:Shared}{H:Hp}{E:XK}{us:List Value}{vs:List V}
  (S:ao N ps scope) (hd:A.handled=none) (e0:Ce P w K mg base A outer s H) (hl:vs.length=ps.length) (r:Vals vs us)
  (x:InCallC s s.heap.objs.size (bindL (envOfC qual scope s.heap.objs.size f cd).kindOf (ps.zip us) fun _=>none) (cellsFrom (s.heap.objs.size + 1) scope.names []) (bindC (envOfC qual scope s.heap.objs.size f cd).kindOf (ps.zip us) fun _=>none) s1) :
  Inv (iG CX P w K mg base N qual scope f cd A outer s H E) [] (start N vs) H s1:=by
 have Bj:ps.length <= N.length:=by have:=congrArg List.length S.pre;rw[length_take]at this;omega
 obtain⟨h1,tk,rfl,hk⟩:=x.done
 have E3:∀ b:Addr,b ∉ (iG CX P w K mg base N qual scope f cd A outer s H E).ex:=fun b z=>absurd (show b ∈ ([]:List Addr) from z) (by simp)
 refine⟨⟨e0.mod,S.kind,rfl,rfl,Nat.le_refl _,fun y z c h1 h2=>?_,fun y hy=>?_,fun y c _ h=>?_,fun _=>hd,Around.frames_deeper e0.frames, .inr ⟨rfl,rfl⟩,fun b z=>absurd z (E3 b),e0.bs,e0.Dx,fun b _ _=>E3 b,fun b z=>absurd z (E3 b),e0.AB,e0.Ef⟩,
  rfl,e0.bare,Un.kept hk,⟨_,x.toInCall.ns,fun i y v h1 h2 h3=>?_⟩,fun y c h=>⟨_,x.cell y c h⟩,e0.zp.fresh (Nat.le_refl _),fun y c h=>?_,fun p hp=>absurd (show p ∈ ([]:List (Addr × Obj)) from hp) (by simp),e0.zp.kept hk,?_⟩
 ·exact name_of_addr x.apart (PySem.mem_of_lookup h1) (PySem.mem_of_lookup h2)
 ·have hy:scope.names.lookup y=some .cell∨scope.names.lookup y=some .free:=hy
  rcases hy with hy | hy
  ·exact na hy
  ·exact absurd rfl (S.G8 _ (PySem.mem_of_lookup hy))
 ·exact le_of_lt (x.above y c (PySem.mem_of_lookup h))
 ·have hi:i < vs.length:=by
   unfold start at h2
   by_cases hi:i < vs.length
   ·exact hi
   ·rw[getElem?_append_right (by simpa using hi)]at h2
    rw[List.getElem?_replicate]at h2
    split at h2<;>cases h2
  have ha:vs[i]? = some v:=by
   unfold start at h2
   rw[getElem?_append_left (by simpa using hi),getElem?_map]at h2
   cases e:vs[i]? with
   | none=>rw[e]at h2;cases h2
   | some a=>rw[e]at h2;cases h2;rfl
  obtain⟨u,hu,rv⟩:=r.get ha
  have hp:ps[i]? = some y:=by
   rw[← S.pre,List.getElem?_take_of_lt (by omega)];exact h1
  have Nq:ps.Nodup:=by rw[← S.pre];exact S.nd.sublist (List.take_sublist _ _)
  refine⟨u,rv,?_⟩
  rcases S.par y (mem_of_getElem? hp) with k | k
  ·exact .inl ⟨k,kN Nq hp hu k⟩
  ·obtain⟨c,e⟩:=na (n:=s.heap.objs.size + 1) k
   refine .inr ⟨.inl k,c,e,?_⟩
   have q:=x.cell y c e
   rw[kP Nq hp hu (by show scope.names.lookup y ≠ _;rw[k];decide)]at q
   exact q
 ·exact e0.zp.fresh (le_of_lt (x.above y c (PySem.mem_of_lookup h)))
 ·unfold start
  show _=N.length
  rw[length_append,length_map,length_replicate]
  omega
theorem qi {CX:lJ}{P:Program}{w:World}{K:Frag}{mg:Str->Option Value}{base:Heap}{k:Nat}{f:Addr}{name qual:Str}{params:Arguments}{body:List Stmt}{scope:Scope}{dV kV doc pm cdv ct oc:Value}{an od:Option Addr}
  {BZ:Array (Option Value)} {N ps:List Str} {sp:Sp} (lk:K.lookup f=some ⟨oc,od, .func (fnOf name qual params body scope dV kV doc pm an cdv ct),BZ⟩) (Bc:codeIn K cdv qual=true) (S:ao N ps scope)
  (len:∀ vs H Q E,sp vs H Q E->vs.length=ps.length)
  (Aj:∀ (A:Around)(outer:List Env)(s:Shared)(H:Hp)(vs:List V)(Q:VK)(E:XK),zm k (A.deeper (envOfC qual scope s.heap.objs.size f cdv))->sp vs H Q E ->
   ∃ t,Bi (iG CX P w K mg base N qual scope f cdv A outer s H E) body t/\t { nx:=fun _ H'=>Q .zD H',rt:=Q } (start N vs) H) :
  zg P w K mg base CX (k + 1) f (fnOf name qual params body scope dV kV doc pm an cdv ct) ps sp:=by
 refine⟨len,fun A outer s H args us vs Q E hr e0 hb r BN=>?_⟩
 have hl:=len _ _ _ _ BN
 have KX:K.In s.heap:=e0.mod.BY.keeps fun b o e=>(e0.bs b o e).1
 have lim:s.heap.NoLimit:=e0.mod.nolimit.keeps fun b o e=>(e0.bs b o e).1
 have J7:∀ y ∈ ps.zip us,scope.names.lookup y.1=some .local∨(scope.names.lookup y.1=some .cell/\((cellsFrom (s.heap.objs.size + 1) scope.names []).lookup y.1).isSome=true):=fun⟨n,v⟩ hy=>by
  rcases S.par n (of_mem_zip hy).1 with q | q
  ·exact .inl q
  ·exact .inr ⟨q,PySem.W.cellsFrom_some _ _ _ (.inl q)⟩
 refine codeAny_call_function hr.depth (KX _ _ lk) rfl S.co S.gen rfl (PySem.W.codeRec_of KX Bc) (hb _ _ _ _ ?_)
 refine wpAny_newFunctionEnv_cells S.kind J7 fun env he s1 x=>?_
 subst he
 refine⟨lim.keeps x.toInCall.keep,codeAny_func ?_⟩
 obtain⟨t,ht,hq⟩:=Aj A outer s H vs Q E (hr.deeper _) BN
 have I:Inv (iG CX P w K mg base N qual scope f cdv A outer s H E) [] (start N vs) H s1:=rb S hr.hd e0 hl r x
 refine wpAny_mono (ht [] s1 (start N vs) H _ I hq) (fun fl s' hs=>?_) fun e s' hs=>hs
 have fin:∀ {σ':St}{H':Hp}{v:V}{u:Value},Inv (iG CX P w K mg base N qual scope f cdv A outer s H E) [] σ' H' s'->RelV v u->Q v H'->CE outer P w H s Q u s' :=
  fun {σ' H' v u} J rv q=>⟨v,H',J.os,J.bare,J.base,J.zp,rv,q⟩
 cases fl with
 | ret u =>
  obtain⟨v,σ',H',J,rv,q⟩:=hs
  exact fin J rv q
 | next =>
  obtain⟨σ',H',J,q⟩:=hs
  exact fin (v:=V.zD) (u:=Value.none) J rfl q
 | brk =>
  obtain⟨_,_,_,q⟩:=hs
  exact False.elim q
 | cont =>
  obtain⟨_,_,_,q⟩:=hs
  exact False.elim q
section
variable {X:Cx}{x:Str}{p pos:Pos}{e:Expr}{es:List Expr}{t:TA}{id T:String}{r:List V->Hp->VK->Prop}
noncomputable def Uz (r:List V->Hp->VK->Prop)(t:TA):TE:=fun σ H Q=>t σ H fun vs H1=>r vs H1 Q
theorem aw (hc:dF X (.builtin id) r)(hg:Gl X x)(hm:X.mg x=none)(hv:bootBuiltins x=some (.builtin id))(ha:PA X (e :: es) t)(hn:autoParam (x ≠ "__name__") θ)(C2:autoParam ((x == ("__debug__":Str))=false) θ)
  (he:autoParam (starEach (e :: es) X.env=(false,eval e X.env) :: starEach es X.env) η) (Bj:autoParam ((backTo pos (starEach es X.env)).any (·.1)=false) η):PE X (.Call (.Name x p) (e :: es) [] pos) (Uz r t):=by
 intro pins s σ H Q I h
 refine wpAny_Call_Name_kw (iC I hg hm hv ?_ hn C2)
 exact PyProof.Rows.callWith_builtin1 (aW (ha pos pins s σ H _ I h) fun us s1 zk=>by obtain⟨vs,H1,I1,r1,q1⟩:=zk;exact hc pins s1 σ H1 vs us Q I1 r1 q1) he Bj
theorem aY (hc:dF X (.type T) r)(hg:Gl X x)(hm:X.mg x=none)(hv:bootBuiltins x=some (.type T))(ha:PA X (e :: es) t)(hn:autoParam (x ≠ "__name__") θ)(C2:autoParam ((x == ("__debug__":Str))=false) θ)
  (he:autoParam (starEach (e :: es) X.env=(false,eval e X.env) :: starEach es X.env) η) (Bj:autoParam ((backTo pos (starEach es X.env)).any (·.1)=false) η):PE X (.Call (.Name x p) (e :: es) [] pos) (Uz r t):=by
 intro pins s σ H Q I h
 refine wpAny_Call_Name_kw (iC I hg hm hv ?_ hn C2)
 exact PyProof.Rows.callWith_type1 (aW (ha pos pins s σ H _ I h) fun us s1 zk=>by obtain⟨vs,H1,I1,r1,q1⟩:=zk;exact hc pins s1 σ H1 vs us Q I1 r1 q1) he Bj
end
end L2
namespace HT
open PySem PyProof.Rows
section
open PySem.SeqAt
open PySem.AutoSeq1 (wpAny_loadPart')
open PySem.MeetsSeq PySem.MeetsSeq2 PySem.MeetsSeq3
end
section
variable {prog:Program}{w:World}{A:Around}{E:Value->Shared->Prop}{s:Shared}
theorem E4 {t b:Addr}{vs ws:List Value}{Q:Value->Shared->Prop}(ht:IsTup s.heap t vs.toArray)(hb:IsTup s.heap b ws.toArray)(hv:vs ≠ [])
  (h1:ws=[]->Q (.ref t) s) (h2:ws ≠ []->Q (.ref s.heap.objs.size) { s with heap:=s.heap.push { cls := .type "tuple",data := .seq (vs ++ ws).toArray } })
  (hsz:vs.length + ws.length <= sizeLine):wpAny (model prog w) A (binaryOp .Add (.ref t) (.ref b)) Q E s:=by
 obtain⟨⟨cls,dd,data,sl⟩,ho,hc,n,hd⟩:=id ht
 obtain⟨⟨OY,Nr,data2,Io⟩,Bq,Cf,n2,hd2⟩:=id hb
 simp only at hc hd Cf hd2
 subst hc hd Cf hd2
 have e:vs.toArray ++ ws.toArray=(vs ++ ws).toArray:=by simp
 by_cases hw:ws=[]
 ·exact concat_meets ⟨_,ho,rfl⟩ ⟨_,Bq,rfl⟩ noFill_tuple_add seq_tuple_add slot_tuple_add entry_tuple_add (args_tuple_add_2 _ _)
   (tuple_addW1 t b vs.toArray ws.toArray n n2 dd Nr sl Io (by simpa using hv) (by simp[hw])) ⟨ho,Bq,h1 hw⟩
 ·refine concat_meets ⟨_,ho,rfl⟩ ⟨_,Bq,rfl⟩ noFill_tuple_add seq_tuple_add slot_tuple_add entry_tuple_add (args_tuple_add_2 _ _)
   (tuple_addW2 t b vs.toArray ws.toArray n n2 dd Nr sl Io (by simpa using hv) (by simpa using hw) (by rw[size_toArray,size_toArray];exact hsz)) ⟨ho,Bq,?_⟩
  rw[e]
  exact h2 hw
noncomputable def B8 (n d:Nat):Option Int->Nat
 | none=>d
 | some v=>if v < 0 then (v + (n:Int)).toNat else min v.toNat n
theorem AN (n d k:Nat):B8 n d (some (k:Int))=min k n:=by
 show(if (k:Int) < 0 then ((k:Int) + (n:Int)).toNat else min (k:Int).toNat n)=min k n
 rw[if_neg (by omega),toNat_natCast]
end
end HT
namespace L2
open PySem PySem.Spec PyProof.Rows
noncomputable abbrev TO:=St->Hp->(Option Int->Hp->Prop)->Prop
noncomputable def PO (X:Cx)(e:Option Expr)(t:TO):Prop :=
 ∀ (pins:List (Addr × Obj))(s:Shared)(σ:St)(H:Hp)(Q:Option Int->Hp->Prop),Inv X pins σ H s->t σ H Q ->
  wpAny (model X.prog X.w) X.A (evalPart e X.env) (fun u s'=>∃ o H',Inv X pins σ H' s'/\IsPart u o/\Q o H') X.xe s
noncomputable def uN:TO:=fun _ H Q=>Q none H
noncomputable def J8 (t:TE):TO:=fun σ H Q=>t σ H fun x H1=>∃ i,x = .int i/\Q (some i) H1
theorem oQ {ns:List Int}:∀ {us:List Value},Vals (ns.map V.int) us->IntsAre us ns:=by
 induction ns with
 | nil=>intro us r;rw[map_nil]at r;cases r;exact .nil
 | cons n ns ih =>
  intro us r
  rw[map_cons]at r
  cases r with
  | cons r1 r2 =>
   obtain⟨t,e⟩:=r1
   subst e
   exact .cons n t (ih r2)
section
variable {X:Cx}{e:Expr}{te:TE}{lo hi:Option Expr}{tl th:TO}{pos p2:Pos}
theorem lr:PO X none uN:=by
 intro pins s σ H Q I h
 rw[evalPart_none]
 exact wpAny_pure ⟨none,H,I, .none,h⟩
theorem eB (h:PE X e te):PO X (some e) (J8 te):=by
 intro pins s σ H Q I hw
 rw[evalPart_some]
 refine aW (h pins s σ H _ I hw) fun u s1 zk=>?_
 obtain⟨x,H1,I1,r1,q1⟩:=zk
 obtain⟨i,rfl,q⟩:=q1
 obtain⟨t,rfl⟩:=r1
 exact⟨some i,H1,I1, .int i t,q⟩
noncomputable def U0 (X:Cx)(r:V->Option Int->Option Int->Hp->VK->Prop):Prop :=
 ∀ (pins:List (Addr × Obj))(s:Shared)(σ:St)(H:Hp)(x:V)(v vl vu:Value)(lo hi:Option Int)(sl:Addr)(Q:VK),Inv X pins σ H s->RelV x v->s.heap.IsSliceOf sl vl vu .none->IsPart vl lo->IsPart vu hi->r x lo hi H Q ->
  ∃ T id,typeLookup (.type T) "__getitem__" = pure (some (.builtin id))/\s.TypeIs v T/\wpAny (model X.prog X.w) X.A (getItem v (.ref sl)) (EP X pins σ Q) X.xe s
noncomputable def tSl (r:V->Option Int->Option Int->Hp->VK->Prop)(te:TE)(tl th:TO):TE:=fun σ H Q=>te σ H fun x H1=>tl σ H1 fun l H2=>th σ H2 fun u H3=>r x l u H3 Q
theorem fB {r:V->Option Int->Option Int->Hp->VK->Prop}(hr:U0 X r)(he:PE X e te)(hl:PO X lo tl)(hu:PO X hi th):PE X (.Subscript e (.Slice lo hi none p2) pos) (tSl r te tl th):=by
 intro pins s σ H Q I h
 refine Subscript_ (aW (he pins s σ H _ I h) fun v s1 zk=>?_)
 obtain⟨x,H1,I1,r1,q1⟩:=zk
 refine wpAny_Slice (aW (hl pins s1 σ H1 _ I1 q1) fun vl s2 ⟨l,H2,I2,pl,q2⟩=>aW (hu pins s2 σ H2 _ I2 q2) fun vu s3 zk=>?_)
 obtain⟨u,H3,I3,pu,q3⟩:=zk
 rw[evalPart_none]
 refine wpAny_pure ?_
 have I4:Inv X pins σ H3 { s3 with heap:=s3.heap.push { cls := .type "slice",data := .fields #[vl,vu, .none] } }:=I3.kept (t':=s3.toks) fun b ob q=>Heap.get?_push_of_some _ q
 obtain⟨T,id,hT,ht,hg⟩:=hr pins { s3 with heap:=s3.heap.push { cls := .type "slice",data := .fields #[vl,vu, .none] } } σ H3 x v vl vu l u s3.heap.objs.size Q I4 r1 (Heap.IsSliceOf.new ..) pl pu q3
 show wpAny (model X.prog X.w) X.A (subscriptTail e (.Slice lo hi none p2) v (.ref s3.heap.objs.size)) (EP X pins σ Q) X.xe { s3 with heap:=s3.heap.push { cls := .type "slice",data := .fields #[vl,vu, .none] } }
 exact tail_any (ops:=[.ref s3.heap.objs.size,v]) ht hT hg (by with_unfolding_all rfl)
noncomputable def iH (xs:List V)(lo hi:Option Int):List V:=(xs.drop (HT.B8 xs.length 0 lo)).take (HT.B8 xs.length xs.length hi - HT.B8 xs.length 0 lo)
theorem mV (xs:List V)(lo hi:Option Int):(iH xs lo hi).length <= xs.length:=by
 unfold iH
 rw[length_take,length_drop]
 omega
noncomputable def J9 (K:Frag):R2:=fun x y H Q=>∃ a b xs ys,x = .ref a/\y = .ref b/\zt K H a xs/\zt K H b ys/\xs ≠ []/\xs.length + ys.length <= sizeLine /\
 (ys=[]->Q (.ref a) H)/\(ys ≠ []->∀ p,H p=none->Q (.ref p) (upd H p (.tup (xs ++ ys))))
theorem Vals.Bw {xs:List V}{us:List Value}(r:Vals xs us):us=[]↔xs=[]:=by
 cases r with
 | nil=>simp
 | cons _ _=>simp
theorem vn:dI X (binaryOp .Add) (J9 X.K):=by
 intro pins s σ H x y v u Q I rx ry h
 obtain⟨a,b,xs,ys,rfl,rfl,ha,hb,hx,hz,q1,q2⟩:=h
 cases rx
 cases ry
 obtain⟨zl,r1,p1,_⟩:=I.tuple ha
 obtain⟨BD,r2,p2,_⟩:=I.tuple hb
 refine HT.E4 p1 p2 (fun z=>hx (r1.Bw.mp z)) (fun z=>⟨.ref a,H,I,rfl,q1 (r2.Bw.mp z)⟩) (fun z=>?_) (by rw[← r1.length,← r2.length];exact hz)
 refine⟨.ref s.heap.objs.size,_,I.laid (t':=s.toks) (o := .tup (xs ++ ys)) (fun b ob q=>Heap.get?_push_of_some _ q) (Nat.le_refl _) ?_,rfl,q2 (fun w=>z (r2.Bw.mpr w)) _ (I.zp.fresh (Nat.le_refl _))⟩
 exact⟨by rw[length_append];exact hz,_,r1.append r2,Aw.new _ _⟩
end
noncomputable def vX (n:Nat)(i:Int):Option Nat:=if 0 <= i then (if i < n then some i.toNat else none) else if -(n:Int) <= i then some (i + n).toNat else none
noncomputable def Ip {α:Type}(xs:List α)(i:Int):Option α:=(vX xs.length i).bind fun j=>xs[j]?
theorem qb {n:Nat}{i:Int}{j:Nat}(h:vX n i=some j):seqIndex? i n=some j/\j < n/\-(n:Int) <= i/\i < n:=by
 unfold vX at h
 by_cases h0:0 <= i
 ·rw[if_pos h0]at h
  by_cases h1:i < n
  ·rw[if_pos h1]at h
   have e:i.toNat=j:=Option.some.inj h
   exact⟨by rw[seqIndex_of h0 h1,e],by omega,by omega,h1⟩
  ·rw[if_neg h1]at h;cases h
 ·rw[if_neg h0]at h
  by_cases h1:-(n:Int) <= i
  ·rw[if_pos h1]at h
   have e:(i + n).toNat=j:=Option.some.inj h
   exact⟨by rw[seqIndex_neg (by omega) h1,e],by omega,h1,by omega⟩
  ·rw[if_neg h1]at h;cases h
theorem qr {α:Type}{xs:List α}{i:Int}{v:α}(h:Ip xs i=some v):∃ j,seqIndex? i xs.length=some j/\xs[j]? = some v/\j < xs.length/\-(xs.length:Int) <= i/\i < xs.length:=by
 unfold Ip at h
 cases e:vX xs.length i with
 | none=>rw[e]at h;cases h
 | some j =>
  rw[e]at h
  obtain⟨h1,h2,h3,h4⟩:=qb e
  exact⟨j,h1,h,h2,h3,h4⟩
theorem ak {α:Type}{xs:List α}{j:Nat}{v:α}(h:xs[j]? = some v):Ip xs (j:Int)=some v:=by
 have hj:j < xs.length:=(gQ0 h)
 have e:vX xs.length (j:Int)=some j:=by
  unfold vX
  rw[if_pos (by omega),if_pos (by omega)];simp
 unfold Ip;rw[e];exact h
noncomputable def ww (b:Expr):Prop:=∀ o i,subscripted b false o i=operate [o,i] (getItem o i)
noncomputable def n9 (X:Cx)(r:R2):Prop :=
 ∀ (value slice:Expr)(pins:List (Addr × Obj))(s:Shared)(σ:St)(H:Hp)(x y:V)(v u:Value)(Q:VK),Inv X pins σ H s->RelV x v->RelV y u->r x y H Q ->
  subscripted slice false v u=operate [v,u] (getItem v u)->wpAny (model X.prog X.w) X.A (subscriptTail value slice v u) (EP X pins σ Q) X.xe s
noncomputable def Nt (X:Cx)(id:String)(r:V->List V->Hp->VK->Prop):Prop :=
 ∀ (pins:List (Addr × Obj))(s:Shared)(σ:St)(H:Hp)(x:V)(xs:List V)(v:Value)(us:List Value)(Q:VK),Inv X pins σ H s->RelV x v->Vals xs us->r x xs H Q ->
  wpAny (model X.prog X.w) X.A (call (.builtin id) (v :: us)) (EP X pins σ Q) X.xe s
section
variable {X:Cx}{a b:Expr}{ta tb:TE}{pos:Pos}
theorem aA {r:R2}(hr:n9 X r)(ha:PE X a ta)(hb:PE X b tb)(hs:ww b):PE X (.Subscript a b pos) (Np r ta tb):=by
 intro pins s σ H Q I h
 exact Subscript_ (yU ha hb I h fun v u s2 x y H2 I2 rx ry q=>hr a b pins s2 σ H2 x y v u Q I2 rx ry q (hs _ _))
noncomputable def vd (K:Frag):R2:=fun x y H Q=>∃ p xs i v,x = .ref p/\y = .int i/\zj K H p xs/\Ip xs i=some v/\Q v H
noncomputable def j5 (K:Frag):R2:=fun x y H Q=>∃ p xs i v,x = .ref p/\y = .int i/\zt K H p xs/\Ip xs i=some v/\Q v H
theorem aQ:n9 X (vd X.K):=by
 intro value slice pins s σ H x y v u Q I rx ry h hs
 obtain⟨p,xs,i,z,rfl,rfl,hq,he,q⟩:=h
 cases rx
 obtain⟨t,rfl⟩:=ry
 obtain⟨zl,r,pl,hz⟩:=I.list hq
 obtain⟨j,h1,h2,h3,h4,h5⟩:=qr he
 obtain⟨w,ew,E5⟩:=r.get h2
 have hl:=r.length
 have hn:=jF
 have fin:EP X pins σ Q w s:=⟨z,H,I,E5,q⟩
 by_cases h0:0 <= i
 ·have hj:i.toNat=j:=by
   rw[seqIndex_of h0 h5]at h1
   exact Option.some.inj h1
  exact item_listR pl.isList h0 (by omega) (by rw[hj];simpa using ew) fin hs
 ·have hj:(i + (zl.toArray.size:Int)).toNat=j:=by
   rw[seqIndex_neg (by omega) h4]at h1
   rw[size_toArray,← hl]
   exact Option.some.inj h1
  exact subscriptTail_builtinR (x:=w) pl.isList.typeIs slot_list_getitem.lookup
   (wpAny_getItem_list_neg (Q:=fun r s'=>r=w/\EP X pins σ Q r s') pl.isList (by omega) (by rw[size_toArray]<;>omega) (by omega) (by rw[hj];simpa using ew) ⟨rfl,fin⟩) hs
theorem aE:n9 X (j5 X.K):=by
 intro value slice pins s σ H x y v u Q I rx ry h hs
 obtain⟨p,xs,i,z,rfl,rfl,hq,he,q⟩:=h
 cases rx
 obtain⟨t,rfl⟩:=ry
 obtain⟨zl,r,pl,hz⟩:=I.tuple hq
 obtain⟨j,h1,h2,h3,h4,h5⟩:=qr he
 obtain⟨w,ew,E5⟩:=r.get h2
 have hl:=r.length
 have hn:=jF
 have fin:EP X pins σ Q w s:=⟨z,H,I,E5,q⟩
 exact subscriptTail_builtinR (x:=w) pl.typeIs slot_tuple_getitem.lookup
  (getItem_tuple (j:=j) (Q:=fun r s'=>r=w/\EP X pins σ Q r s') pl (by omega) (by omega) (by rw[size_toArray,← hl];exact h1) (by simpa using ew) ⟨rfl,fin⟩) hs
theorem oF (zl:List Value)(n j:Nat)(u:Value):Obj.mapSeq (·.setIfInBounds j u) { cls := .type "list",data := .seq zl.toArray n } = { cls := .type "list",data := .seq (zl.set j u).toArray n }:=by
 simp[Obj.mapSeq]
theorem Inv.lst {pins:List (Addr × Obj)}{σ:St}{H:Hp}{s:Shared}{p:Addr}{xs:List V}(I:Inv X pins σ H s)(h:H p=some (.lst xs)) :
  ∃ (zl:List Value)(n:Nat),Vals xs zl/\s.heap.get? p=some { cls := .type "list",data := .seq zl.toArray n }/\xs.length <= sizeLine:=by
 obtain⟨z,zl,n,r,e⟩:=I.zp p _ h
 exact⟨zl,n,r,e,z⟩
theorem Inv.G9 {pins:List (Addr × Obj)}{σ:St}{H:Hp}{s:Shared}{p:Addr}{xs ys:List V}{zl its':List Value}{n n':Nat}{f:Obj->Obj}(I:Inv X pins σ H s)(h:H p=some (.lst xs))
  (ho:s.heap.get? p=some { cls := .type "list",data := .seq zl.toArray n }) (hf:f { cls := .type "list",data := .seq zl.toArray n } = { cls := .type "list",data := .seq its'.toArray n' }) (r:Vals ys its') (hz:ys.length <= sizeLine) (t:Nat) :
  Inv X pins σ (upd H p (.lst ys)) { s with heap:=s.heap.update p f,toks:=t }:=by
 have e:(s.heap.update p f).get? p=some { cls := .type "list",data := .seq its'.toArray n' }:=by
  rw[Heap.get?_update_self f ho (by rw[hf]<;>rfl),hf]
 refine I.write (x:=p) (e:=p) (by rw[h];trivial) (.inl rfl) (fun b u hb q=>(Heap.get?_update_other _ _ (Ne.symm hb)).trans q) ⟨_,e⟩ ?_
 exact⟨hz,its',n',r,e⟩
noncomputable def JA:V->V->V->Hp->(Hp->Prop)->Prop:=fun o i v H Q=>∃ p xs k j,o = .ref p/\i = .int k/\H p=some (.lst xs)/\vX xs.length k=some j/\Q (upd H p (.lst (xs.set j v)))
theorem jt:Jn X JA:=by
 intro pins s σ H o i v ov iv u Q I ro ri rv h
 obtain⟨p,xs,k,j,rfl,rfl,hp,hj,q⟩:=h
 cases ro
 obtain⟨t,rfl⟩:=ri
 obtain⟨zl,n,r,ho,hz⟩:=I.lst hp
 obtain⟨h1,h2,h3,h4⟩:=qb hj
 have hl:=r.length
 have hn:=jF
 have I':Inv X pins σ (upd H p (.lst (xs.set j v))) { s with heap:=s.heap.update p (Obj.mapSeq (·.setIfInBounds j u)) } :=
  I.G9 hp ho (oF zl n j u) (r.set rv j) (by rw[length_set];exact hz) s.toks
 by_cases h0:0 <= k
 ·have hk:k.toNat=j:=by
   rw[seqIndex_of h0 h4]at h1
   exact Option.some.inj h1
  exact PySem.W.ki_setAt ho h0 (by omega) (by rw[size_toArray,← hl];exact h4) (by rw[hk];exact⟨_,I',q⟩)
 ·have hk:(k + (zl.toArray.size:Int)).toNat=j:=by
   rw[seqIndex_neg (by omega) h3]at h1
   rw[size_toArray,← hl]
   exact Option.some.inj h1
  exact PySem.W.ki_setBack ho (by omega) (by rw[size_toArray,← hl];exact h3) (by omega) (by rw[hk];exact⟨_,I',q⟩)
theorem lg (lo hi:Option Int)(n:Nat):(sliceBounds lo hi none n).1=((HT.B8 n 0 lo:Nat):Int)/\(sliceBounds lo hi none n).2.1=((HT.B8 n n hi:Nat):Int)/\(sliceBounds lo hi none n).2.2=1:=by
 refine⟨?_,?_,rfl⟩
 ·cases lo with
  | none=>simp[sliceBounds,HT.B8]
  | some i =>
   simp only[sliceBounds,HT.B8,Option.getD_none,show (1:Int) > 0 by decide,if_true]
   by_cases h:i < 0
   ·simp only[h,if_true]<;>omega
   ·simp only[h,if_false]<;>omega
 ·cases hi with
  | none=>simp[sliceBounds,HT.B8]
  | some i =>
   simp only[sliceBounds,HT.B8,Option.getD_none,show (1:Int) > 0 by decide,if_true]
   by_cases h:i < 0
   ·simp only[h,if_true]<;>omega
   ·simp only[h,if_false]<;>omega
theorem jY (zl:List Value)(lo hi:Option Int):slicePick zl.toArray lo hi none=((zl.drop (HT.B8 zl.length 0 lo)).take (HT.B8 zl.length zl.length hi - HT.B8 zl.length 0 lo)).toArray:=by
 obtain⟨h1,h2,h3⟩:=lg lo hi zl.toArray.size
 unfold slicePick
 rw[h1,h2,h3]
 simp only[sliceRange_one,pick_run,size_toArray]<;>rfl
noncomputable def OZ (K:Frag):V->Option Int->Option Int->Hp->VK->Prop:=fun x lo hi H Q=>∃ a xs,x = .ref a/\zj K H a xs/\∀ p,H p=none->Q (.ref p) (upd H p (.lst (iH xs lo hi)))
theorem gQ:U0 X (OZ X.K):=by
 intro pins s σ H x v vl vu lo hi sl Q I rx hs pl pu h
 obtain⟨a,xs,rfl,hx,q⟩:=h
 cases rx
 obtain⟨zl,r,ht,hz⟩:=I.list hx
 have hlen:=r.length
 refine⟨"list",_,slot_list_getitem.lookup,ht.isList.typeIs,?_⟩
 refine wpAny_getItem_list_slice ht.isList hs pl pu .none (by simp) ?_ (by rw[size_toArray]<;>omega)
 rw[jY,← hlen]
 refine⟨.ref s.heap.objs.size,_,I.laid (t':=s.toks) (o := .lst (iH xs lo hi)) (fun b ob q=>Heap.get?_push_of_some _ q) (Nat.le_refl _) ?_,rfl,q _ (I.zp.fresh (Nat.le_refl _))⟩
 exact⟨le_trans (mV xs lo hi) hz,_,0,(r.drop (HT.B8 xs.length 0 lo)).take (HT.B8 xs.length xs.length hi - HT.B8 xs.length 0 lo),Heap.get?_push_size _ rfl⟩
noncomputable def ig:V->Bool
 | .zD=>true
 | .bl _=>true
 | .int _=>true
 | .str _=>true
 | _=>false
noncomputable def wW:V->V->Bool
 | .zD, .zD=>true
 | .bl a, .bl b=>a == b
 | .bl a, .int b=>(if a then 1 else 0) == b
 | .int a, .bl b=>a == (if b then 1 else 0)
 | .int a, .int b=>a == b
 | .str a, .str b=>a == b
 | _,_=>false
theorem yN {A:Around}{s:Shared}{y x:V}{u v:Value}(ry:RelV y u)(rx:RelV x v)(fy:ig y=true)(fx:ig x=true):SeqAt.EqAt A s u v (wW y x):=by
 cases y with
 | zD =>
  cases ry
  cases x with
  | zD=>cases rx;exact SeqAt.EqAt.same _
  | bl b=>cases rx;exact SeqAt.EqAt.none_bool b
  | int b=>obtain⟨t,rfl⟩:=rx;exact SeqAt.EqAt.none_int b t
  | str b=>obtain⟨t,rfl⟩:=rx;exact SeqAt.EqAt.none_str b t
  | _=>exact absurd (show false=true from fx) Bool.false_ne_true
 | bl a =>
  cases ry
  cases x with
  | zD=>cases rx;exact SeqAt.EqAt.bool_none a
  | bl b=>cases rx;exact SeqAt.EqAt.bool_bool a b
  | int b=>obtain⟨t,rfl⟩:=rx;exact SeqAt.EqAt.bool_int a b t
  | str b=>obtain⟨t,rfl⟩:=rx;exact SeqAt.EqAt.bool_str a b t
  | _=>exact absurd (show false=true from fx) Bool.false_ne_true
 | int a =>
  obtain⟨t',rfl⟩:=ry
  cases x with
  | zD=>cases rx;exact SeqAt.EqAt.int_none a t'
  | bl b=>cases rx;exact SeqAt.EqAt.int_bool a t' b
  | int b=>obtain⟨t,rfl⟩:=rx;exact SeqAt.EqAt.int_int a t' b t
  | str b=>obtain⟨t,rfl⟩:=rx;exact SeqAt.EqAt.int_str a t' b t
  | _=>exact absurd (show false=true from fx) Bool.false_ne_true
 | str a =>
  obtain⟨t',rfl⟩:=ry
  cases x with
  | zD=>cases rx;exact SeqAt.EqAt.str_none a t'
  | bl b=>cases rx;exact SeqAt.EqAt.str_bool a t' b
  | int b=>obtain⟨t,rfl⟩:=rx;exact SeqAt.EqAt.str_int a t' b t
  | str b=>obtain⟨t,rfl⟩:=rx;exact SeqAt.EqAt.str_str a t' b t
  | _=>exact absurd (show false=true from fx) Bool.false_ne_true
 | _=>exact absurd (show false=true from fy) Bool.false_ne_true
noncomputable def oS (x:V)(u:Value):Bool:=match u with
 | .none=>wW .zD x
 | .bool b=>wW (.bl b) x
 | .int i _=>wW (.int i) x
 | .str z _=>wW (.str z) x
 | _=>false
theorem ui {x y:V}{u:Value}(r:RelV y u)(f:ig y=true):oS x u=wW y x:=by
 cases y with
 | zD=>cases r;rfl
 | bl b=>cases r;rfl
 | int i=>obtain⟨t,rfl⟩:=r;rfl
 | str z=>obtain⟨t,rfl⟩:=r;rfl
 | _=>exact absurd (show false=true from f) Bool.false_ne_true
theorem io {x:V}:∀ {xs:List V}{us:List Value},Vals xs us->xs.all ig=true->us.any (oS x)=xs.any fun y=>wW y x
 | _,_, .nil,_=>rfl
 | y :: xs,u :: us, .cons r t,f=>by
  rw[all_cons,Bool.and_eq_true]at f
  rw[any_cons,any_cons,ui r f.1,io t f.2]
theorem fF {A:Around}{s:Shared}{x:V}{v:Value}(rx:RelV x v)(fx:ig x=true):∀ {xs:List V}{us:List Value},Vals xs us->xs.all ig=true->∀ u ∈ us,SeqAt.EqAt A s u v (oS x u)
 | _,_, .nil,_=>fun u hu=>by cases hu
 | y :: xs,u :: us, .cons r t,f=>fun u' hu=>by
  rw[all_cons,Bool.and_eq_true]at f
  rcases mem_cons.mp hu with rfl | hu
  ·rw[ui r f.1];exact yN r rx f.1 fx
  ·exact fF rx fx t f.2 u' hu
noncomputable def Iq (x:V)(xs:List V):Bool:=xs.any fun y=>wW y x
noncomputable def JB (K:Frag)(neg:Bool):R2:=fun x y H Q=>∃ p xs,y = .ref p/\(zj K H p xs∨zt K H p xs)/\ig x=true/\xs.all ig=true/\Q (.bl (if neg then !Iq x xs else Iq x xs)) H
theorem qL:dI X (compareOp .In) (JB X.K false):=by
 intro pins s σ H x y v u Q I rx ry h
 obtain⟨p,xs,rfl,hq,fx,fs,q⟩:=h
 cases ry
 rcases hq with hq | hq
 ·obtain⟨zl,r,pl,hz⟩:=I.list hq
  refine SeqAt.in_listAt (oS x) pl.isList (fun w hw=>fF rx fx r fs w (by simpa using hw)) ⟨.bl _,H,I,rfl,?_⟩
  rw[show zl.toArray.any (oS x)=zl.any (oS x) by simp,io r fs]
  exact q
 ·obtain⟨zl,r,pl,hz⟩:=I.tuple hq
  refine SeqAt.in_tupleAt (oS x) pl (fun w hw=>fF rx fx r fs w (by simpa using hw)) ⟨.bl _,H,I,rfl,?_⟩
  rw[show zl.toArray.any (oS x)=zl.any (oS x) by simp,io r fs]
  exact q
theorem eI:dI X (compareOp .NotIn) (JB X.K true):=by
 intro pins s σ H x y v u Q I rx ry h
 obtain⟨p,xs,rfl,hq,fx,fs,q⟩:=h
 cases ry
 rcases hq with hq | hq
 ·obtain⟨zl,r,pl,hz⟩:=I.list hq
  refine SeqAt.notIn_listAt (oS x) pl.isList (fun w hw=>fF rx fx r fs w (by simpa using hw)) ⟨.bl _,H,I,rfl,?_⟩
  rw[show zl.toArray.any (oS x)=zl.any (oS x) by simp,io r fs]
  exact q
 ·obtain⟨zl,r,pl,hz⟩:=I.tuple hq
  refine SeqAt.notIn_tupleAt (oS x) pl (fun w hw=>fF rx fx r fs w (by simpa using hw)) ⟨.bl _,H,I,rfl,?_⟩
  rw[show zl.toArray.any (oS x)=zl.any (oS x) by simp,io r fs]
  exact q
theorem aq:dF X (.builtin "len") (fun xs H Q=>∃ p ys,xs=[.ref p]/\(zj X.K H p ys∨zt X.K H p ys)/\Q (.int ys.length) H):=by
 intro pins s σ H xs us Q I r h
 obtain⟨p,ys,rfl,hq,q⟩:=h
 obtain⟨u,rfl,rx⟩:=kx r
 cases rx
 have hn:=jF
 rcases hq with hq | hq
 ·obtain⟨zl,r',pl,hz⟩:=I.list hq
  have hlen:=r'.length
  exact Calls.call_len_list pl.isList (by simp only[size_toArray]<;>omega) ⟨.int ys.length,H,I.tok _,⟨s.toks + 1,by rw[size_toArray,hlen]⟩,q⟩
 ·obtain⟨zl,r',pl,hz⟩:=I.tuple hq
  have hlen:=r'.length
  exact len_tuple pl (by simp only[size_toArray]<;>omega) ⟨.int ys.length,H,I.tok _,⟨s.toks + 1,by rw[size_toArray,hlen]⟩,q⟩
theorem bU:dF X (.type "list") (fun xs H Q=>∃ p ys,xs=[.ref p]/\(zj X.K H p ys∨zt X.K H p ys)/\∀ l,H l=none->Q (.ref l) (upd H l (.lst ys))):=by
 intro pins s σ H xs us Q I r h
 obtain⟨p,ys,rfl,hq,q⟩:=h
 obtain⟨u,rfl,rx⟩:=kx r
 cases rx
 have fin:∀ (zl:List Value),Vals ys zl->ys.length <= sizeLine->∀ (h':Heap)(c':Nat),(∀ b o',s.heap.get? b=some o'->h'.get? b=some o') ->
   h'.get? s.heap.objs.size=some { cls := .type "list",dict:=none,data := .seq zl.toArray c',slots:=#[] }->EP X pins σ Q (.ref s.heap.objs.size) { s with heap:=h' }:=fun zl r' hz h' c' kp e =>
  ⟨.ref s.heap.objs.size,_,I.laid (t':=s.toks) kp (Nat.le_refl _) (show zL X.prog X.w _ h' _ (.lst ys) from ⟨hz,zl,c',r',e⟩),rfl,q _ (I.zp.fresh (Nat.le_refl _))⟩
 rcases hq with hq | hq
 ·obtain⟨zl,r',pl,hz⟩:=I.list hq
  have hlen:=r'.length
  obtain⟨o,ho,hc,n,hd⟩:=pl.isList
  exact call_list_seq p (.inl rfl) ho hc hd (fun h' c' kp e=>fin zl r' hz h' c' kp e) (by simp only[size_toArray]<;>omega)
 ·obtain⟨zl,r',pl,hz⟩:=I.tuple hq
  have hlen:=r'.length
  obtain⟨o,ho,hc,n,hd⟩:=pl
  exact call_list_seq p (.inr rfl) ho hc hd (fun h' c' kp e=>fin zl r' hz h' c' kp e) (by simp only[size_toArray]<;>omega)
theorem c7:dF X (.type "tuple") (fun xs H Q=>∃ p ys,xs=[.ref p]/\((zj X.K H p ys/\∀ l,H l=none->Q (.ref l) (upd H l (.tup ys)))∨(zt X.K H p ys/\Q (.ref p) H))):=by
 intro pins s σ H xs us Q I r h
 obtain⟨p,ys,rfl,h⟩:=h
 obtain⟨u,rfl,rx⟩:=kx r
 cases rx
 rcases h with ⟨hq,q⟩ | ⟨hq,q⟩
 ·obtain⟨zl,r',pl,hz⟩:=I.list hq
  have hlen:=r'.length
  refine call_tuple_list pl.isList (fun h' kp=>?_) (by simp only[size_toArray]<;>omega)
  have I1:Inv X pins σ H { s with heap:=h' }:=I.kept (t':=s.toks) kp
  have I2:Inv X pins σ (upd H h'.objs.size (.tup ys)) { s with heap:=h'.push { cls := .type "tuple",data := .seq zl.toArray } } :=
   I1.laid (t':=s.toks) (fun b o e=>Heap.get?_push_of_some _ e) (Nat.le_refl _) (show zL X.prog X.w _ _ _ (.tup ys) from ⟨hz,zl,r',Aw.new _ _⟩)
  exact⟨.ref h'.objs.size,_,I2,rfl,q _ (I1.zp.fresh (Nat.le_refl _))⟩
 ·obtain⟨zl,r',pl,hz⟩:=I.tuple hq
  exact call_tuple_same pl ⟨.ref p,H,I,rfl,q⟩
noncomputable def Pa (K:Frag)(T:String)(x:V)(H:Hp):Prop:=match x with
 | .str _=>T = "str"
 | .int _=>T = "int"
 | .ref p=>(T = "list"/\∃ xs,zj K H p xs)∨(T = "tuple"/\∃ o,K.lookup p=some o/\o.cls = .type "tuple"/\o.dict=none) ∨
   (T = "dict"/\((∃ zq,H p=some (.dK zq))∨∃ zq,H p=some (.dT zq)))∨(T = "set"/\∃ S n,H p=some (.set S n))
 | _=>False
theorem rA {pins:List (Addr × Obj)}{σ:St}{H:Hp}{s:Shared}{T:String}{x:V}{v:Value}(I:Inv X pins σ H s)(r:RelV x v)(ty:Pa X.K T x H) :
  s.TypeIs v T/\∀ a,v = .ref a->∃ ob,s.heap.get? a=some ob/\ob.dict=none:=by
 cases x with
 | str z =>
  obtain⟨t,rfl⟩:=r
  cases (show T = "str" from ty)
  exact⟨typeIs_str s z t,fun _ e=>nomatch e⟩
 | int i =>
  obtain⟨t,rfl⟩:=r
  cases (show T = "int" from ty)
  exact⟨typeIs_int s i t,fun _ e=>nomatch e⟩
 | ref p =>
  cases r
  rcases ty with ⟨rfl,xs,hq⟩ | ⟨rfl,o,hk,hc,hd⟩ | ⟨rfl,hk⟩ | ⟨rfl,S,n,hk⟩
  ·obtain⟨zl,_,pl,_⟩:=I.list hq
   refine⟨pl.isList.typeIs,fun a e=>?_⟩
   cases e
   obtain⟨o,n,e,c,hd,_⟩:=pl
   exact⟨o,e,hd⟩
  ·refine⟨⟨o,I.Al p o hk,hc⟩,fun a e=>?_⟩
   cases e
   exact⟨o,I.Al _ o hk,hd⟩
  ·have z:∃ o,s.heap.get? p=some o/\o.ExactDict:=by
    rcases hk with ⟨zq,hk⟩ | ⟨zq,hk⟩
    ·obtain⟨_,_,_,_,o,_,_,e,ex,_⟩:=I.zp p _ hk
     exact⟨o,e,ex⟩
    ·obtain⟨_,_,_,_,o,_,_,e,ex,_⟩:=I.zp p _ hk
     exact⟨o,e,ex⟩
   obtain⟨o,e,ex⟩:=z
   refine⟨⟨o,e,ex.1⟩,fun a e2=>?_⟩
   cases e2
   exact⟨o,e,ex.2.1⟩
  ·obtain⟨o,_,_,_,e,ex,_⟩:=I.zp p _ hk
   refine⟨⟨o,e,ex.1⟩,fun a e2=>?_⟩
   cases e2
   exact⟨o,e,ex.2.1⟩
 | _=>exact False.elim ty
noncomputable def Pb (K:Frag)(T:String)(r:V->List V->Hp->VK->Prop)(to:TE):TE:=fun σ H Q=>to σ H fun x H1=>Pa K T x H1/\r x [] H1 Q
noncomputable def tBM (K:Frag)(T:String)(r:V->List V->Hp->VK->Prop)(to:TE)(t:TA):TE:=fun σ H Q=>to σ H fun x H1=>Pa K T x H1/\t σ H1 fun xs H2=>r x xs H2 Q
variable {o e:Expr}{es:List Expr}{to:TE}{t:TA}{name:Str}{apos Aq:Pos}{T id:String}{r:V->List V->Hp->VK->Prop}
theorem xW (pa:PlainAttrs T)(slot:Slot T name id)(Pe:typeOf (.builtin id)=pure (.type "method_descriptor"))(hm:Nt X id r)(ho:PE X o to)
  (Cg:autoParam (attributeBase o name X.env (eval o X.env)=eval o X.env) η) (DC:autoParam ((apos.endLine == Aq.line)=true) η):PE X (.Call (.Attribute o name apos) [] [] Aq) (Pb X.K T r to):=by
 intro pins s σ H Q I h
 refine wpAny_Call_method0_late Cg DC (aW (ho pins s σ H _ I h) fun v s1 zk=>?_)
 obtain⟨x,H1,I1,r1,ty,q1⟩:=zk
 obtain⟨h1,h2⟩:=rA I1 r1 ty
 exact⟨T,id,pa,slot,Pe,h1,h2,Calls.callWith_builtin rfl (PySem.evalArgs_none (hm pins s1 σ H1 x [] v [] Q I1 r1 .nil q1))⟩
theorem cv (pa:PlainAttrs T)(slot:Slot T name id)(Pe:typeOf (.builtin id)=pure (.type "method_descriptor"))(hm:Nt X id r)(ho:PE X o to)(ha:PA X (e :: es) t)
  (Cg:autoParam (attributeBase o name X.env (eval o X.env)=eval o X.env) η)
  (Dc:((backTo Aq (starEach (e :: es) X.env)).all (fun x=>!x.1) && (backToKw Aq (keywordEach [] X.env)).all (fun x=>x.1.isSome)
   && decide ((e :: es).length + ([]:List Keyword).length + (if ([]:List Keyword).isEmpty then 0 else 1) < 30))=true:=by rfl)
  (DC:autoParam ((apos.endLine == Aq.line)=true) η) (hs:autoParam (starEach (e :: es) X.env=(false,eval e X.env) :: starEach es X.env) η) (GA:autoParam ((backTo Aq (starEach es X.env)).any (·.1)=false) η) :
  PE X (.Call (.Attribute o name apos) (e :: es) [] Aq) (tBM X.K T r to t):=by
 intro pins s σ H Q I h
 refine wpAny_Call_method_late Cg Dc DC rfl (aW (ho pins s σ H _ I h) fun v s1 zk=>?_)
 obtain⟨x,H1,I1,r1,ty,q1⟩:=zk
 obtain⟨h1,h2⟩:=rA I1 r1 ty
 refine⟨T,id,pa,slot,Pe,h1,h2,?_⟩
 have hA:=ha Aq pins s1 σ H1 _ I1 q1
 rw[hs]at hA ⊢
 refine Calls.callWith_builtin (by show(false || (backTo Aq (starEach es X.env)).any (·.1))=false;rw[GA]<;>rfl) (Calls.evalArgs_plain ?_)
 exact aW hA fun us s2 zk=>by obtain⟨vs,H2,I2,r2,q2⟩:=zk;exact hm pins s2 σ H2 x vs v us Q I2 r1 r2 q2
end
noncomputable def Pf (X:Cx)(id:String)(r:V->List V->Hp->VK->Prop):Prop :=
 ∀ (pins:List (Addr × Obj))(s:Shared)(σ:St)(H:Hp)(x:V)(xs:List V)(v:Value)(us:List Value)(Q:VK),Inv X pins σ H s->RelV x v->Vals xs us->r x xs H Q ->
  wpAny (model X.prog X.w) X.A (call (.builtin id) (v :: us)) (EP X pins σ Q) X.xe s
theorem Vals.one:∀ {x:V}{us:List Value},Vals [x] us->∃ u,us=[u]/\RelV x u:=by
 intro x us h
 cases h with
 | cons r t=>cases t;exact⟨_,rfl,r⟩
theorem Vals.eraseIdx:∀ {xs:List V}{us:List Value}(i:Nat),Vals xs us->Vals (xs.eraseIdx i) (us.eraseIdx i)
 | _,_,_, .nil => .nil
 | _,_,0, .cons _ t=>t
 | _,_,i + 1, .cons r t => .cons r (Vals.eraseIdx i t)
theorem kF {α:Type}:∀ (l:List α)(i:Nat),(l.eraseIdx i).length <= l.length
 | [],_=>Nat.le_refl _
 | _ :: _,0=>le_succ _
 | _ :: r,i + 1=>Nat.succ_le_succ (kF r i)
section
variable {X:Cx}{pins:List (Addr × Obj)}{σ:St}{H:Hp}{s:Shared}{l b:Addr}{xs ys zs:List V}
theorem Inv.GB {zl its':List Value}{n:Nat}{f:Array Value->Array Value}{t':Nat}(I:Inv X pins σ H s)(hH:H l=some (.lst xs))
  (e:s.heap.get? l=some { cls := .type "list",data := .seq zl.toArray n }) (hf:f zl.toArray=its'.toArray) (hv:Vals ys its') (hz:ys.length <= sizeLine) :
  Inv X pins σ (upd H l (.lst ys)) { s with heap:=s.heap.update l (Obj.mapSeq f),toks:=t' }:=by
 have q:=PySem.IsL.update e f
 rw[hf]at q
 refine I.write (x:=l) (e:=l) (by rw[hH];exact trivial) (.inl rfl) (fun b' u hb hu=>(Heap.get?_update_other s.heap (Obj.mapSeq f) (Ne.symm hb)).trans hu) ⟨_,q⟩ ?_
 exact⟨hz,its',_,hv,q⟩
theorem Inv.Pg {zl:List Value}{t':Nat}(I:Inv X pins σ H s)(hv:Vals ys zl)(hz:ys.length <= sizeLine) :
  Inv X pins σ (upd H s.heap.objs.size (.lst ys)) { s with heap:=s.heap.push { cls := .type "list",data := .seq zl.toArray },toks:=t' } :=
 I.laid (fun _ _ q=>Heap.get?_push_of_some _ q) (Nat.le_refl _) ⟨hz,zl,0,hv,Heap.get?_push_size _ rfl⟩
theorem Inv.fresh (I:Inv X pins σ H s):H s.heap.objs.size=none:=I.zp.fresh (Nat.le_refl _)
theorem Inv.C3 (I:Inv X pins σ H s)(hH:H l=some (.lst xs)):xs.length <= sizeLine/\∃ (zl:List Value)(n:Nat),Vals xs zl/\xs.length=zl.length/\s.heap.get? l=some { cls := .type "list",data := .seq zl.toArray n }:=by
 obtain⟨z,zl,n,r,e⟩:=I.zp l _ hH
 exact⟨z,zl,n,r,r.length,e⟩
theorem tP {n:Nat}(h:n <= sizeLine):Builtin.List.listTooLong n=false:=by
 unfold Builtin.List.listTooLong
 exact decide_eq_false (by omega)
end
section
variable {X:Cx}
noncomputable def vf:V->List V->Hp->VK->Prop:=fun x vs H Q=>∃ l xs y,x = .ref l/\vs=[y]/\H l=some (.lst xs)/\xs.length < sizeLine/\Q .zD (upd H l (.lst (xs ++ [y])))
theorem bD:Pf X "list.append" vf:=by
 intro pins s σ H x vs v us Q I rx rv h
 obtain⟨l,xs,y,rfl,rfl,hH,hz,q⟩:=h
 cases rx
 obtain⟨u,rfl,ru⟩:=rv.one
 obtain⟨z,zl,n,r,hl,e⟩:=I.C3 hH
 refine call_meets F.slot_list_append ⟨_,e,rfl⟩ F.entry_list_append (F.args_list_append_2 _ _) (PySem.list_append l zl.toArray n u (by rw[size_toArray];omega)) ⟨e,?_⟩
 refine⟨.zD,_,I.GB (its':=zl ++ [u]) hH e (by simp) (r.append (.cons ru .nil)) ?_,rfl,q⟩
 rw[length_append,length_singleton]
 omega
noncomputable def ve:V->List V->Hp->VK->Prop:=fun x vs H Q=>∃ l b xs zs,x = .ref l/\vs=[.ref b]/\H l=some (.lst xs)/\H b=some (.lst zs)/\xs.length + zs.length <= sizeLine/\Q .zD (upd H l (.lst (xs ++ zs)))
theorem fR:Pf X "list.extend" ve:=by
 intro pins s σ H x vs v us Q I rx rv h
 obtain⟨l,b,xs,zs,rfl,rfl,hH,hB,hz,q⟩:=h
 cases rx
 obtain⟨u,rfl,ru⟩:=rv.one
 cases ru
 obtain⟨z,zl,n,r,hl,e⟩:=I.C3 hH
 obtain⟨z2,BD,n2,r2,DE,e2⟩:=I.C3 hB
 have hsz:zl.toArray.size + BD.toArray.size <= sizeLine:=by rw[size_toArray,size_toArray];omega
 have JC:¬ (!zl.toArray.isEmpty && Builtin.List.listTooLong (zl.toArray.size + BD.toArray.size))=true:=by
  rw[tP hsz,Bool.and_false]
  exact Bool.false_ne_true
 refine call_meets F.slot_list_extend ⟨_,e,rfl⟩ F.entry_list_extend (F.args_list_extend_2 _ _)
  (AutoSeq1.list_extend_list_list_0 l zl.toArray n b BD.toArray n2 JC (by rw[size_toArray];omega) (by omega)) ⟨e,e2,?_⟩
 refine⟨.zD,_,I.GB (its':=zl ++ BD) hH e (by simp) (r.append r2) ?_,rfl,q⟩
 rw[length_append]
 omega
noncomputable def xS:V->List V->Hp->VK->Prop:=fun x vs H Q=>∃ l xs i k y,x = .ref l/\vs=[.int i]/\H l=some (.lst xs)/\-(2 ^ 63) <= i/\i < 2 ^ 63/\seqIndex? i xs.length=some k/\xs[k]? = some y/\Q y (upd H l (.lst (xs.eraseIdx k)))
theorem mD:Pf X "list.pop" xS:=by
 intro pins s σ H x vs v us Q I rx rv h
 obtain⟨l,xs,i,k,y,rfl,rfl,hH,h1,h2,hk,hy,q⟩:=h
 cases rx
 obtain⟨u,rfl,ru⟩:=rv.one
 obtain⟨t,rfl⟩:=ru
 obtain⟨z,zl,n,r,hl,e⟩:=I.C3 hH
 obtain⟨w,hw,E5⟩:=r.get hy
 refine call_meets F.slot_list_pop ⟨_,e,rfl⟩ F.entry_list_pop (F.args_list_pop_2 _ _)
  (MeetsSeq.list_pop_at l zl.toArray n i t k w (fitsIndex_both h1 h2) (by rw[size_toArray,← hl];exact hk) (by rw[← Array.getElem?_toList];exact hw) (by rw[size_toArray];omega)) ⟨e,?_⟩
 refine⟨y,_,I.GB (its':=zl.eraseIdx k) hH e ?_ (r.eraseIdx k) ?_,E5,q⟩
 ·show zl.toArray.eraseIdxIfInBounds k=(zl.eraseIdx k).toArray
  rw[List.eraseIdxIfInBounds_toArray]
 ·have:=kF xs k
  omega
noncomputable def Ph:R2:=fun x y H Q=>∃ l b xs zs,x = .ref l/\y = .ref b/\H l=some (.lst xs)/\H b=some (.lst zs)/\xs.length + zs.length <= sizeLine/\∀ p,H p=none->Q (.ref p) (upd H p (.lst (xs ++ zs)))
theorem ye:dI X (binaryOp .Add) Ph:=by
 intro pins s σ H x y v u Q I rx ry h
 obtain⟨l,b,xs,zs,rfl,rfl,hH,hB,hz,q⟩:=h
 cases rx
 cases ry
 obtain⟨z,zl,n,r,hl,e⟩:=I.C3 hH
 obtain⟨z2,BD,n2,r2,DE,e2⟩:=I.C3 hB
 refine PySem.P.add_list e e2 ?_ (by rw[size_toArray,size_toArray];omega)
 have ea:zl.toArray ++ BD.toArray=(zl ++ BD).toArray:=by simp
 rw[ea]
 exact⟨.ref _,_,I.Pg (t':=s.toks) (r.append r2) (by rw[length_append];omega),rfl,q _ I.fresh⟩
end
section
variable {prog:Program}{w:World}{A:Around}{E:Value->Shared->Prop}{s:Shared}
set_option maxRecDepth 100000 in
end
section
variable {X:Cx}
end
end L2
namespace U1
open PySem PySem.W PySem.Calls PyProof.Rows
theorem iU {P:Params}{h:Heap}:∀ (ns:List Int)(vs:List Value),WellAll P h vs (ns.map WData.int)->IntsAre vs ns:=by
 intro ns
 induction ns with
 | nil =>
  intro vs w
  rw[map_nil]at w
  cases w
  exact .nil
 | cons n ns ih =>
  intro vs w
  rw[map_cons]at w
  cases w with
  | cons a b =>
   cases a
   exact .cons _ _ (ih _ b)
theorem qD {l:OpenLaw}{n:Nat}(hn:l.most=some n){P:Params}{h:Heap}{args:List WData}{vals:List Value}
  (E6:l.row.toRowW.claim.pre args=true) (C4:WellAll P h vals args) :
  ∃ a vs ns,vals=[Value.ref a]/\args=[WData.list (ns.map WData.int)]/\h.get? a=some { cls := .type "list",data := .seq vs.toArray }/\IntsAre vs ns/\ns.length <= n:=by
 have hsh:WShape.hasAll [] args [.list .int]=true:=(pre_splitW E6).1
 have hc:l.pre.holds [] { args:=args } = true:=(pre_splitW E6).2
 obtain⟨d,r,rfl,h1,h2⟩:=hasAllW_cons hsh
 obtain rfl:=hasAllW_nil h2
 obtain⟨xs,rfl,h3⟩:=hasW_list h1
 obtain⟨ns,rfl⟩:=items_int h3
 have hlen:ns.length <= n:=by
  unfold OpenLaw.pre at hc
  have h4:(WTm.not (.lt (.lit (.int (n:Int))) (.len (.arg 0)))).holds [] { args:=[.list (ns.map .int)] } = true:=by
   have h4:=(holds_andW hc).1
   rw[hn]at h4
   exact h4
  have h5:=condW_of h4 (w_not (w_lt w_lit (w_len_list (w_arg rfl))))
  rw[length_map]at h5
  refine Nat.le_of_not_lt fun q=>?_
  have q':(n:Int) < ((ns.length:Nat):Int):=by omega
  first
   | (rw[decide_eq_true q']at h5;exact absurd h5 (by decide))
   | (simp at h5;omega)
 cases C4 with
 | cons w1 w2 =>
  cases w2
  cases w1 with
  | list ho Ci=>exact⟨_,_,ns,rfl,rfl,ho,iU ns _ Ci,hlen⟩
theorem qI (l:OpenLaw)(args:List WData):l.row.toRowW.claim.post args (.bool true) args=true :=
 postW_of (r:=l.row.toRowW) (X:=(true == true))
  (show WShape.has [] (.bool true) .bool=true by first | rfl | decide | simp[WShape.has,WShape.arms,WShape.armsAll])
  (show(WTm.eq .res (.lit (.bool true))).value [] { args:=args,res:=some (.bool true),after:=args } = some (.bool (true == true)) from w_eq_bool (w_res rfl) w_lit) rfl
theorem Cj {l:OpenLaw}{n:Nat}{q:Program}{loose:List Str}{XP:(Str->Option Value)->Heap->Prop}{YP:World->Heap->Prop}{d:DefRec}
  (hn:l.most=some n) (JD:d.params.defaults=[])
  (call:∀ (w:World)(s₀ s₁:Shared)(mg mb:Str->Option Value)(fa:Addr)(o:Obj)(pm cd doc:Value)(a:Addr)(vs:List Value)(ns:List Int),
   Ground q loose [] XP w s₀ mg mb s₁.heap->YP w s₁.heap ->
   s₁.heap.get? fa=some o->o.data = .func (docDef d.name d.params d.body d.scope pm cd doc)->s₁.heap.CodeRec cd d.name->mg d.name=some (.ref fa) ->
   s₁.heap.get? a=some { cls := .type "list",data := .seq vs.toArray }->IntsAre vs ns->ns.length <= n->s₁.gens = #[] ->
   codeAny (model l.prog w) callerA (.call (.ref fa) ⟨[.ref a],[]⟩) (fun r s'=>r = .ok (.ret (.bool true))/\OldK s₁.heap s'.heap/\s'.os=s₁.os/\AllBare s'.gens) s₁) :
  WalkO q loose XP YP l.row.toRowW d [] (fun f vs=>PySem.call f vs):=by
 intro w s₀ s₁ mg mb G Y fa o pm cd doc dV kV ho hd Bc hD hmg hg args vals as E6 hlay hrd C4 BO
 obtain rfl:dV = .none:=Dflts.none hD JD
 obtain rfl:kV = .none:=Dflts.noKw hD
 obtain⟨a,vs,ns,rfl,rfl,GC,hints,hlen⟩:=qD hn E6 C4
 refine enter_call (codeAny_mono (call w s₀ s₁ mg mb fa o pm cd doc a vs ns G Y ho (fd_plain hd) Bc hmg GC hints hlen hg) fun r s' hq=>?_)
 obtain⟨rfl,h2,h3,h4⟩:=hq
 exact⟨.inl ⟨.bool true, .bool true,[],rfl,fun _=>rfl, .bool true,qI l _,fun _=>⟨List.Pairwise.nil,fun _ hm=>(nomatch hm)⟩⟩,h2,h3,h4⟩
section
variable {prog:Program}{w:World}{A:Around}{E:Value->Shared->Prop}{s:Shared}{K:Frag}
end
end U1
namespace L2
open PySem PySem.Spec PyProof.Rows
theorem kv:∀ {vs:List Value}{ns:List Int},IntsAre vs ns->Vals (ns.map V.int) vs
 | _,_, .nil => .nil
 | _,_, .cons n t h => .cons ⟨t,rfl⟩ (kv h)
noncomputable def aH (s:Stmt)(j:Nat):Stmt:=match s with
 | .ClassDef _ _ _ body _ _ _ _ _ _ _=>body.getD j (.Pass ⟨0,0,0,0⟩)
 | _ => .Pass ⟨0,0,0,0⟩
noncomputable def bB (s:Stmt):Arguments:=match s with
 | .FunctionDef _ a _ _ _ _ _ _ _ _=>a
 | _=>{ posonlyargs:=[],args:=[],vararg:=none,kwonlyargs:=[],kw_defaults:=[],kwarg:=none,defaults:=[] }
noncomputable def aG (s:Stmt):List Stmt:=match s with
 | .FunctionDef _ _ b _ _ _ _ _ _ _=>b
 | _=>[]
noncomputable def ah (s:Stmt):Scope:=match s with
 | .FunctionDef _ _ _ _ _ _ sc _ _ _=>sc
 | _=>zQ0
noncomputable abbrev aD:lJ:=fun _ _ _ _ _ _=>False
noncomputable abbrev E0:XK:=fun _ _ _=>False
theorem ap {X:Cx}:cC aD X E0:=fun _ _ _ _ _ _ _ h=>h.elim
structure zH (K:Frag)(x qual:Str)(st:Stmt)(f:Addr)(fd:FuncData):Prop where
 ex:∃ (oc:Value)(od:Option Addr)(kV doc pm:Value)(an:Option Addr)(cdv ct:Value)(BZ:Array (Option Value)),
  fd=fnOf x qual (bB st) (aG st) (ah st) .none kV doc pm an cdv ct/\K.lookup f=some ⟨oc,od, .func fd,BZ⟩/\codeIn K cdv qual=true
 kp:keepIn K (.ref f)=true
section
variable {P:Program}{w:World}{K:Frag}{mg:Str->Option Value}{base:Heap}
theorem zH.ok {x qual:Str}{st:Stmt}{f:Addr}{fd:FuncData}{N ps:List Str}{k:Nat}{sp:Sp}(F:zH K x qual st f fd)(S:ao N ps (ah st))(len:∀ vs H Q E,sp vs H Q E->vs.length=ps.length)
  (Aj:∀ (cdv:Value)(A:Around)(outer:List Env)(s:Shared)(H:Hp)(vs:List V)(Q:VK)(E:XK),zm k (A.deeper (envOfC qual (ah st) s.heap.objs.size f cdv))->sp vs H Q E ->
   ∃ t,Bi (iG aD P w K mg base N qual (ah st) f cdv A outer s H E).Fp (aG st) t/\t { nx:=fun _ H'=>Q .zD H',rt:=Q } (start N vs) H):zg P w K mg base aD (k + 1) f fd ps sp:=by
 obtain⟨oc,od,kV,doc,pm,an,cdv,ct,BZ,rfl,lk,Bc⟩:=F.ex
 refine qi lk Bc S len fun A outer s H vs Q E hr BN=>?_
 obtain⟨t,h,q⟩:=Aj cdv A outer s H vs Q E hr BN
 exact⟨t,h.Fp,q⟩
theorem zH.binds {x qual:Str}{st:Stmt}{f:Addr}{fd:FuncData}{ps:List Str}(F:zH K x qual st f fd)
  (h:∀ (kV doc pm:Value)(an:Option Addr)(cdv ct:Value)(us:List Value),us.length=ps.length->bindArgs (fnOf x qual (bB st) (aG st) (ah st) .none kV doc pm an cdv ct) ⟨us,[]⟩ = pure (ps.zip us)):Binds K fd ps []:=by
 obtain⟨oc,od,kV,doc,pm,an,cdv,ct,BZ,rfl,lk,Bc⟩:=F.ex
 exact .all (h kV doc pm an cdv ct)
theorem iE {x qual:Str}{st:Stmt}{f:Addr}{oc:Value}{od an:Option Addr}{BZ:Array (Option Value)}{kV doc pm cdv ct:Value}(l:K.lookup f=some ⟨oc,od, .func (fnOf x qual (bB st) (aG st) (ah st) .none kV doc pm an cdv ct),BZ⟩)
  (c:codeIn K cdv qual=true) (k:keepIn K (.ref f)=true):zH K x qual st f (fnOf x qual (bB st) (aG st) (ah st) .none kV doc pm an cdv ct):=⟨⟨oc,od,kV,doc,pm,an,cdv,ct,BZ,rfl,l,c⟩,k⟩
end
theorem wU {A:Around}{k:Nat}(hr:zm k A):A.units + 1 < cLine:=lt_of_le_of_lt (Nat.add_le_add_left (by decide:1 <= 64) _) hr.units
section
variable {X:Cx}
theorem pv (i:Nat){x:Str}{pos:Pos}(hN:autoParam (X.N[i]? = some x) η)(hv:Nf X.env.scope x:=by first | exact Or.inl rfl | exact Or.inr (Or.inl rfl) | exact Or.inr (Or.inr rfl))(hd:autoParam ((x == ("__debug__":Str))=false) θ)
  (Bc:autoParam ((x == ("__classdict__":Str))=false) θ):PE X (.Name x pos) (nN i):=sQ hN hv hd Bc
end
theorem aI {A B:Prop}(h:B):if false=true then A else B:=by
 rw[if_neg Bool.false_ne_true]
 exact h
theorem aJ {A B:Prop}(h:A):if true=true then A else B:=by
 rw[if_pos rfl]
 exact h
theorem vY {c A B:Prop} [Decidable c] (h1:c->A) (h2:¬ c->B):if c then A else B:=by
 by_cases h:c
 ·rw[if_pos h]
  exact h1 h
 ·rw[if_neg h]
  exact h2 h
noncomputable def zf (H H':Hp):Prop:=∀ b o,H b=some o->H' b=some o
theorem zf.refl (H:Hp):zf H H:=fun _ _ h=>h
theorem zf.trans {H H1 H2:Hp}(a:zf H H1)(b:zf H1 H2):zf H H2:=fun c o h=>b c o (a c o h)
theorem zf.free {H H':Hp}(e:zf H H'){l:Addr}(h:H' l=Option.none):H l=Option.none:=by
 cases q:H l with
 | none=>rfl
 | some o =>
  rw[e l o q]at h
  cases h
theorem zf.seq {K:Frag}{H H':Hp}{a:Addr}{xs:List V}(e:zf H H')(h:zj K H a xs):zj K H' a xs:=by
 rcases h with (h | ⟨o,h⟩) | h
 ·exact .inl (.inl (e _ _ h))
 ·exact .inl (.inr ⟨o,e _ _ h⟩)
 ·exact .inr h
end L2
namespace Yd
open PySem
theorem oX (a b:Nat):Builtin.bitAnd (a:Int) (b:Int)=((a &&& b:Nat):Int):=by
 unfold Builtin.bitAnd
 simp
theorem cY (x:Int):Builtin.bitNot x = -x - 1:=by
 unfold Builtin.bitNot
 omega
theorem De (a b:Nat):Builtin.bitOr (a:Int) (b:Int)=((a ||| b:Nat):Int):=by
 unfold Builtin.bitOr
 have h1:Builtin.bitNot (a:Int) = -(a:Int) - 1:=cY _
 have h2:Builtin.bitNot (b:Int) = -(b:Int) - 1:=cY _
 unfold Builtin.bitAnd
 rw[h1,h2]
 have e1:decide (0 <= -(a:Int) - 1)=false:=decide_eq_false (by omega)
 have e2:decide (0 <= -(b:Int) - 1)=false:=decide_eq_false (by omega)
 rw[e1,e2]
 simp only[]
 have e3:Builtin.bitNot (-(a:Int) - 1)=a:=by rw[cY];omega
 have e4:Builtin.bitNot (-(b:Int) - 1)=b:=by rw[cY];omega
 rw[e3,e4]
 simp only[toNat_natCast]
 rw[cY,cY]
 omega
noncomputable def Ar:List Nat->Nat->Nat
 | [],s=>s
 | n :: r,s=>Ar r (s ||| 2 ^ n)
theorem B3 (k:Nat):∀ (l:List Nat)(s:Nat),(Ar l s).testBit k=(s.testBit k || decide (k ∈ l))
 | [],s=>by simp[Ar]
 | n :: r,s=>by
  unfold Ar
  rw[B3 k r]
  rw[Nat.testBit_or,Nat.testBit_two_pow]
  by_cases h:n=k
  ·subst h;simp
  ·have:¬ k=n:=fun z=>h z.symm
   simp[h,this]
theorem DF (l r:List Nat)(s:Nat):Ar (l ++ r) s=Ar r (Ar l s):=by
 induction l generalizing s with
 | nil=>rfl
 | cons n t ih=>exact ih _
noncomputable def kg (l:List Nat):Nat->Nat
 | 0=>0
 | n + 1=>if n ∈ l then kg l n + 2 ^ n else kg l n
theorem BP (l:List Nat):∀ n,kg l n < 2 ^ n
 | 0=>by simp[kg]
 | n + 1=>by
  have:=BP l n
  unfold kg
  rw[Nat.pow_succ]
  split<;>omega
theorem mT (l:List Nat)(k:Nat):∀ n,(kg l n).testBit k=decide (k < n/\k ∈ l)
 | 0=>by simp[kg]
 | n + 1=>by
  have ih:=mT l k n
  have zT:=BP l n
  unfold kg
  by_cases hn:n ∈ l
  ·rw[if_pos hn,Nat.add_comm]
   rcases Nat.lt_trichotomy k n with h | h | h
   ·rw[Nat.testBit_two_pow_add_gt h,ih]
    simp[h,Nat.lt_succ_of_lt h]
   ·subst h
    rw[Nat.testBit_two_pow_add_eq,Nat.testBit_lt_two_pow zT]
    simp[hn]
   ·have hb:2 ^ n + kg l n < 2 ^ k:=by
     have:2 ^ (n + 1) <= 2 ^ k:=Nat.pow_le_pow_right (by decide) h
     rw[Nat.pow_succ]at this
     omega
    rw[Nat.testBit_lt_two_pow hb]
    have:¬ k < n + 1:=by omega
    simp[this]
  ·rw[if_neg hn,ih]
   by_cases h:k=n
   ·subst h;simp[hn]
   ·have:k < n↔k < n + 1:=by omega
    simp[this]
theorem E7 {l:List Nat}{n:Nat}(h:∀ k ∈ l,k < n):kg l n=Ar l 0:=by
 apply Nat.eq_of_testBit_eq
 intro k
 rw[mT,B3]
 by_cases hk:k ∈ l
 ·simp[hk,h k hk]
 ·simp[hk]
noncomputable def JE (m b:Nat):List Nat:=(List.range b).filter fun k=>m.testBit k
theorem bits_le {m b:Nat}(h:m < 2 ^ b):Builtin.Int.intBits (m:Int) <= b:=by
 unfold Builtin.Int.intBits
 by_cases h0:m=0
 ·subst h0;simp
 ·have e:((m:Int) == 0)=false:=by simp[h0]
  rw[e]
  simp only[Bool.false_eq_true,if_false,Int.natAbs_natCast]
  have:=(Nat.log2_lt h0).mpr h
  omega
theorem CK (m k:Nat):decide (Builtin.bitAnd ((m:Int) / 2 ^ k) 1=1)=m.testBit k:=by
 have e:((m:Int) / 2 ^ k)=((m / 2 ^ k:Nat):Int):=by
  rw[Int.natCast_ediv,Int.natCast_pow]
  rfl
 rw[e,show (1:Int)=((1:Nat):Int) from rfl,oX,Nat.testBit_eq_decide_div_mod_eq]
 rw[Nat.and_one_is_mod]
 congr 1
 exact propext ⟨fun z=>by exact_mod_cast z,fun z=>by exact_mod_cast z⟩
end Yd
namespace L2
open PySem PySem.Spec PyProof.Rows
noncomputable def ci (cells:List (Str × Addr)):List (Str × NameKind)->List (Str × Addr)->List (Str × Addr)
 | [],acc=>acc
 | (n,k) :: r,acc=>if k == .free then ci cells r ((n,(cells.lookup n).getD 0) :: acc) else ci cells r acc
theorem gc {scope:Scope}{env:Env}(h:∀ y ∈ scope.names,y.2 = .free->∃ c,env.cells.lookup y.1=some c) :
  closureFor scope env=pure (ci env.cells scope.names []):=by
 unfold closureFor
 have key:∀ (names:List (Str × NameKind))(acc:List (Str × Addr)),(∀ y ∈ names,y.2 = .free->∃ c,env.cells.lookup y.1=some c) ->
   (forIn names acc fun (x:Str × NameKind)(cs:List (Str × Addr))=>(match x with
    | (name,kind)=>if (kind == NameKind.free)=true then do
      let c ← cellOf env name
      pure (ForInStep.yield ((name,c) :: cs))
     else pure (ForInStep.yield cs):Sem (ForInStep (List (Str × Addr)))))=(pure (ci env.cells names acc):Sem (List (Str × Addr))):=by
  intro names
  induction names with
  | nil=>intro acc _;rfl
  | cons y r ih =>
   intro acc hy
   obtain⟨n,k⟩:=y
   rw[List.forIn_cons]
   by_cases hk:(k == NameKind.free)=true
   ·obtain⟨c,hc⟩:=hy (n,k) mem_cons_self (by simpa using hk)
    have e1:cellOf env n=pure c:=by
     unfold cellOf
     simp only[]at hc
     rw[hc]
    simp only[hk,if_true,e1,pure_bind]
    rw[ih _ fun z hz=>hy z (mem_cons_of_mem _ hz)]
    unfold ci
    simp only[]at hc
    rw[if_pos hk,hc]
    conv=>rhs;unfold ci
    rfl
   ·simp only[hk,Bool.false_eq_true,if_false,pure_bind]
    rw[ih _ fun z hz=>hy z (mem_cons_of_mem _ hz)]
    conv=>rhs;unfold ci
    rw[if_neg hk]
 exact(congrArg (fun (m:Sem (List (Str × Addr)))=>m >>= fun z=>pure z) (key scope.names [] h)).trans (pure_bind _ _)
theorem dH {cells:List (Str × Addr)}{x:Str}{c:Addr}:∀ (names:List (Str × NameKind))(acc:List (Str × Addr)),(∀ y ∈ names,y.2 = .free->∃ c,cells.lookup y.1=some c) ->
  (∀ c,acc.lookup x=some c->cells.lookup x=some c)->(ci cells names acc).lookup x=some c->cells.lookup x=some c
 | [],acc,_,ha,e=>ha c e
 | (n,k) :: r,acc,hn,ha,e=>by
  unfold ci at e
  have hr:=fun z hz=>hn z (mem_cons_of_mem _ hz)
  split at e
  ·rename_i hk
   refine dH r _ hr (fun c' e'=>?_) e
   rw[lookup_cons]at e'
   split at e'
   ·rename_i hx
    have BQ:x=n:=by simpa using hx
    subst BQ
    obtain⟨c0,hc0⟩:=hn (x,k) mem_cons_self (by simpa using hk)
    simp only[]at hc0
    rw[hc0]at e' ⊢
    exact e'
   ·exact ha c' e'
  ·exact dH r acc hr ha e
theorem eR {cells:List (Str × Addr)}{x:Str}:∀ (names:List (Str × NameKind))(acc:List (Str × Addr)),((x,NameKind.free) ∈ names∨∃ c,acc.lookup x=some c) ->
  ∃ c,(ci cells names acc).lookup x=some c
 | [],acc,h=>by
  rcases h with h | h
  ·cases h
  ·exact h
 | (n,k) :: r,acc,h=>by
  unfold ci
  split
  ·rename_i hk
   refine eR r _ ?_
   rcases h with h | ⟨c,h⟩
   ·rcases mem_cons.mp h with h | h
    ·refine .inr ⟨(cells.lookup n).getD 0,?_⟩
     injection h with h1 h2
     rw[lookup_cons,h1]
     simp
    ·exact .inl h
   ·refine .inr ?_
    rw[lookup_cons]
    split
    ·exact⟨_,rfl⟩
    ·exact⟨c,h⟩
  ·rename_i hk
   refine eR r _ ?_
   rcases h with h | h
   ·rcases mem_cons.mp h with h | h
    ·injection h with h1 h2
     subst h2
     exact absurd rfl hk
    ·exact .inl h
   ·exact .inr h
theorem gZ {env:Env}{x:Str}:∀ {names:List (Str × NameKind)},names.lookup x=some .free ->
  (names.map fun (n,k)=>if (k == NameKind.free && env.scope.kind == .function && env.kindOf n == some .cell) then (n,NameKind.cell) else (n,k)).lookup x=some .cell ∨
  (names.map fun (n,k)=>if (k == NameKind.free && env.scope.kind == .function && env.kindOf n == some .cell) then (n,NameKind.cell) else (n,k)).lookup x=some .free
 | [],h=>by simp at h
 | (n,k) :: r,h=>by
  have ih:=@gZ env x r
  rw[map_cons]
  cases hx:x == n with
  | true =>
   rw[lookup_cons,hx]at h
   cases h
   simp only[]
   split
   ·left;rw[lookup_cons,hx]
   ·right;rw[lookup_cons,hx]
  | false =>
   rw[lookup_cons,hx]at h
   simp only[]
   split
   ·rw[lookup_cons,hx];exact ih h
   ·rw[lookup_cons,hx];exact ih h
theorem fz {env:Env}{x:Str}{k:NameKind}(hk:k = .cell∨k = .free):∀ {names:List (Str × NameKind)},(∀ y ∈ names,y.2 ≠ .cell) ->
  (names.map fun (n,k)=>if (k == NameKind.free && env.scope.kind == .function && env.kindOf n == some .cell) then (n,NameKind.cell) else (n,k)).lookup x=some k->(x,NameKind.free) ∈ names
 | [],_,h=>by simp at h
 | (n,k') :: r,hc,h=>by
  have ih:=@fz env x k hk r fun y hy=>hc y (mem_cons_of_mem _ hy)
  rw[map_cons]at h
  simp only[]at h
  cases hx:x == n with
  | true =>
   have e:x=n:=by simpa using hx
   subst e
   split at h
   ·rename_i q
    have q':k' = .free:=by
     have:=(Bool.and_eq_true _ _ ▸ q:_/\_).1
     have:=(Bool.and_eq_true _ _ ▸ this:_/\_).1
     simpa using this
    rw[q']
    exact mem_cons_self
   ·rw[lookup_cons,hx]at h
    have e2:k' = k:=Option.some.inj h
    rcases hk with z | z
    ·exact absurd (e2.trans z) (hc (x,k') mem_cons_self)
    ·rw[e2,z];exact mem_cons_self
  | false =>
   split at h
   ·rw[lookup_cons,hx]at h;exact mem_cons_of_mem _ (ih h)
   ·rw[lookup_cons,hx]at h;exact mem_cons_of_mem _ (ih h)
section
variable {prog:Program}{w:World}{A:Around}{R:Result->Shared->Prop}{s:Shared}
noncomputable abbrev kR (ifs:List Expr)(env:Env):Sem Bool :=
 forIn ifs true fun c r=>if r=true then do let ok ← isTrue c env (eval c env);pure (ForInStep.yield ok) else pure (ForInStep.yield r)
theorem mZ {elt tg iter:Expr}{ifs:List Expr}{scope:Scope}{pos:Pos}{it acc:Value}{env:Env}(I:Nat->Shared->Prop)
  (turn:∀ n s,I n s->wpAny (model prog w) A (pyNext it) (fun r s1=>match r with
   | none=>R (.ok .next) s1
   | some v=>wpAny (model prog w) A (letOwnedTupleGo tg it v) (fun _ s2=>wpAny (model prog w) A (assign tg env v) (fun _ s3 =>
     wpAny (model prog w) A (kR ifs env) (fun ok s4 =>
      if ok=true then wpAny (model prog w) A (eval elt env) (fun x s5 =>
       wpAny (model prog w) A (call (.builtin "list.append") [acc,x]) (fun _ s6=>∃ m,m < n/\I m s6) (fun _ _=>False) s5) (fun _ _=>False) s4
      else ∃ m,m < n/\I m s4) (fun _ _=>False) s3) (fun _ _=>False) s2) (fun _ _=>False) s1) (fun _ _=>False) s)
  (n:Nat) (h:I n s):codeAny (model prog w) A (.compLoop (.ListComp elt [⟨tg,iter,ifs,0⟩] scope pos) 0 it acc env) R s:=by
 refine codeAny_loop rfl I (fun n s hI=>?_) n h
 have no:∀ {E':Value->Shared->Prop}(e:Value)(s':Shared),False->E' e s':=fun _ _ z=>z.elim
 show wpAny _ A (Sem.onRaise (compTurn (.ListComp elt [⟨tg,iter,ifs,0⟩] scope pos) 0 it acc env) fun x=>do
  noteFrame x env
  theTreesLotGoes x) _ _ s
 refine wpAny_noted ?_
 rw[compTurn_list]
 refine wpAny_bind (wpAny_standAt (wpAny_bind (wpAny_mono (turn n s hI) (fun r s1 h1=>?_) no)))
 cases r with
 | none=>exact wpAny_pure h1
 | some v =>
  refine wpAny_bind (wpAny_mono h1 (fun _ s2 h2=>?_) no)
  refine wpAny_bind (wpAny_mono h2 (fun _ s3 h3=>?_) no)
  refine wpAny_bind (wpAny_mono h3 (fun ok s4 h4=>?_) no)
  cases ok with
  | false=>exact wpAny_pure ⟨rfl,h4⟩
  | true =>
   refine wpAny_bind (wpAny_bind (wpAny_mono h4 (fun x s5 h5=>?_) no))
   exact wpAny_bind (wpAny_mono h5 (fun _ s6 h6=>wpAny_pure (wpAny_pure ⟨rfl,h6⟩)) no)
end
noncomputable def JF (X:Cx)(ifs:List Expr)(t:TT):Prop :=
 ∀ (pins:List (Addr × Obj))(s:Shared)(σ:St)(H:Hp)(Q:Bool->Hp->Prop),Inv X pins σ H s->t σ H Q->wpAny (model X.prog X.w) X.A (kR ifs X.env) (TP X pins σ Q) X.xe s
noncomputable def lN:TT:=fun _ H Q=>Q true H
theorem ck {X:Cx}:JF X [] lN:=fun _ _ _ H _ I h=>wpAny_pure ⟨H,I,h⟩
theorem cb {X:Cx}{c:Expr}{t:TT}(h:PT X c t):JF X [c] t:=fun pins s σ H Q I hw=>by
 simp only[kR,List.forIn_cons,List.forIn_nil,if_true]
 exact wpAny_bind (wpAny_bind (aW (h pins s σ H Q I hw) fun b s' hb=>wpAny_pure (wpAny_pure hb)))
structure As (N:List Str)(sc scope:Scope)(capN:List Str)(cap:List Nat):Prop where
 kind:scope.kind = .function
 Bd:∀ y ∈ scope.names,y.2 ≠ .cell
 loc:∀ y ∈ scope.names,y.2 = .local->scope.names.lookup y.1=some .local
 free:∀ y ∈ scope.names,y.2 = .free->sc.names.lookup y.1=some .cell∨sc.names.lookup y.1=some .free
 len:cap.length=capN.length
 cap:∀ p ∈ capN.zip cap,scope.names.lookup p.1=some .free/\N[p.2]? = some p.1
noncomputable abbrev ca (X:Cx)(scope:Scope)(N:List Str)(C:Addr)(s:Shared)(H:Hp)(fp:List Addr):Cx :=
 { X with N:=N,s₀:=s,H₀:=H,env:=compEnvC scope (ci X.env.cells scope.names []) C X.env,outer:=X.stack,stack:=X.stack,ex:=fp,fn:=fun _=>false,pn:=[],xe:=fun _ _=>False }
noncomputable def iJ (n:Nat)(cap:List Nat)(σ:St):St:=List.replicate n none ++ cap.map fun j=>(σ[j]?).join
theorem nh (n:Nat)(cap:List Nat)(σ:St):(iJ n cap σ).length=n + cap.length:=by simp[iJ]
section
variable {X:Cx}{pins:List (Addr × Obj)}{σ:St}{H:Hp}{s:Shared}{scope:Scope}{own capN:List Str}{cap:List Nat}{fp:List Addr}
theorem As.clos (B:As X.N X.env.scope scope capN cap)(ok:X.Ok):∀ y ∈ scope.names,y.2 = .free->∃ c,X.env.cells.lookup y.1=some c:=fun y hy hf=>ok.has y.1 (B.free y hy hf)
theorem As.cell (B:As X.N X.env.scope scope capN cap)(ok:X.Ok){x:Str}{c:Addr}(h:(ci X.env.cells scope.names []).lookup x=some c):X.env.cells.lookup x=some c :=
 dH scope.names [] (B.clos ok) (fun _ e=>by cases e) h
theorem As.locs (I:Inv X pins σ H s)(B:As X.N X.env.scope scope capN cap){h':Heap}(k:∀ x c v,X.env.cells.lookup x=some c->s.heap.IsCell c v->h'.IsCell c v)(C:Addr)(m0:Str->Option Value) :
  ∀ (i:Nat)(x:Str)(v:V),(own ++ capN)[i]? = some x->(iJ own.length cap σ)[i]? = some (some v)->∃ u,RelV v u/\Look (compEnvC scope (ci X.env.cells scope.names []) C X.env) h' m0 x u:=by
 intro i x v e1 e2
 have hi:own.length <= i:=by
  by_cases q:own.length <= i
  ·exact q
  ·unfold iJ at e2
   rw[getElem?_append_left (by simp;omega),List.getElem?_replicate,if_pos (by omega)]at e2
   cases e2
 have e1':capN[i - own.length]? = some x:=by
  rwa [getElem?_append_right hi]at e1
 unfold iJ at e2
 rw[getElem?_append_right (by simpa using hi),length_replicate,getElem?_map]at e2
 cases ej:cap[i - own.length]? with
 | none=>rw[ej]at e2;cases e2
 | some j =>
  rw[ej]at e2
  have Nu:(σ[j]?).join=some v:=Option.some.inj e2
  have e3':σ[j]? = some (some v):=by
   cases q:σ[j]? with
   | none=>rw[q]at Nu;cases Nu
   | some u=>rw[q]at Nu;exact congrArg some Nu
  have hz:(x,j) ∈ capN.zip cap:=by
   refine List.mem_iff_getElem?.mpr ⟨i - own.length,?_⟩
   rw[List.getElem?_zip_eq_some]
   exact⟨e1',ej⟩
  obtain⟨c1,c2⟩:=B.cap (x,j) hz
  have U2:(x,NameKind.free) ∈ scope.names:=PySem.mem_of_lookup c1
  have hX:=B.free _ U2 rfl
  obtain⟨m,hm,hl⟩:=I.loc
  obtain⟨u,ru,lk⟩:=hl j x v c2 e3' (hX.elim (fun z => .inr (.inl z)) fun z => .inr (.inr z))
  refine⟨u,ru, .inr ⟨gZ c1,?_⟩⟩
  rcases lk with ⟨q,_⟩ | ⟨_,c,ec,ic⟩
  ·have q':X.env.scope.names.lookup x=some .local:=q
   rcases hX with z | z
   ·rw[z]at q';cases q'
   ·rw[z]at q';cases q'
  ·obtain⟨c',U3⟩:=eR (cells:=X.env.cells) (x:=x) scope.names [] (.inl U2)
   have:=B.cell I.ok U3
   rw[ec]at this
   cases this
   exact⟨c,U3,k x c _ ec ic⟩
theorem Inv.blk {h4:Heap}{tk:Nat}{m0:Str->Option Value}{C:Addr}(I:Inv X pins σ H s)(B:As X.N X.env.scope scope capN cap)(hC:s.heap.objs.size <= C)(k:∀ b o,s.heap.get? b=some o->h4.get? b=some o)
  (hn:h4.Ns C m0) (hf:∀ b ∈ fp,fX X pins H b) (zT:∀ b ∈ fp,b < s.heap.objs.size) :
  Inv (ca X scope (own ++ capN) C s H fp) [] (iJ own.length cap σ) H { s with heap:=h4,toks:=tk }:=by
 have Pj:∀ b ∈ fp,b ∉ jK X.stack:=fun b hb z=>by
  obtain⟨_,f1,f2,_⟩:=hf b hb
  rcases mem_cons.mp (I.Ax b z) with e | e
  ·exact f1 e
  ·exact f2 e
 have hinv:∀ x,((relabel scope X.env).names.lookup x=some .cell∨(relabel scope X.env).names.lookup x=some .free)->(x,NameKind.free) ∈ scope.names:=fun x hx=>by
  rcases hx with q | q
  ·exact fz (.inl rfl) B.Bd q
  ·exact fz (.inr rfl) B.Bd q
 refine⟨⟨I.ok.mod,B.kind,I.ok.glob,I.ok.blt,hC,fun x y c h1 h2=>I.ok.inj x y c (B.cell I.ok h1) (B.cell I.ok h2),fun x hx=>eR scope.names [] (.inl (hinv x hx)),fun _ _ z=>absurd z Bool.false_ne_true,I.ok.hd,I.ok.frames, .inl rfl,
  fun b hb=>⟨ne_of_lt (lt_of_lt_of_le (zT b hb) hC),fun x c e=>(hf b hb).2.2.2.2.1 x c (B.cell I.ok e)⟩,I.bs,le_trans I.ok.Dx I.sz,fun b o e hb=>?_,fun b hb=>Pj b hb,I.stack,I.Bv⟩,
  rfl,I.bare,Un.kept k,⟨m0,hn,fun i x v e1 e2 _=>B.locs I (fun _ _ _ _ q=>q.keeps k) C m0 i x v e1 e2⟩,fun x c e=>?_,I.zp.fresh hC,fun x c e=>I.zU x c (B.cell I.ok e),fun p hp=>absurd (show p ∈ ([]:List (Addr × Obj)) from hp) (by simp),I.zp.kept k,?_⟩
 ·rcases (hf b hb).2.2.2.1 with z | z
  ·exact I.ok.Cz b o e z
  ·exact absurd (lt_of_lt_of_le (lt_size e) (le_trans I.ok.Dx z)) (lt_irrefl _)
 ·obtain⟨v,q⟩:=I.cell x c (B.cell I.ok e)
  exact⟨v,q.keeps k⟩
 ·show(iJ own.length cap σ).length=(own ++ capN).length
  rw[nh,length_append,B.len]
theorem Inv.reset {pins':List (Addr × Obj)}{σ':St}{H':Hp}{s':Shared}{C:Addr}(I:Inv X pins σ H s)(B:As X.N X.env.scope scope capN cap)(hf:∀ b ∈ fp,fX X pins H b)(J:Inv (ca X scope (own ++ capN) C s H fp) pins' σ' H' s') :
  Inv (ca X scope (own ++ capN) C s H fp) pins' (iJ own.length cap σ) H' s':=by
 obtain⟨m,hn,_⟩:=J.loc
 refine⟨J.ok,J.os,J.bare,J.base,⟨m,hn,fun i x v e1 e2 _=>?_⟩,J.cell,J.free,J.zU,J.pin,J.zp,?_⟩
 ·refine B.locs I (fun y c v' ec ic=>?_) C m i x v e1 e2
  obtain⟨o,ho,hd⟩:=ic
  have hx:c ∉ fp:=fun z=>(hf c z).2.2.2.2.1 y c ec rfl
  obtain⟨sl,e⟩:=J.base.any ho (I.zU y c ec) hx
  exact⟨_,e,hd⟩
 ·show(iJ own.length cap σ).length=(own ++ capN).length
  rw[nh,length_append,B.len]
theorem Inv.adopt {D:Addr}{o:HO}(I:Inv X pins σ H s)(hn:H D=none)(h0:X.s₀.heap.objs.size <= D)(hL:D ≠ X.env.locals)(hc:∀ x c,X.env.cells.lookup x=some c->c ≠ D)(hp:∀ p ∈ X.pn ++ pins,p.1 ≠ D)
  (new:zL X.prog X.w (upd H D o) s.heap D o):Inv X pins σ (upd H D o) s:=by
 have ne:∀ b u,H b=some u->b ≠ D:=fun b u e=>ag e hn
 refine⟨I.ok,I.os,I.bare,⟨I.base.keep,I.base.slot,fun b ob e n hx=>?_,I.base.there,fun b xs e=>?_,fun b ob u e=>?_,fun b ps e=>?_⟩,I.loc,I.cell,?_,fun x c e=>?_,fun p BR=>?_,fun b u e=>?_,I.len⟩
 ·rw[ae (ne_of_lt (lt_of_lt_of_le (lt_size e) h0))]
  exact I.base.free b ob e n hx
 ·have q:=I.base.B1 b xs e
  rw[ae (ne b _ q)];exact q
 ·have q:=I.base.Bo b ob u e
  rw[ae (ne b _ q)];exact q
 ·obtain⟨more,q⟩:=I.base.Bp b ps e
  exact⟨more,by rw[ae (ne b _ q)];exact q⟩
 ·rw[ae (Ne.symm hL)];exact I.free
 ·rw[ae (hc x c e)];exact I.zU x c e
 ·obtain⟨e,n,r⟩:=I.pin p BR
  exact⟨e,by rw[ae (hp p BR)];exact n,r⟩
 ·by_cases hb:b=D
  ·subst hb;rw[ac]at e;cases e;exact new
  ·rw[ae hb]at e
   exact(I.zp b u e).AA (fun _ _ _ q=>q) (fun c q=>by rw[ae (ne c _ q)];exact q) fun c xs q=>by rw[ae (ne c _ q)];exact q
end
noncomputable def c9 (J:It)(g:TG)(tt:TT)(te:TE)(σ0:St)(Q:VK)(H1:Hp):Prop:=∃ W:Nat->Nat->List V->Hp->Prop,(∃ m,W 0 m [] H1)/\∀ i m acc H,W i m acc H ->
 acc.length < sizeLine/\((J.stop i H/\∀ D,H D=none->Q (.ref D) (upd H D (.lst acc)))∨(J.go i H/\∃ N:List V->Hp->Prop,(∀ Aa H',N Aa H'->∃ m',m' < m/\W (i + 1) m' Aa H') /\
  ∀ x H',J.E2 i H x H'->g x σ0 H' fun σ2 H2=>tt σ2 H2 fun b H3=>if b=true then te σ2 H3 fun y H4=>N (acc ++ [y]) H4 else N acc H3))
noncomputable def wB (wi:TI)(g:TG)(tt:TT)(te:TE)(n:Nat)(cap:List Nat):TE:=fun σ H Q=>wi σ H fun J H1=>c9 J g tt te (iJ n cap σ) Q H1
section
variable {X:Cx}{tg iter elt:Expr}{ifs:List Expr}{scope:Scope}{pos:Pos}{wi:TI}{g:TG}{tt:TT}{te:TE}{own capN:List Str}{cap:List Nat}
noncomputable abbrev lz (zl:List Value)(k:Nat):Obj:={ cls := .type "list",data := .seq zl.toArray k }
theorem mW {pins:List (Addr × Obj)}{s:Shared}{σ:St}{H:Hp}{Q:VK}{it:Addr}{fp:List Addr}{tn:Nat->Heap->Prop}{J:It}(B:As X.N X.env.scope scope capN cap)(hc:X.calm=true)
  (hb:∀ (C:Addr)(s:Shared)(H:Hp)(fp:List Addr),PG (ca X scope (own ++ capN) C s H fp) tg g/\JF (ca X scope (own ++ capN) C s H fp) ifs tt/\PE (ca X scope (own ++ capN) C s H fp) elt te)
  (I:Inv X pins σ H s) (T:pb X.prog X.w X.K tg J fp it tn) (st:tn 0 s.heap) (hf:∀ b ∈ fp,fX X pins H b) {W:Nat->Nat->List V->Hp->Prop} {m0:Nat} (w0:W 0 m0 [] H)
  (turn:∀ i m acc H,W i m acc H->acc.length < sizeLine/\((J.stop i H/\∀ D,H D=none->Q (.ref D) (upd H D (.lst acc)))∨(J.go i H/\∃ N:List V->Hp->Prop,(∀ Aa H',N Aa H'->∃ m',m' < m/\W (i + 1) m' Aa H') /\
   ∀ x H',J.E2 i H x H'->g x (iJ own.length cap σ) H' fun σ2 H2=>tt σ2 H2 fun b H3=>if b=true then te σ2 H3 fun y H4=>N (acc ++ [y]) H4 else N acc H3)))
  {RR:Value->Addr->Result->Shared->Prop}
  (fin:∀ (D C:Addr)(H':Hp)(s':Shared),Q (.ref D) H'->Inv X pins σ H' s'->(∃ m,s'.heap.Ns C m)->H' C=none->C ≠ X.env.locals->X.s₀.heap.objs.size <= C->(∀ x c,X.env.cells.lookup x=some c->c ≠ C)->(∀ p ∈ X.pn ++ pins,p.1 ≠ C) ->
   RR (.ref D) C (.ok .next) s') :
  wpAny (model X.prog X.w) X.A (newList []) (fun acc s3=>wpAny (model X.prog X.w) X.A (newFunctionEnv scope X.env.globals (ci X.env.cells scope.names []) [] X.env.qual none .none (some X.env)) (fun JG s4 =>
   codeAny (model X.prog X.w) X.A (.compStart (.ListComp elt [⟨tg,iter,ifs,0⟩] scope pos) 0 (.ref it) acc { JG with scope:=relabel scope X.env }) (RR acc JG.locals) s4) X.xe s3) X.xe s:=by
 refine wpAny_newObj_type (wpAny_newFunctionEnv B.Bd (by intro y hy;simp at hy) (fun h1 Ir Ft=>?_) B.kind)
 dsimp only at Ir Ft ⊢
 generalize GF:s.heap.push { cls := .type "list",dict:=none,data := .seq ([]:List Value).toArray } = H2 at Ir Ft ⊢
 have hCs:H2.objs.size=s.heap.objs.size + 1:=by rw[← GF,size_push]
 have C5:s.heap.objs.size <= H2.objs.size:=by omega
 have E8:∀ b ∈ fp,b < s.heap.objs.size:=fun b hb=>by
  obtain⟨o,e,_⟩:=T.obj 0 s.heap st b hb
  exact lt_size e
 have old:∀ b o,s.heap.get? b=some o->h1.get? b=some o:=fun b o e =>
  Ft.extBut b o (ne_of_lt (lt_of_lt_of_le (lt_size e) C5)) (Heap.get?_push_of_some _ (GF ▸ Heap.get?_push_of_some _ e))
 have Nv:s.heap.objs.size ≠ H2.objs.size:=by omega
 have Pk:h1.get? s.heap.objs.size=some (lz [] 0):=Ft.extBut _ _ Nv (Heap.get?_push_of_some _ (GF ▸ Heap.get?_push_size _ rfl))
 have I4:Inv (ca X scope (own ++ capN) H2.objs.size s H fp) [] (iJ own.length cap σ) H { s with heap:=h1,toks:=s.toks + ([]:List (Str × Value)).length }:=I.blk (own:=own) B C5 old Ir hf E8
 have Pj:∀ b ∈ fp,b ∉ jK X.stack:=fun b hb z=>by
  obtain⟨_,f1,f2,_⟩:=hf b hb
  rcases mem_cons.mp (I.Ax b z) with e | e
  ·exact f1 e
  ·exact f2 e
 have E9:∀ b ∈ jK X.stack,b < s.heap.objs.size:=fun b hb=>by
  obtain⟨_,o,ho,_⟩:=I.stack.mem hb
  exact lt_size ho
 have C6:∀ x c,X.env.cells.lookup x=some c->c < s.heap.objs.size:=fun x c e=>by
  obtain⟨v,q⟩:=I.cell x c e
  exact q.lt
 have Fu:∀ (H':Hp)(h':Heap)(zl:List Value)(k:Nat),H' s.heap.objs.size=none->h'.get? s.heap.objs.size=some (lz zl k) ->
   ∀ p ∈ [(s.heap.objs.size,lz zl k)],h'.get? p.1=some p.2/\H' p.1=none/\p.1 ≠ (ca X scope (own ++ capN) H2.objs.size s H fp).env.locals/\p.1 ∉ (ca X scope (own ++ capN) H2.objs.size s H fp).fs/\∀ v,p.2.data ≠ .cell v:=fun H' h' zl k hn he p hp=>by
  have e:p=(s.heap.objs.size,lz zl k):=by simpa using hp
  subst e
  exact⟨he,hn,Nv,fun z=>absurd (E9 _ z) (lt_irrefl _),fun v z=>by cases z⟩
 have stat:∀ (H':Hp)(zl:List Value)(k:Nat),(∀ b ∈ fp,H' b=none)->∀ b ∈ fp,fX (ca X scope (own ++ capN) H2.objs.size s H fp) [(s.heap.objs.size,lz zl k)] H' b:=fun H' zl k hn b hb =>
  ⟨hn b hb,ne_of_lt (lt_of_lt_of_le (E8 b hb) C5),Pj b hb, .inl hb,fun x c e=>(hf b hb).2.2.2.2.1 x c (B.cell I.ok e),fun p hp=>by
   have e:p=(s.heap.objs.size,lz zl k):=by simpa using hp
   subst e
   exact ne_of_gt (E8 b hb)⟩
 have loop:∀ s3:Shared,s3 = { s with heap:=h1,toks:=s.toks + ([]:List (Str × Value)).length } ->
   codeAny (model X.prog X.w) X.A (.compLoop (.ListComp elt [⟨tg,iter,ifs,0⟩] scope pos) 0 (.ref it) (.ref s.heap.objs.size) (compEnvC scope (ci X.env.cells scope.names []) H2.objs.size X.env))
    (RR (.ref s.heap.objs.size) H2.objs.size) s3:=by
  rintro s3 rfl
  refine mZ (fun n s'=>∃ i acc zl k H',Inv (ca X scope (own ++ capN) H2.objs.size s H fp) [(s.heap.objs.size,lz zl k)] (iJ own.length cap σ) H' s'/\tn i s'.heap/\(∀ b ∈ fp,H' b=none)/\Vals acc zl/\W i n acc H') ?_ m0
   ⟨0,[],[],0,H,I4.Am (Fu _ _ _ _ (I.zp.fresh (Nat.le_refl _)) Pk),T.keep 0 s.heap h1 st fun b _ o e=>old b o e,fun b hb=>(hf b hb).1, .nil,w0⟩
  rintro n s5 ⟨i,acc,zl,k,H5,I5,Ik,Nn,rv,w5⟩
  obtain⟨hsz,JH⟩:=turn i n acc H5 w5
  obtain⟨hgt,Eh,hte⟩:=hb H2.objs.size s H fp
  rcases JH with ⟨stop,q⟩ | ⟨go,N,hN,step⟩
  ·refine aW (T.done (ca X scope (own ++ capN) H2.objs.size s H fp) rfl rfl rfl hc i _ s5 _ H5 _ I5 (stat H5 zl k Nn) Ik stop) fun r s6 zk=>?_
   obtain⟨hr,I6⟩:=zk
   subst hr
   obtain⟨hD,JI,_⟩:=I6.pin (s.heap.objs.size,lz zl k) (by simp)
   have J1:Inv X pins σ H5 s6:=I.Fo (s':=s6) (ch:=fp) I6.os I6.base I6.zp I6.bare fun b hb=>by
    obtain⟨_,f1,_,f3,f4,f5⟩:=hf b hb
    exact⟨f3,f1,f4,f5⟩
   have J2:Inv X pins σ (upd H5 s.heap.objs.size (.lst acc)) s6:=J1.adopt JI I.sz (ne_of_gt I.lt) (fun x c e=>ne_of_lt (C6 x c e)) (fun p hp=>ne_of_lt (lt_size (I.pin p hp).1)) ⟨le_of_lt hsz,zl,k,rv,hD⟩
   obtain⟨mC,JJ,_⟩:=I6.loc
   refine fin _ _ _ s6 (q _ JI) J2 ⟨mC,JJ⟩ (by rw[ae (Ne.symm Nv)];exact I6.free) (ne_of_gt (lt_of_lt_of_le I.lt C5)) (le_trans I.sz C5) (fun x c e=>ne_of_lt (lt_of_lt_of_le (C6 x c e) C5)) fun p hp =>
    ne_of_lt (lt_of_lt_of_le (lt_size (I.pin p hp).1) C5)
  ·refine aW (T.item (ca X scope (own ++ capN) H2.objs.size s H fp) rfl rfl rfl hc i _ s5 _ H5 _ I5 (stat H5 zl k Nn) Ik go) fun r s6 zk=>?_
   obtain⟨u,hr,h6⟩:=zk
   subst hr
   refine aW h6 fun _ s7 zk=>?_
   obtain⟨x,H7,I7,r7,y7,Pl,fr7⟩:=zk
   have I7':=I7.pinned (stat H7 zl k fr7) (T.obj _ _ Pl)
   refine aW (hgt _ s7 _ H7 x u _ I7' r7 (step x H7 y7)) fun _ s8 zk=>?_
   obtain⟨σ8,H8,I8,q8⟩:=zk
   refine aW (Eh _ s8 σ8 H8 _ I8 q8) fun b s9 zk=>?_
   obtain⟨H9,I9,q9⟩:=zk
   have U4:∀ {H':Hp}{s':Shared}{σ':St},Inv (ca X scope (own ++ capN) H2.objs.size s H fp) (eC fp s7.heap) σ' H' s'->tn (i + 1) s'.heap/\∀ b ∈ fp,H' b=none:=fun {H' s' σ'} K=>by
    refine⟨T.keep _ _ _ Pl fun b hb o e=>(K.pin (b,o) (eJ hb e)).1,fun b hb=>?_⟩
    obtain⟨o,e,_⟩:=T.obj _ _ Pl b hb
    exact(K.pin (b,o) (eJ hb e)).2.1
   cases b with
   | false =>
    rw[if_neg Bool.false_ne_true]
    obtain⟨m',hm,w9⟩:=hN acc H9 (by simpa using q9)
    have K9:Inv (ca X scope (own ++ capN) H2.objs.size s H fp) (eC fp s7.heap) σ8 H9 s9:=I9.Am fun p hp=>I9.pin p (mem_append_right _ (mem_append_right _ hp))
    obtain⟨t9,f9⟩:=U4 K9
    exact⟨m',hm,i + 1,acc,zl,k,H9,I.reset B hf I9.AM,t9,f9,rv,w9⟩
   | true =>
    rw[if_pos rfl]
    have q9':te σ8 H9 fun y H4=>N (acc ++ [y]) H4:=by simpa using q9
    refine aW (hte _ s9 σ8 H9 _ I9 q9') fun yv Pm zk=>?_
    obtain⟨y,EA,Pn,r10,q10⟩:=zk
    obtain⟨hD,JI,_⟩:=Pn.pin (s.heap.objs.size,lz zl k) (by simp)
    have hlen:=rv.length
    refine wpAny_list_append_plain ⟨k,hD⟩ (fun h' Bj GG=>?_) (by rw[size_toArray];omega)
    obtain⟨k',hD'⟩:=Bj
    obtain⟨m',hm,w10⟩:=hN (acc ++ [y]) EA q10
    have K10:Inv (ca X scope (own ++ capN) H2.objs.size s H fp) (eC fp s7.heap) σ8 EA Pm:=Pn.Am fun p hp=>Pn.pin p (mem_append_right _ (mem_append_right _ hp))
    have U5:Inv (ca X scope (own ++ capN) H2.objs.size s H fp) (eC fp s7.heap) σ8 EA { Pm with heap:=h' }:=K10.turned (t':=Pm.toks) (it:=s.heap.objs.size) (fun b o hb e=>(GG.2 b hb).trans e) JI Nv (.inr (Nat.le_refl _))
     (fun x c e=>ne_of_lt (C6 x c (B.cell I.ok e))) fun p hp=>by
      obtain⟨hb,_⟩:=kB (show p ∈ eC fp s7.heap from hp)
      exact ne_of_lt (E8 p.1 hb)
    obtain⟨t11,Nw⟩:=U4 U5
    refine⟨m',hm,i + 1,acc ++ [y],zl ++ [yv],k',EA,?_,t11,Nw,rv.append (.cons r10 .nil),w10⟩
    refine I.reset B hf (U5.Am (Fu _ _ _ _ JI ?_))
    show h'.get? s.heap.objs.size=some { cls := .type "list",data := .seq (zl ++ [yv]).toArray k' }
    rw[show(zl ++ [yv]).toArray=zl.toArray.push yv by simp]
    exact hD'
 exact codeAny_compStart_list (loop _ rfl) (T.self X.A 0 _ _ _ (T.keep 0 s.heap h1 st fun b _ o e=>old b o e) (loop _ rfl))
theorem aT (B:As X.N X.env.scope scope capN cap)(hc:X.calm=true)(hi:PI X tg iter wi)
  (hb:∀ (C:Addr)(s:Shared)(H:Hp)(fp:List Addr),PG (ca X scope (own ++ capN) C s H fp) tg g/\JF (ca X scope (own ++ capN) C s H fp) ifs tt/\PE (ca X scope (own ++ capN) C s H fp) elt te)
  (hs:autoParam (∀ x,foldedSetIterable iter X.env x=pure x) ψ):PE X (.ListComp elt [⟨tg,iter,ifs,0⟩] scope pos) (wB wi g tt te own.length cap):=by
 intro pins s σ H Q I h
 rw[eval_ListComp]
 refine wpAny_comprehension_free (use:=none) rfl hs (gc (B.clos I.ok)) B.kind B.loc (aW (hi pins s σ H _ I h) fun v s1 h1=>aW h1 fun Nm s2 h2=>?_)
 obtain⟨it,fp,tn,J,H2,e,I2,T,Js,f2,W,⟨m0,w0⟩,turn⟩:=h2
 subst e
 refine mW (own:=own) B hc hb I2 T Js f2 w0 turn (RR:=fun acc C=>compPost (model X.prog X.w) X.A X.xe none (EP X pins σ Q) acc C) fun D C H' s' q J2 ⟨mC,JJ⟩ fC n1 n2 n3 n4=>?_
 refine⟨mC,JJ,fun h' Ft=>⟨.ref D,H',?_,rfl,q⟩⟩
 exact J2.turned (t':=s'.toks) (it:=C) (fun b o hb e=>(Ft.2 b hb).trans e) fC n1 (.inr n2) n3 n4
theorem j6 {i:Nat}{x:Str}{px:Pos}{JK:Pos}(B:As X.N X.env.scope scope capN cap)(hc:X.calm=true)(hN:X.N.Nodup)(hx:X.N[i]? = some x)(hl:X.env.scope.names.lookup x=some .local)(hi:PI X tg iter wi)
  (hb:∀ (C:Addr)(s:Shared)(H:Hp)(fp:List Addr),PG (ca X scope (own ++ capN) C s H fp) tg g/\JF (ca X scope (own ++ capN) C s H fp) ifs tt/\PE (ca X scope (own ++ capN) C s H fp) elt te)
  (hsw:autoParam (swapsWith (.ListComp elt [⟨tg,iter,ifs,0⟩] scope pos) (some (.Name x px)) JK.line X.env=pure true) η)
  (hs:autoParam (∀ x,foldedSetIterable iter X.env x=pure x) ψ):PS X (.Assign [.Name x px] (.ListComp elt [⟨tg,iter,ifs,0⟩] scope pos) JK) (xq (wB wi g tt te own.length cap) (dD i)):=by
 intro pins s σ H D0 I h
 rw[exec_Assign_Name_used _ _ _ _ hsw]
 refine wpAny_bind (wpAny_standAt (wpAny_bind ?_))
 show wpAny _ X.A (do
  let _ ← comprehension (.ListComp elt [⟨tg,iter,ifs,0⟩] scope pos) scope X.env _ (newList []) false (eval iter X.env) (some (assign (.Name x px) X.env))) _ _ s
 refine wpAny_bind (wpAny_mono (wpAny_comprehension_free (use:=some (assign (.Name x px) X.env)) (Q:=fun _ s'=>SP X pins D0 .next s') rfl hs (gc (B.clos I.ok)) B.kind B.loc
  (aW (hi pins s σ H _ I h) fun v s1 h1=>aW h1 fun Nm s2 h2=>?_)) (fun _ s' hq=>wpAny_pure (wpAny_pure hq)) fun _ _ e=>e)
 obtain⟨it,fp,tn,J,H2,e,I2,T,Js,f2,W,⟨m0,w0⟩,turn⟩:=h2
 subst e
 refine mW (own:=own) (Q:=fun x H1=>dD i x σ H1 D0.nx) B hc hb I2 T Js f2 w0 turn (RR:=fun acc C=>compPost (model X.prog X.w) X.A X.xe (some (assign (.Name x px) X.env)) (fun _ s'=>SP X pins D0 .next s') acc C) fun D C H' s' q J2 ⟨mC,JJ⟩ fC n1 n2 n3 n4=>?_
 show wpAny _ X.A (assign (.Name x px) X.env (.ref D)) _ _ s'
 refine wpAny_assign_Name (kz J2 hN hx (.inl hl) (show RelV (.ref D) (.ref D) from rfl) (fun DB J3 zk=>?_) (.inr hl))
 obtain⟨a,Ft,ha⟩:=zk
 have hCa:C ≠ a:=by
  rcases ha with z | z
  ·rw[z];exact n1
  ·exact(n3 x a z).symm
 refine⟨mC,JJ.sameBut Ft hCa,fun h' GG=>⟨_,H',?_,q⟩⟩
 exact J3.turned (t':=DB.toks) (it:=C) (fun b o hb e=>(GG.2 b hb).trans e) fC n1 (.inr n2) n3 n4
end
mutual
inductive jX (K:Frag)(H:Hp):V->PyData->Prop
 | zD:jX K H .zD .none
 | bl (b:Bool):jX K H (.bl b) (.bool b)
 | int (i:Int):jX K H (.int i) (.int i)
 | str (x:Str):jX K H (.str x) (.str x)
 | lst {a:Addr} {xs:List V} {ds:List PyData}:zj K H a xs->iW K H xs ds->jX K H (.ref a) (.list ds)
 | tup {a:Addr} {xs:List V} {ds:List PyData}:zt K H a xs->iW K H xs ds->jX K H (.ref a) (.tuple ds)
inductive iW (K:Frag)(H:Hp):List V->List PyData->Prop
 | nil:iW K H [] []
 | cons {x:V} {d:PyData} {xs:List V} {ds:List PyData}:jX K H x d->iW K H xs ds->iW K H (x :: xs) (d :: ds)
end
section
variable {X:Cx}{pins:List (Addr × Obj)}{σ:St}{H:Hp}{s:Shared}
mutual
theorem Inv.den (I:Inv X pins σ H s):∀ {x:V}{d:PyData}{u:Value},jX X.K H x d->RelV x u->∃ as,Reads s.heap u d as
 | _,_,_, .zD,r=>by cases r;exact⟨_, .none⟩
 | _,_,_, .bl b,r=>by cases r;exact⟨_, .bool b⟩
 | _,_,_, .int i,r=>by obtain⟨t,rfl⟩:=r;exact⟨_, .int i t⟩
 | _,_,_, .str x,r=>by obtain⟨t,rfl⟩:=r;exact⟨_, .str x t⟩
 | _,_,_, .lst hq hd,r=>by
  cases r
  obtain⟨zl,rv,⟨o,n,e,hc,_,Po⟩,_⟩:=I.list hq
  obtain⟨as,q⟩:=I.GH hd rv
  exact⟨_, .list e hc Po (by simpa using q)⟩
 | _,_,_, .tup hq hd,r=>by
  cases r
  obtain⟨zl,rv,⟨o,e,hc,n,Po⟩,_⟩:=I.tuple hq
  obtain⟨as,q⟩:=I.GH hd rv
  exact⟨_, .tuple e hc Po (by simpa using q)⟩
theorem Inv.GH (I:Inv X pins σ H s):∀ {xs:List V}{ds:List PyData}{us:List Value},iW X.K H xs ds->Vals xs us->∃ as,ReadsAll s.heap us ds as
 | _,_,_, .nil, .nil=>⟨_, .nil⟩
 | _,_,_, .cons hd hr, .cons r rr=>by
  obtain⟨as,q⟩:=I.den hd r
  obtain⟨bs,q'⟩:=I.GH hr rr
  exact⟨_, .cons q q'⟩
end
noncomputable def JL (K:Frag):R2:=fun x y H Q=>∃ da db,jX K H x da/\jX K H y db/\SeqAt.shaped da=true/\SeqAt.shaped db=true/\Q (.bl (PyData.eqv da db)) H
noncomputable def xU (K:Frag):R2:=fun x y H Q=>∃ da db,jX K H x da/\jX K H y db/\SeqAt.shaped da=true/\SeqAt.shaped db=true/\Q (.bl (!PyData.eqv da db)) H
end
section
variable {X:Cx}
theorem jA (hu:X.A.units + 64 < cLine):dI X (compareOp .Eq) (JL X.K):=by
 intro pins s σ H x y v u Q I rx ry h
 obtain⟨da,db,h1,h2,h3,h4,q⟩:=h
 obtain⟨as,r1⟩:=I.den h1 rx
 obtain⟨bs,r2⟩:=I.den h2 ry
 exact SeqAt.compareEq_shaped r1 r2 h3 h4 hu ⟨.bl _,H,I,rfl,q⟩
theorem i7 (hu:X.A.units + 64 < cLine):dI X (compareOp .NotEq) (xU X.K):=by
 intro pins s σ H x y v u Q I rx ry h
 obtain⟨da,db,h1,h2,h3,h4,q⟩:=h
 obtain⟨as,r1⟩:=I.den h1 rx
 obtain⟨bs,r2⟩:=I.den h2 ry
 exact SeqAt.compareNe_shaped r1 r2 h3 h4 hu ⟨.bl _,H,I,rfl,q⟩
theorem kJ {K:Frag}{H:Hp}:∀ ns:List Int,iW K H (ns.map V.int) (ns.map PyData.int)
 | [] => .nil
 | n :: r => .cons (.int n) (kJ r)
theorem ij {K:Frag}{H:Hp}{a:Addr}{ns:List Int}(h:zj K H a (ns.map V.int)):jX K H (.ref a) (.list (ns.map PyData.int)) := .lst h (kJ ns)
noncomputable def Pp (K:Frag):R2:=fun x y H Q=>∃ (p q:Addr)(ns ms:List Int),x = .ref p/\y = .ref q/\zj K H p (ns.map V.int)/\zj K H q (ms.map V.int)/\Q (.bl (decide (ns=ms))) H
noncomputable def Pq (K:Frag):R2:=fun x y H Q=>∃ (p q:Addr)(ns ms:List Int),x = .ref p/\y = .ref q/\zj K H p (ns.map V.int)/\zj K H q (ms.map V.int)/\Q (.bl (!decide (ns=ms))) H
theorem yd (hu:X.A.units + 64 < cLine):dI X (compareOp .Eq) (Pp X.K):=by
 intro pins s σ H x y v u Q I rx ry h
 obtain⟨p,q,ns,ms,rfl,rfl,h1,h2,q⟩:=h
 refine jA hu pins s σ H _ _ v u Q I rx ry ⟨_,_,ij h1,ij h2,PySem.W.shaped_ints ns,PySem.W.shaped_ints ms,?_⟩
 simp only[PyData.eqv,PySem.W.ked_eqvAll]
 exact q
theorem yb (hu:X.A.units + 64 < cLine):dI X (compareOp .NotEq) (Pq X.K):=by
 intro pins s σ H x y v u Q I rx ry h
 obtain⟨p,q,ns,ms,rfl,rfl,h1,h2,q⟩:=h
 refine i7 hu pins s σ H _ _ v u Q I rx ry ⟨_,_,ij h1,ij h2,PySem.W.shaped_ints ns,PySem.W.shaped_ints ms,?_⟩
 simp only[PyData.eqv,PySem.W.ked_eqvAll]
 exact q
noncomputable def Pr (K:Frag):List V->Hp->VK->Prop:=fun xs H Q =>
 (∃ i,xs=[.int i, .ty "int"]/\Q (.bl true) H)∨(∃ i,xs=[.int i, .ty "bool"]/\Q (.bl false) H)∨(∃ p ys,xs=[.ref p, .ty "list"]/\zj K H p ys/\Q (.bl true) H)∨(∃ p ys,xs=[.ref p, .ty "tuple"]/\zt K H p ys/\Q (.bl true) H)
theorem ng:dF X (.builtin "isinstance") (Pr X.K):=by
 intro pins s σ H xs us Q I r h
 rcases h with ⟨i,rfl,q⟩ | ⟨i,rfl,q⟩ | ⟨p,ys,rfl,hq,q⟩ | ⟨p,ys,rfl,hq,q⟩
 ·cases r with
  | cons r1 r2 =>
   cases r2 with
   | cons r2 r3 =>
    cases r3
    obtain⟨t,rfl⟩:=r1
    cases r2
    exact IsiPair.int_int ⟨.bl true,H,I,rfl,q⟩
 ·cases r with
  | cons r1 r2 =>
   cases r2 with
   | cons r2 r3 =>
    cases r3
    obtain⟨t,rfl⟩:=r1
    cases r2
    exact IsiPair.int_bool ⟨.bl false,H,I.tok _,rfl,q⟩
 ·cases r with
  | cons r1 r2 =>
   cases r2 with
   | cons r2 r3 =>
    cases r3
    cases r1
    cases r2
    obtain⟨zl,rv,⟨o,n,e,hc,_⟩,_⟩:=I.list hq
    exact IsiPair.list_list e hc ⟨.bl true,H,I,rfl,q⟩
 ·cases r with
  | cons r1 r2 =>
   cases r2 with
   | cons r2 r3 =>
    cases r3
    cases r1
    cases r2
    obtain⟨zl,rv,⟨o,e,hc,_⟩,_⟩:=I.tuple hq
    exact IsiPair.tuple_tuple e hc ⟨.bl true,H,I,rfl,q⟩
theorem vU:Nt X "int.bit_length" (fun x xs H Q=>∃ i,x = .int i/\xs=[]/\Q (.int (Builtin.Int.intBits i:Nat)) H):=by
 intro pins s σ H x xs v us Q I rx rv h
 obtain⟨i,rfl,rfl,q⟩:=h
 obtain⟨t,rfl⟩:=rx
 cases rv
 exact call_int_bit_length ⟨.int _,H,I.tok _,⟨_,rfl⟩,q⟩
theorem Inv.same {pins:List (Addr × Obj)}{σ:St}{H:Hp}{s s':Shared}(I:Inv X pins σ H s)(k:∀ b o,s.heap.get? b=some o->s'.heap.get? b=some o)(g:s'.gens=s.gens)(ho:s'.os=s.os):Inv X pins σ H s':=by
 obtain⟨hh,gg,dd,tt,oo⟩:=s'
 simp only at k g ho
 subst g
 subst ho
 have J:Inv X pins σ H { s with heap:=hh,toks:=tt }:=I.kept k
 exact⟨J.ok,J.os,J.bare,J.base,J.loc,J.cell,J.free,J.zU,J.pin,J.zp,J.len⟩
theorem jR (hc:X.calm=true):dF X (.builtin "all") (fun xs H Q=>∃ (p:Addr)(bs:List Bool),xs=[.ref p]/\zj X.K H p (bs.map V.bl)/\Q (.bl (bs.all id)) H):=by
 intro pins s σ H xs us Q I r h
 obtain⟨p,bs,rfl,hq,q⟩:=h
 obtain⟨u,rfl,rx⟩:=kx r
 cases rx
 obtain⟨zl,rv,pl,hz⟩:=I.list hq
 have hlen:=rv.length
 rw[length_map]at hlen
 have zT:p < s.heap.objs.size:=by obtain⟨o,n,e,_⟩:=pl;exact lt_size e
 have U6:∀ (i:Nat)(v:Value),zl.toArray[i]? = some v->v=Value.bool (bs.getD i false):=fun i v hv=>by
  have Im:zl[i]? = some v:=by simpa using hv
  have hi:i < bs.length:=by rw[hlen];exact(gQ0 Im)
  obtain⟨u,hu,ru⟩:=rv.get (i:=i) (x := .bl bs[i]) (by simp[hi])
  rw[Im]at hu
  cases hu
  rw[getD_eq_getElem?_getD,getElem?_eq_getElem hi]
  exact ru
 have hh1:X.A.in1.handled=none:=I.ok.hd hc
 refine call_all_walkS (wpAny_pyIter_list pl.isList ⟨s.heap.objs.size,[s.heap.objs.size,p],[s.heap.objs.size],fun a b=>b=a,zl.toArray.size,fun i v=>zl.toArray[i]? = some v,_,fun i=>bs.getD i false,rfl,
  (Walks.list hh1 _ p (ne_of_lt zT) zl.toArray).toS,⟨⟨_,Heap.get?_push_size _ rfl,rfl,rfl⟩,pl.isList.push _⟩,fun i v s1 Q1 E1 hv Iu=>?_,fun s' hm=>?_⟩)
 ·rw[U6 i v hv]
  exact wpAny_truthy_bool Iu
 ·have I1:Inv X pins σ H { s with heap:=s.heap.push { cls := .type "list_iterator",data := .fields #[.ref p, .int 0 0] } }:=I.kept (t':=s.toks) fun b o e=>Heap.get?_push_of_some _ e
  refine⟨.bl _,H,I.same (fun b o e=>hm.heap b o (fun hb=>?_) (Heap.get?_push_of_some _ e)) hm.gens hm.os,rfl,?_⟩
  ·have B9:b=s.heap.objs.size:=by simpa using hb
   exact absurd (lt_size e) (by rw[B9];exact lt_irrefl _)
  ·have e:((List.range zl.toArray.size).all fun i=>bs.getD i false)=bs.all id:=by
    rw[size_toArray,← hlen]
    clear U6 hlen hq rv q
    have:(List.range bs.length).map (fun i=>bs.getD i false)=bs:=by
     apply List.ext_getElem
     ·simp
     ·intro i h1 h2
      simp[h2]
    conv=>rhs;rw[← this]
    rw[all_map]
    rfl
   rw[e]
   exact q
end
theorem jP {o:Obj}{vs:Array Value}(hd:o.data = .fields vs)(f:Array Value->Array Value):(Obj.mapFields f o).dict=o.dict:=by
 obtain⟨c,d,dt,sl⟩:=o
 cases dt<;>rfl
noncomputable def EB (h:Heap)(e:Addr)(cls:Value)(dd:Option Addr)(ch:List Addr):Prop :=
 ∃ oe vs,h.get? e=some oe/\oe.cls=cls/\oe.dict=dd/\oe.data = .fields vs /\
  ((vs[1]? = some .none/\ch=[e])∨∃ T oT ts,vs[1]? = some (.ref T)/\T ≠ e/\h.get? T=some oT/\oT.data = .fields ts/\ts[3]? = some .none/\ch=[e,T])
theorem EB.rec {h:Heap}{e:Addr}{cls:Value}{dd:Option Addr}{ch:List Addr}(x:EB h e cls dd ch):∀ b ∈ ch,∃ o vs,h.get? b=some o/\o.data = .fields vs:=by
 obtain⟨oe,vs,he,_,_,hd,h1 | ⟨T,oT,ts,_,_,hT,Iv,_,rfl⟩⟩:=x
 ·obtain⟨_,rfl⟩:=h1
  intro b hb
  simp only[mem_singleton]at hb
  subst hb
  exact⟨oe,vs,he,hd⟩
 ·intro b hb
  simp only[mem_cons,not_mem_nil,or_false]at hb
  rcases hb with rfl | rfl
  ·exact⟨oe,vs,he,hd⟩
  ·exact⟨oT,ts,hT,Iv⟩
structure qu (fs ch:List Addr)(h h':Heap):Prop where
 keep:∀ b o,h.get? b=some o->b ∉ ch->b ∉ fs->h'.get? b=some o
 slot:∀ b o,h.get? b=some o->b ∉ ch->∃ sl,h'.get? b=some { o with slots:=sl }
 there:∀ b o,h.get? b=some o->∃ o',h'.get? b=some o'
section
variable {M:Model}{A:Around}{E:Value->Shared->Prop}{s:Shared}
theorem kD {base:Heap}{env:Env}{outer:List Env}{L e:Addr}{oe:Obj}{vs:Array Value}{head:Value}{hadNext:Bool}{Q:Unit->Shared->Prop}
  (Df:A.frames=some (env :: outer)) (hl:s.heap.FunFrames base (env :: outer)) (hf:env.frame=some L)
  (he:s.heap.get? e=some oe) (hd:oe.data = .fields vs) (hsz:1 < vs.size)
  (h:∀ h',EB h' e oe.cls oe.dict [e,s.heap.objs.size]->qu (jK (env :: outer)) [e] s.heap h'->Q () { s with heap:=h' }) :
  wpAny M A (do let a ← frameOf env;let pl ← entryPlaceOf L hadNext;let b ← EntryCells.newEntry head a .none (rawInt L) .none pl;setField (.ref e) 1 b) (fun _ s'=>wpAny M A (setFlight (.ref e) none) Q E s') E s:=by
 have Pt:e ∉ (env :: outer).filterMap (·.frame):=fun hm=>by
  obtain⟨_,o,ho,GI⟩:=hl.mem hm
  rw[he]at ho;injection ho with ho;subst ho;exact GI vs hd
 refine wpAny_bind (wpAny_frameOf_fun Df hl hf fun h₁ Ck=>?_)
 refine wpAny_bind (wpAny_entryPlaceOf fun pl Bj=>?_)
 unfold EntryCells.newEntry newFields
 refine wpAny_bind (wpAny_newObj_type ?_ (Bj.sizeOk5 _ _ _ _ _))
 have Fv:h₁.get? e=some oe:=(Ck.2.1 e Pt).trans he
 have Fw:=Heap.get?_push_of_some (h:=h₁) { cls := .type "traceback",dict:=none,data := .fields ([head, .ref L, .none,rawInt L, .none] ++ (if pl.isEmpty then List.replicate 6 Value.none else pl)).toArray } Fv
 refine wpAny_setField Fw hd hsz ?_
 have Iw:h₁.objs.size ≠ e:=ne_of_gt (lt_size Fv)
 have DG:=Obj.data_mapFields hd (·.setIfInBounds 1 (Value.ref h₁.objs.size))
 have DH:=Heap.get?_update_self (Obj.mapFields (·.setIfInBounds 1 (Value.ref h₁.objs.size))) Fw (Obj.isFreed_of_fields DG)
 have Fx:=(Heap.get?_update_other (h₁.push { cls := .type "traceback",dict:=none,data := .fields ([head, .ref L, .none,rawInt L, .none] ++ (if pl.isEmpty then List.replicate 6 Value.none else pl)).toArray })
  (Obj.mapFields (·.setIfInBounds 1 (Value.ref h₁.objs.size))) (Ne.symm Iw)).trans (Heap.get?_push_size h₁ rfl)
 unfold setFlight
 refine wpAny_bind (wpAny_field DH DG (x := .ref h₁.objs.size) (by simp[hsz]) ?_)
 rw[if_pos (show(Value.ref h₁.objs.size != Value.none)=true from by simp)]
 refine wpAny_setField Fx rfl (by simp only[size_toArray,length_append,length_cons,List.length_nil]<;>omega) (h _ ?_ ?_)
 ·refine⟨_,_,?_,Obj.cls_mapFields _ _,jP hd _,DG, .inr ⟨h₁.objs.size,_,_,by simp[hsz],Iw,Heap.get?_update_self _ Fx (Obj.isFreed_of_fields (Obj.data_mapFields rfl _)),Obj.data_mapFields rfl _,by first | (simp;done) | (rcases Bj with rfl | ⟨_,_,_,_,_,_,_,rfl⟩<;>simp),by rw[Ck.1]⟩⟩
  rw[Heap.get?_update_other _ _ Iw];exact DH
 ·have keep:∀ b o,b ≠ e->h₁.get? b=some o ->
    (((h₁.push { cls := .type "traceback",dict:=none,data := .fields ([head, .ref L, .none,rawInt L, .none] ++ (if pl.isEmpty then List.replicate 6 Value.none else pl)).toArray }).update e (Obj.mapFields (·.setIfInBounds 1 (Value.ref h₁.objs.size)))).update h₁.objs.size
     (Obj.mapFields (·.setIfInBounds 3 ((none:Option Addr).elim Value.none fun f=>rawInt f)))).get? b=some o:=fun b o Bh hb=>by
   have Nx:h₁.objs.size ≠ b:=ne_of_gt (lt_size hb)
   rw[Heap.get?_update_other _ _ Nx,Heap.get?_update_other _ _ (Ne.symm Bh)]
   exact Heap.get?_push_of_some _ hb
  refine⟨fun b o hb hc Pu=>keep b o (by simpa using hc) ((Ck.2.1 b Pu).trans hb),fun b o hb hc=>?_,fun b o hb=>?_⟩
  ·obtain⟨sl,hs⟩:=Ck.2.2 b o hb
   exact⟨sl,keep b _ (by simpa using hc) hs⟩
  ·by_cases Bh:b=e
   ·subst Bh
    exact⟨_,by rw[Heap.get?_update_other _ _ Iw];exact DH⟩
   ·obtain⟨sl,hs⟩:=Ck.2.2 b o hb
    exact⟨_,keep b _ Bh hs⟩
theorem qR {base:Heap}{env:Env}{outer:List Env}{L e:Addr}{cls:Value}{dd:Option Addr}{ch:List Addr}{Q:Unit->Shared->Prop}
  (Df:A.frames=some (env :: outer)) (hl:s.heap.FunFrames base (env :: outer)) (hf:env.frame=some L) (x:EB s.heap e cls dd ch)
  (h:∀ h' GJ,EB h' e cls dd GJ->qu (jK (env :: outer)) ch s.heap h'->(∀ b ∈ GJ,b ∈ ch∨s.heap.objs.size <= b)->Q () { s with heap:=h' }) :
  wpAny M A (noteFrame (.ref e) env) (fun _ s'=>wpAny M A (setFlight (.ref e) none) Q E s') E s:=by
 obtain⟨oe,vs,he,rfl,rfl,hd,⟨h1,rfl⟩ | ⟨T,oT,ts,h1,Iw,hT,Iv,h3,rfl⟩⟩:=x
 ·unfold noteFrame
  simp only[hf]
  refine wpAny_bind (wpAny_field he hd h1 ?_)
  rw[if_neg (by decide)]
  refine kD Df hl hf he hd (Array.getElem?_eq_some_iff.mp h1).1 fun h' f m=>h h' _ f m fun b hb=>?_
  simp only[mem_cons,not_mem_nil,or_false]at hb
  rcases hb with rfl | rfl
  ·exact .inl (by simp)
  ·exact .inr (Nat.le_refl _)
 ·unfold noteFrame
  simp only[hf]
  refine wpAny_bind (wpAny_field he hd h1 ?_)
  rw[if_pos (show(Value.ref T != Value.none)=true from by simp)]
  refine wpAny_bind (wpAny_field hT Iv h3 ?_)
  rw[if_neg (show ¬ ((Value.none == rawInt L)=true) from by simp[rawInt])]
  refine wpAny_bind (wpAny_setField hT Iv (Array.getElem?_eq_some_iff.mp h3).1 ?_)
  have other:∀ b,b ≠ T->(s.heap.update T (Obj.mapFields (·.setIfInBounds 3 Value.none))).get? b=s.heap.get? b:=fun b hb=>Heap.get?_update_other _ _ (Ne.symm hb)
  have JM:=Heap.get?_update_self (Obj.mapFields (·.setIfInBounds 3 Value.none)) hT (Obj.isFreed_of_fields (Obj.data_mapFields Iv _))
  have noRecord:∀ b o,s.heap.get? b=some o->(∀ vs,o.data ≠ .fields vs)->b ≠ T:=fun b o hb GI q=>by
   rw[q,hT]at hb;injection hb with hb;subst hb;exact GI ts Iv
  have JN:(s.heap.update T (Obj.mapFields (·.setIfInBounds 3 Value.none))).objs.size=s.heap.objs.size:=Heap.size_after_update _ _ _
  refine kD (s:={ s with heap:=s.heap.update T (Obj.mapFields (·.setIfInBounds 3 Value.none)) }) Df (hl.of_keeps fun b o hb GI=>⟨o,(other b (noRecord b o hb GI)).trans hb,rfl⟩) hf ((other e (Ne.symm Iw)).trans he) hd (Array.getElem?_eq_some_iff.mp h1).1
   fun h' f m=>h h' _ f ⟨fun b o hb hc Pu=>?_,fun b o hb hc=>?_,fun b o hb=>?_⟩ fun b hb=>?_
  ·simp only[mem_cons,not_mem_nil,or_false,not_or]at hc
   exact m.keep b o ((other b hc.2).trans hb) (by simpa using hc.1) Pu
  ·simp only[mem_cons,not_mem_nil,or_false,not_or]at hc
   exact m.slot b o ((other b hc.2).trans hb) (by simpa using hc.1)
  ·by_cases Nx:b=T
   ·subst Nx
    exact m.there b _ JM
   ·exact m.there b o ((other b Nx).trans hb)
  ·simp only[mem_cons,not_mem_nil,or_false]at hb
   rcases hb with rfl | rfl
   ·exact .inl (by simp)
   ·exact .inr (le_of_eq JN.symm)
theorem oK {base:Heap}{env:Env}{outer:List Env}{L e:Addr}{cls:Value}{dd:Option Addr}{ch:List Addr}{Q:Unit->Shared->Prop}
  (Df:A.frames=some (env :: outer)) (hl:s.heap.FunFrames base (env :: outer)) (hf:env.frame=some L) (x:EB s.heap e cls dd ch)
  (h:∀ h' GJ,EB h' e cls dd GJ->qu (jK (env :: outer)) ch s.heap h'->(∀ b ∈ GJ,b ∈ ch∨s.heap.objs.size <= b)->Q () { s with heap:=h' }) :
  wpAny M A (leaving env (.ref e)) Q E s:=by
 unfold leaving
 exact wpAny_bind (qR Df hl hf x h)
end
section
variable {X:Cx}{pins:List (Addr × Obj)}{σ:St}{H:Hp}{s:Shared}
theorem Inv.EC {h':Heap}{ch:List Addr}(I:Inv X pins σ H s)(m:qu (jK X.stack) ch s.heap h')
  (B7:∀ b ∈ ch,X.s₀.heap.get? b=none/\H b=none/\(∀ p ∈ X.pn ++ pins,p.1 ≠ b)/\∃ o vs,s.heap.get? b=some o/\o.data = .fields vs) :
  Inv X pins σ H { s with heap:=h' }:=by
 have JO:∀ b o,s.heap.get? b=some o->(∀ vs,o.data ≠ .fields vs)->b ∉ ch:=fun b o hb hn hc=>by
  obtain⟨_,_,_,o',vs,B9,hd⟩:=B7 b hc
  rw[hb]at B9;cases B9
  exact hn vs hd
 have cellK:∀ c v,s.heap.IsCell c v->h'.IsCell c v:=fun c v ⟨o,ho,hd⟩=>by
  obtain⟨sl,e⟩:=m.slot c o ho (JO c o ho fun vs q=>by rw[hd]at q;cases q)
  exact⟨_,e,hd⟩
 refine⟨I.ok,I.os,I.bare,⟨fun b o e n hf hx=>?_,fun b o e n hf hx=>?_,I.base.free,fun b o e hx=>?_,I.base.B1,I.base.Bo,I.base.Bp⟩,?_,fun x c hc=>?_,I.free,I.zU,fun p hp=>?_,fun b u e=>?_,I.len⟩
 ·have e1:=I.base.keep b o e n hf hx
  refine m.keep b o e1 (fun hc=>?_) fun hs=>?_
  ·rw[(B7 b hc).1]at e;cases e
  ·rcases mem_cons.mp (I.Ax b hs) with z | z
   ·rw[z]at e
    exact absurd (lt_size e) (Nat.not_lt.mpr I.ok.above)
   ·exact hf z
 ·obtain⟨sl,e1⟩:=I.base.slot b o e n hf hx
  obtain⟨Io,e2⟩:=m.slot b _ e1 fun hc=>by rw[(B7 b hc).1]at e;cases e
  exact⟨Io,e2⟩
 ·obtain⟨o',e1⟩:=I.base.there b o e hx
  exact m.there b o' e1
 ·obtain⟨mm,⟨o,es,ep,ho,hd,r⟩,hl⟩:=I.loc
  obtain⟨sl,e⟩:=m.slot _ o ho (JO _ o ho fun vs q=>by rw[hd]at q;cases q)
  refine⟨mm,⟨_,es,ep,e,hd,r⟩,fun i x v h1 h2 h3=>?_⟩
  obtain⟨u,ru,lk⟩:=hl i x v h1 h2 h3
  refine⟨u,ru,?_⟩
  rcases lk with ⟨a,b⟩ | ⟨a,c,hc,BJ⟩
  ·exact .inl ⟨a,b⟩
  ·exact .inr ⟨a,c,hc,cellK c _ BJ⟩
 ·obtain⟨v,hv⟩:=I.cell x c hc
  exact⟨v,cellK c v hv⟩
 ·obtain⟨a,b,c,d,e⟩:=I.pin p hp
  refine⟨m.keep _ _ a (fun hc=>(B7 _ hc).2.2.1 p hp rfl) fun hs=>?_,b,c,d,e⟩
  rcases mem_cons.mp (I.Ax _ hs) with z | z
  ·exact c z
  ·exact d z
 ·refine(I.zp b u e).AA (fun c v hc q=>m.keep c v q (fun z=>?_) fun z=>?_) (fun _ q=>q) fun _ _ q=>q
  ·have n:=(B7 c z).2.1
   rcases hc with rfl | hc
   ·rw[e]at n;cases n
   ·rw[hc]at n;cases n
  ·have n:=I.Bv c z
   rcases hc with rfl | hc
   ·rw[e]at n;cases n
   ·rw[hc]at n;cases n
noncomputable def e7 (P:Program)(w:World):lJ:=fun outer H s E ev s'=>∃ e cls dd ch H',ev = .ref e/\s'.os=s.os/\AllBare s'.gens/\Un (jK outer) [] H H' s.heap s'.heap/\AE P w H' s'.heap /\
 EB s'.heap e cls dd ch/\(∀ b ∈ ch,s.heap.get? b=none/\H' b=none)/\E cls dd H'
noncomputable def XP (X:Cx)(pins:List (Addr × Obj))(σ:St)(E:XK)(ev:Value)(s':Shared):Prop:=∃ e cls dd ch H',ev = .ref e/\Inv X pins σ H' s'/\EB s'.heap e cls dd ch /\
 (∀ b ∈ ch,X.s₀.heap.get? b=none/\H' b=none/\∀ p ∈ X.pn ++ pins,p.1 ≠ b)/\E cls dd H'
theorem Inv.DI (I:Inv X pins σ H s)(hex:X.ex=[]){b:Addr}(hb:s.heap.get? b=none):X.s₀.heap.get? b=none:=by
 cases q:X.s₀.heap.get? b with
 | none=>rfl
 | some o =>
  obtain⟨o',e⟩:=I.base.there b o q (by rw[hex];simp)
  rw[e]at hb;cases hb
theorem XP.JP {E:XK}{ev:Value}{s':Shared}(I:Inv X pins σ H s)(hex:X.ex=[])(x:e7 X.prog X.w X.stack H s E ev s'):XP X pins σ E ev s':=by
 obtain⟨e,cls,dd,ch,H',rfl,os,bare,un,zp,Ny,new,q⟩:=x
 refine⟨e,cls,dd,ch,H',rfl,I.Fo (ch:=[]) os un zp bare (fun b z=>absurd z (by simp)),Ny,fun b hb=>⟨I.DI hex (new b hb).1,(new b hb).2,fun p hp z=>?_⟩,q⟩
 have:=(I.pin p hp).1
 rw[z,(new b hb).1]at this
 cases this
noncomputable def Bk (X:Cx)(E:XK):Prop:=∀ (pins:List (Addr × Obj))(σ:St)(ev:Value)(s':Shared),XP X pins σ E ev s'->X.xe ev s'
theorem Bk.passes {E:XK}(h:Bk X E)(hex:X.ex=[]):cC (e7 X.prog X.w) X E:=fun pins σ H s ev s' I x=>h pins σ ev s' (XP.JP I hex x)
theorem aR {P:Program}{w:World}{K:Frag}{mg:Str->Option Value}{base:Heap}{N:List Str}{qual:Str}{scope:Scope}{f:Addr}{cd:Value}{A:Around}{outer:List Env}{s:Shared}{H:Hp}{E:XK} :
  Bk (iG (e7 P w) P w K mg base N qual scope f cd A outer s H E) E:=by
 intro pins σ ev s' x
 obtain⟨e,cls,dd,ch,H',rfl,I,Ny,B7,q⟩:=x
 refine oK (base:=base) (outer:=outer) I.ok.frames I.stack rfl Ny fun h' GJ Pw m new=>?_
 have I':=I.EC m fun b hb=>⟨(B7 b hb).1,(B7 b hb).2.1,(B7 b hb).2.2,Ny.rec b hb⟩
 refine⟨e,cls,dd,GJ,H',rfl,I'.os,I'.bare,I'.base,I'.zp,Pw,fun b hb=>?_,q⟩
 rcases new b hb with z | z
 ·exact⟨(B7 b z).1,(B7 b z).2.1⟩
 ·exact⟨Heap.get?_none_of_le (le_trans I.sz z),I.zp.fresh z⟩
theorem pK {P:Program}{w:World}{K:Frag}{mg:Str->Option Value}{base:Heap}{N:List Str}{qual:Str}{scope:Scope}{f:Addr}{cd:Value}{A:Around}{outer:List Env}{s:Shared}{H:Hp}{E:XK} :
  PassesOwn (model P w) (iG (e7 P w) P w K mg base N qual scope f cd A outer s H E).A (iG (e7 P w) P w K mg base N qual scope f cd A outer s H E).env (iG (e7 P w) P w K mg base N qual scope f cd A outer s H E).xe :=
 PassesOwn.leaving (Q₁:=fun e DB=>e7 P w outer H s E e DB)
end
noncomputable def dJ:List Value:=[.type "ValueError", .type "Exception", .type "BaseException", .type "object"]
noncomputable def lB:List Value->Bool
 | []=>false
 | .ref _ :: r=>lB r
 | l=>l == dJ
theorem j3 (self:Value):∀ {l:List Value},lB l=true->refuseLoop self "__setattr__" l=pure ()
 | .ref c :: r,e=>by rw[refuseLoop_ref];exact j3 self e
 | .type a :: r,e=>by
  have e':(Value.type a :: r)=dJ:=beq_iff_eq.mp e
  rw[e'];exact PySem.F.store_ValueError.passes self
 | .none :: r,e=>by have:=beq_iff_eq.mp (show(_ == dJ)=true from e);cases this
 | .bool _ :: r,e=>by have:=beq_iff_eq.mp (show(_ == dJ)=true from e);cases this
 | .int _ _ :: r,e=>by have:=beq_iff_eq.mp (show(_ == dJ)=true from e);cases this
 | .float _ _ :: r,e=>by have:=beq_iff_eq.mp (show(_ == dJ)=true from e);cases this
 | .str _ _ :: r,e=>by have:=beq_iff_eq.mp (show(_ == dJ)=true from e);cases this
 | .bytes _ _ :: r,e=>by have:=beq_iff_eq.mp (show(_ == dJ)=true from e);cases this
 | .builtin _ :: r,e=>by have:=beq_iff_eq.mp (show(_ == dJ)=true from e);cases this
theorem jM:∀ {l:List Value},lB l=true->l.contains (.type "object")=true/\l.contains (.type "BaseException")=true/\l.isEmpty=false
 | .ref c :: r,e=>by
  obtain⟨a,b,_⟩:=jM (l:=r) e
  exact⟨by rw[contains_cons,a,Bool.or_true],by rw[contains_cons,b,Bool.or_true],rfl⟩
 | .type a :: r,e=>by
  have e':(Value.type a :: r)=dJ:=beq_iff_eq.mp e
  rw[e'];exact⟨by decide,by decide,rfl⟩
 | .none :: r,e=>by have:=beq_iff_eq.mp (show(_ == dJ)=true from e);cases this
 | .bool _ :: r,e=>by have:=beq_iff_eq.mp (show(_ == dJ)=true from e);cases this
 | .int _ _ :: r,e=>by have:=beq_iff_eq.mp (show(_ == dJ)=true from e);cases this
 | .float _ _ :: r,e=>by have:=beq_iff_eq.mp (show(_ == dJ)=true from e);cases this
 | .str _ _ :: r,e=>by have:=beq_iff_eq.mp (show(_ == dJ)=true from e);cases this
 | .bytes _ _ :: r,e=>by have:=beq_iff_eq.mp (show(_ == dJ)=true from e);cases this
 | .builtin _ :: r,e=>by have:=beq_iff_eq.mp (show(_ == dJ)=true from e);cases this
noncomputable def iF (K:Frag)(C:Addr):Bool:=(PySem.W.clsIn K C).any fun cd=>lB cd.mro
structure gs (K:Frag)(C:Addr):Prop where
 mro:iF K C=true
 hd:hasDictIn K C=true
 sa:findIn K (.ref C) "__setattr__" = some (some (.builtin "object.__setattr__"))
 ga:findIn K (.ref C) "__getattribute__" = some (some (.builtin "BaseException.__getattribute__"))
 gn:findIn K (.ref C) "__getattr__" = some none
section
variable {prog:Program}{w:World}{A:Around}{E:Value->Shared->Prop}{s:Shared}{K:Frag}{x C:Addr}{ox:Obj}{name:Str}{v:Value}
open PySem.W in
theorem pL {R:Result->Shared->Prop}{od:Option Obj}{tk:Tok}(X:K.In s.heap)(I:PySem.W.InstAt s.heap x ox C od)(hp:iF K C=true)(ht:findIn K (.ref C) name=some none)
  (h:∀ b,wpAny (model prog w) A.in1 (Builtin.ObjectAttr.storeInOwnDict (.ref x) (.ref C) (.str name tk) name v b)
   (fun fin s'=>match fin with | .done f=>R (.ok f) s' | .again c'=>c'.quiet=true/\codeAny (model prog w) A c' R s') (fun e s'=>R (.error e) s') s) :
  codeAny (model prog w) A (.call (.builtin "object.__setattr__") ⟨[.ref x, .str name tk,v],[]⟩) R s:=by
 have SF:=PySem.F.store_object
 obtain⟨cd,hc,ho⟩:=any_some hp
 obtain⟨h1,h2,ne⟩:=jM ho
 have sub:Looks (model prog w) s.heap (isInstance (.ref x) (.type "object")) true:=I.type.andThen (looks_mroIn X (by unfold mroIn;rw[hc,Option.bind_some,if_neg (by rw[ne];decide),h1]))
 refine codeAny_call_builtin SF.slot.plain SF.entry (@check_slot (model prog w) _ _ s "object.__setattr__" "object" "__setattr__" (.ref x) [.str name tk,v] [] _ SF.kind SF.split sub (SF.args (.ref x) (.str name tk) v) ?_)
 have hm:Looks (model prog w) s.heap (mroOf (.ref C)) cd.mro:=(looks_clsIn X hc).andThen .now
 have L3:Looks (model prog w) s.heap (Builtin.ObjectAttr.storeTaker? none) none := .now
 rw[osa_eq,refuse_eq]
 refine wpAny_bind (wpAny_bind (I.type.here (wpAny_bind (hm.here ?_))))
 rw[j3 _ ho]
 refine wpAny_pure (wpAny_bind (I.type.here (wpAny_bind ((looks_findIn X ht).here (wpAny_bind (L3.here ?_))))))
 exact h _
theorem lQ {vs:Array Value}{Q:Unit->Shared->Prop}(X:K.In s.heap)(hx:s.heap.get? x=some ⟨.ref C,none, .fields vs,#[]⟩)(c:gs K C)(ht:findIn K (.ref C) name=some none)
  (h:∀ h' t',h'.get? x=some ⟨.ref C,some s.heap.objs.size, .fields vs,#[]⟩->h'.Ns1 s.heap.objs.size (fun y=>if y=name then some v else none) ->
   (∀ b o,b ≠ x->s.heap.get? b=some o->h'.get? b=some o)->Q () { s with heap:=h',toks:=t' }) :
  wpAny (model prog w) A (setAttr (.ref x) name v) Q E s:=by
 have I:PySem.W.InstAt s.heap x ⟨.ref C,none, .fields vs,#[]⟩ C none:=⟨hx,rfl,rfl,True.intro⟩
 refine PySem.W.set_plain X I c.sa (pL (s:={ s with toks:=s.toks + 1 }) X I c.mro ht fun b=>?_)
 obtain⟨cd,hc,Fm⟩:=PySem.W.any_some c.hd
 obtain⟨hp,g,d,t,os⟩:=s
 dsimp only at X hx h I ⊢
 refine wpAny_bind (wpAny_pure (wpAny_bind (wpAny_bind (wpAny_loadPart hx (wpAny_bind (PySem.W.Looks.here (s:=⟨hp,g,d,t + 1,os⟩) (PySem.W.looks_clsIn X hc) ?_))))))
 rw[Fm]
 have Fy:(hp.push { cls := .type "dict",data := .dict #[] }).get? x=some ⟨.ref C,none, .fields vs,#[]⟩:=Heap.get?_push_of_some _ hx
 have U7:x ≠ hp.objs.size:=ne_of_lt (lt_size hx)
 rw[if_neg (by decide)]
 dsimp only
 rw[if_neg (by simp[typeHasDict])]
 refine wpAny_bind (wpAny_alloc' ?_)
 refine wpAny_bind (wpAny_update' Fy ?_)
 refine wpAny_pure ?_
 have hgd:((hp.push { cls := .type "dict",data := .dict #[] }).update x fun o=>{ cls:=o.cls,dict:=some hp.objs.size,data:=o.data,slots:=o.slots }).get? hp.objs.size
   = some { cls := .type "dict",data := .dict #[] } :=
  (Heap.get?_update_ne _ _ _ _ U7.symm).trans (Heap.get?_push_at rfl rfl)
 have hnd:((hp.push { cls := .type "dict",data := .dict #[] }).update x fun o=>{ cls:=o.cls,dict:=some hp.objs.size,data:=o.data,slots:=o.slots }).Ns hp.objs.size (fun _=>none) :=
  ⟨_,#[],_,hgd,rfl,fun e he=>absurd he (by simp),fun _=>rfl⟩
 show wpAny _ _ (Builtin.ObjectAttr.storeInDict hp.objs.size (.str name t) name v) _ _ _
 unfold Builtin.ObjectAttr.storeInDict Builtin.ObjectAttr.newKeyGuard
 refine wpAny_bind (wpAny_pure (wpAny_bind (wpAny_nsSet1 (Heap.Ns1.of_empty hnd) fun h' Ct hs=>?_)))
 obtain⟨oD,Uv,Uw,Jw,Jx,Jy⟩:=Ct.count (Within.cons name v Within.nil)
 refine wpAny_bind (wpAny_lookBehind Jw (by rw[Jx];exact pastItsLine_dict (le_trans Jy (by rw[length_cons,List.length_nil,sizeLine_eq];omega))) ?_)
 refine wpAny_pure (h h' _ ?_ Ct fun b o hbx hb=>?_)
 ·exact(hs.2 x U7).trans (Heap.get?_update_self _ Fy rfl)
 ·exact(hs.2 b (ne_of_lt (lt_size hb))).trans ((Heap.get?_update_ne _ _ _ _ hbx).trans (Heap.get?_push_of_some _ hb))
open PySem.W in
end
end L2
namespace PySem
section
variable {prog:Program}{w:World}{A:Around}{E:Value->Shared->Prop}{h:Heap}{g:Array GenState}{d:Drawn}{t:Nat}{os:OsState}
variable {nm q:Str}{C N:Addr}{bs bm Nz:List Value}{AO:Bool}{sn:List Str}{sub:List Value}{ab:Bool}{col:Option Bool}{dd:Option Addr}{k0 k1 k2 k3 k5:Option Value}{B newId DJ:String}
theorem gA (F:ExcBaseFacts B newId DJ Nz)(T:OwnTail h Nz bm){mN:Str->Option Value}{rest:List Value}{fI:Addr}{oI:Obj}{Q:Fin->Shared->Prop}
  (hC:h.get? C=some (excClassObj nm q C N bs bm AO sn sub ab col dd k0 k1 k2 k3 k5 newId)) (hn:h.Ns N mN) (hi:mN "__init__" = some (.ref fI))
  (Px:h.get? fI=some oI) (Py:oI.cls = .type "function")
  (hq:wpAny (model prog w) A (call (.ref fI) (.ref (h.objs.size + 1) :: rest)) (fun r s'=>r = .none/\Q (.done (.ret (.ref (h.objs.size + 1)))) s') E
   ⟨(h.push { cls := .type "tuple",data := .seq rest.toArray }).push { cls := .ref C,data := .fields #[.ref h.objs.size, .none, .none, .none, .bool false, .none] },g,d,t,os⟩) (hrest:rest.length <= sizeLine:=by size_fits) :
  wpAny (model prog w) A (Builtin.«type.__call__» ⟨.ref C :: rest,[]⟩) Q E ⟨h,g,d,t,os⟩:=by
 repeat (first | with_reducible refine wpAny_loadPart_at hC ?_ | with_reducible refine wpAny_madeBy_exc hC ?_ | wp_step)
 refine codeAny_call_builtin_code (Code.quiet_builtin _ F.quiet) (wpAny_check_new_subT F T hC ?_)
 refine codeAny_exc_new_subT F T hC ?_ hrest
 show wpAny _ _ _ _ _ _
 have Fz:=Heap.get?_push_of_some { cls := .ref C,data := .fields #[.ref h.objs.size, .none, .none, .none, .bool false, .none] }
  (Heap.get?_push_of_some { cls := .type "tuple",data := .seq rest.toArray } hC)
 have GK:=Heap.get?_push_of_some { cls := .ref C,data := .fields #[.ref h.objs.size, .none, .none, .none, .bool false, .none] }
  (Heap.get?_push_of_some { cls := .type "tuple",data := .seq rest.toArray } Px)
 have JQ:((h.push { cls := .type "tuple",data := .seq rest.toArray }).push { cls := .ref C,data := .fields #[.ref h.objs.size, .none, .none, .none, .bool false, .none] }).Ns N mN :=
  let ⟨o,es,ep,e,r⟩:=hn; ⟨o,es,ep,Heap.get?_push_of_some _ (Heap.get?_push_of_some _ e),r⟩
 have GL:((h.push { cls := .type "tuple",data := .seq rest.toArray }).push
   { cls := .ref C,data := .fields #[.ref h.objs.size, .none, .none, .none, .bool false, .none] }).get? (h.objs.size + 1)=some
   { cls := .ref C,data := .fields #[.ref h.objs.size, .none, .none, .none, .bool false, .none] }:=by heap_get
 have hcC:(Value.ref C :: bm).contains (.ref C)=true:=by simp
 have T₁:=T.keeps (h':=(h.push { cls := .type "tuple",data := .seq rest.toArray }).push { cls := .ref C,data := .fields #[.ref h.objs.size, .none, .none, .none, .bool false, .none] })
  fun b o e=>Heap.get?_push_of_some _ (Heap.get?_push_of_some _ e)
 unfold isInstance
 repeat (first | with_reducible refine wpAny_loadPart_at GL ?_ | (with_reducible refine wpAny_isSubtype_exc Fz ?_;rw[hcC]) | wp_step)
 show wpAny _ _ (typeLookup (.ref C) _) _ _ _
 refine wpAny_typeLookup_tail Fz JQ T₁ F.mroIs F.init.lookup ?_
 rw[hi]
 refine wpAny_holding (wpAny_bind ?_)
 unfold bindSpecial
 refine wpAny_bind (wpAny_typeOf (T := "function") ⟨_,GK,Py⟩ ?_)
 rw[if_pos (by decide)]
 refine wpAny_pure (wpAny_bind (wpAny_mono hq (fun r s' hr=>?_) fun _ _ x=>x))
 obtain⟨rfl,hQ⟩:=hr
 wp_walk
 exact hQ
theorem kQ (F:ExcBaseFacts B newId DJ Nz)(T:OwnTail h Nz bm){mN:Str->Option Value}{rest:List Value}{fI:Addr}{oI:Obj}{Q:Value->Shared->Prop}
  (hC:h.get? C=some (excClassObj nm q C N bs bm AO sn sub ab col dd k0 k1 k2 k3 k5 newId)) (hn:h.Ns N mN) (hi:mN "__init__" = some (.ref fI))
  (Px:h.get? fI=some oI) (Py:oI.cls = .type "function")
  (hq:wpAny (model prog w) (A.under (.builtin "type.__call__" ⟨.ref C :: rest,[]⟩)) (call (.ref fI) (.ref (h.objs.size + 1) :: rest)) (fun r s'=>r = .none/\Q (.ref (h.objs.size + 1)) s') E
   ⟨(h.push { cls := .type "tuple",data := .seq rest.toArray }).push { cls := .ref C,data := .fields #[.ref h.objs.size, .none, .none, .none, .bool false, .none] },g,d,t,os⟩) (hrest:rest.length <= sizeLine:=by size_fits) :
  wpAny (model prog w) A (call (.ref C) rest) Q E ⟨h,g,d,t,os⟩:=by
 have f1:=tc_lookup
 have f2:=tc_bind (.ref C)
 have hT:(⟨h,g,d,t,os⟩:Shared).TypeIs (.ref C) "type":=⟨_,hC,rfl⟩
 refine wpAny_call (codeAny_of_tree ?_)
 show wpAny _ _ (callAny (.ref C) _) _ _ _
 repeat (any_goals (first | assumption | with_reducible refine wpAny_loadPart_at hC ?_ | wp_step))
 refine⟨rfl,?_⟩
 refine codeAny_call_builtin_at (Code.quiet_builtin _ (by decide +kernel)) entry_typeCall (wpAny_check_type_call_sub hC (gA (hrest:=hrest) F T hC hn hi Px Py ?_))
 exact hq
end
section
variable {M:Model}{A:Around}{E:Value->Shared->Prop}{env:Env}
variable {nm q:Str}{C N:Addr}{bs bm:List Value}{AO:Bool}{sn:List Str}{sub:List Value}{ab:Bool}{col:Option Bool}{dd:Option Addr}{k0 k1 k2 k3 k5:Option Value}{newId:String}
theorem gB {s:Shared}{x:Sem Value}{Q:Flow->Shared->Prop}(hh:A.handled=none)
  (h:wpAny M A x (fun v s₁=>∃ e t de nm q N bs bm AO sn sub ab col dd k0 k1 k2 k3 k5 newId,v = .ref e/\bm.contains (.type "BaseException")=true/\s₁.heap.get? C=some (excClassObj nm q C N bs bm AO sn sub ab col dd k0 k1 k2 k3 k5 newId) /\
   s₁.heap.get? e=some { cls := .ref C,dict:=de,data := .fields #[.ref t, .none, .none, .none, .bool false, .none] }/\E (.ref e) s₁) E s) :
  wpAny M A (raiseStmt env (some x) none) Q E s:=by
 unfold raiseStmt
 refine wpAny_bind (wpAny_mono h (fun v s₁ h₁=>?_) fun _ _ x=>x)
 obtain⟨e,t,de,nm,q,N,bs,bm,AO,sn,sub,ab,col,dd,k0,k1,k2,k3,k5,newId,rfl,Cg,hC,he,hE⟩:=h₁
 have hcB:(Value.ref C :: bm).contains (.type "BaseException")=true:=by rw[contains_cons,Cg,Bool.or_true]
 obtain⟨hp,g,d,tk,os⟩:=s₁
 repeat (first | with_reducible refine wpAny_loadPart_at he ?_ | with_reducible refine wpAny_loadPart_at hC ?_ | (with_reducible refine wpAny_isSubtype_exc hC ?_;rw[hcB]) | wp_step)
 exact wpAny_raiseNew_none hh hE
end
end PySem
namespace L2
open PySem PySem.Spec PyProof.Rows
noncomputable def bE (K:Frag)(C:Addr)(init:Option Value):Bool:=match K.lookup C with
 | some ⟨.type "type",_, .cls cd,sl⟩=>(match cd.mro,sl.toList with
  | .ref C' :: bm,[_,_,_,_,some (.builtin n),_]=>C' == C && n == "ValueError.__new__" && !cd.hasDel && PySem.W.tailIn K dJ bm && PySem.W.nsOkIn K cd.ns && nsIn K cd.ns "__init__" == some init
  | _,_=>false)
 | _=>false
theorem i8 {K:Frag}{h:Heap}{N:Addr}{x:Str}{v:Value}(X:K.In h)(e:PySem.W.nsOkIn K N=true)(q:nsIn K N x=some (some v)):h.nsMap N x=some v:=by
 have G:h.Ns N (h.nsMap N) := .of_isNs (PySem.W.isNs_of_in X e)
 generalize h.nsMap N=m at G ⊢
 obtain⟨o,es,ep,ho,hd,_,hf⟩:=G
 unfold nsIn at q
 split at q
 ·rename_i c d Ni n' sl z
  have:=X _ _ z
  rw[ho]at this
  cases this
  cases hd
  split at q
  ·rename_i en he
   cases q
   rw[← hf]
   unfold nsFind findBy
   rw[← Array.find?_toList,he]
   rfl
  ·split at q<;>cases q
 ·cases q
theorem lC {K:Frag}{h:Heap}{C:Addr}{init:Option Value}(X:K.In h)(q:bE K C init=true):∃ bm N nm qn bs AO sn sub ab col dd k0 k1 k2 k3 k5 mN,
  h.get? C=some (excClassObj nm qn C N bs bm AO sn sub ab col dd k0 k1 k2 k3 k5 "ValueError.__new__")/\h.Ns N mN/\mN "__init__" = init/\OwnTail h dJ bm:=by
 unfold bE at q
 split at q
 ·rename_i dd cd sl ho
  split at q
  ·rename_i C' bm k0 k1 k2 k3 n k5 hm hs
   simp only[Bool.and_eq_true,beq_iff_eq,Bool.not_eq_true']at q
   obtain⟨⟨⟨⟨⟨rfl,rfl⟩,JR⟩,ht⟩,zp⟩,F0⟩:=q
   obtain⟨nm,bs,mro,ns,qn,hd,sn,sub,ab,col,uq⟩:=cd
   dsimp only at hm JR zp F0
   subst hm JR
   have Pz:sl = #[k0,k1,k2,k3,some (.builtin "ValueError.__new__"),k5]:=by
    obtain⟨l⟩:=sl
    simp only at hs
    rw[hs]
   subst Pz
   refine⟨bm,ns,nm,qn,bs,hd,sn,sub,ab,col,dd,k0,k1,k2,k3,k5,_,X _ _ ho, .of_isNs (PySem.W.isNs_of_in X zp),?_,PySem.W.tail_of_in X ht⟩
   cases init with
   | none=>exact PySem.W.nsMap_none_of_in X zp F0
   | some v=>exact i8 X zp F0
  ·cases q
 ·cases q
theorem qx {h:Heap}{bm:List Value}(T:OwnTail h dJ bm):bm.contains (.type "BaseException")=true:=T.hasType (by decide)
noncomputable def dC (C t:Addr)(dd:Option Addr):Obj:={ cls := .ref C,dict:=dd,data := .fields #[.ref t, .none, .none, .none, .bool false, .none] }
noncomputable abbrev TX:=St->Hp->(Option Addr->Hp->Prop)->Prop
noncomputable def PX (X:Cx)(e:Expr)(C:Addr)(t:TX):Prop :=
 ∀ (pins:List (Addr × Obj))(s:Shared)(σ:St)(H:Hp)(R:Option Addr->Hp->Prop),Inv X pins σ H s->t σ H R->wpAny (model X.prog X.w) X.A (eval e X.env)
  (fun u s'=>∃ ea dd tt H',u = .ref ea/\Inv X pins σ H' s'/\s'.heap.get? ea=some (dC C tt dd)/\X.s₀.heap.get? ea=none/\H' ea=none/\(∀ p ∈ X.pn ++ pins,p.1 ≠ ea)/\R dd H') X.xe s
theorem AE.at {P:Program}{w:World}{H:Hp}{h:Heap}{a:Addr}{o:HO}(x:AE P w H h)(e:H a=some o):∃ ob,h.get? a=some ob:=by
 have q:=x a o e
 have all:∀ o,zL P w H h a o->∃ ob,h.get? a=some ob:=by
  intro o
  induction o with
  | lst xs=>intro ⟨_,zl,n,_,e⟩;exact⟨_,e⟩
  | tup xs=>intro ⟨_,zl,_,ob,e,_⟩;exact⟨_,e⟩
  | dK zq=>intro ⟨_,_,vs,_,q⟩;obtain⟨o,es,ep,e,_⟩:=q;exact⟨_,e⟩
  | dT zq=>intro ⟨_,_,xs,_,o,es,ep,e,_⟩;exact⟨_,e⟩
  | set S n=>intro q;obtain⟨o,_,_,_,e,_⟩:=q;exact⟨_,e⟩
  | ins C dx fs=>intro ⟨_,_,_,e,_⟩;exact⟨_,e⟩
  | own x=>intro ⟨o,e⟩;exact⟨_,e⟩
  | xd fs=>intro ⟨mA,⟨o,es,ep,e,_⟩,_⟩;exact⟨_,e⟩
  | Nb lo hi=>intro ⟨_,_,_,e⟩;exact⟨_,e⟩
  | Cy o u ih=>intro ⟨e,_⟩;exact⟨_,e⟩
  | Bb ps=>intro e;exact⟨_,e⟩
  | met f x=>intro e;exact⟨_,e⟩
  | ext φ=>intro ⟨_,e,_⟩;exact e
 exact all o q
theorem AE.none_of {P:Program}{w:World}{H:Hp}{h:Heap}{a:Addr}(x:AE P w H h)(e:h.get? a=none):H a=none:=by
 cases q:H a with
 | none=>rfl
 | some o =>
  obtain⟨ob,z⟩:=x.at q
  rw[e]at z;cases z
noncomputable def uq (H:Hp)(a:Addr):Hp:=fun b=>if b=a then none else H b
theorem mU {H:Hp}{a:Addr}:uq H a a=none:=if_pos rfl
theorem dG {H:Hp}{a b:Addr}(h:b ≠ a):uq H a b=H b:=if_neg h
theorem Inv.drop {X:Cx}{pins:List (Addr × Obj)}{σ:St}{H:Hp}{s:Shared}{a:Addr} {φ:Heap->Prop} (I:Inv X pins σ H s) (e:H a=some (.ext φ)):Inv X pins σ (uq H a) s:=by
 have nx:∀ b u,H b=some u->(∀ φ,u ≠ .ext φ)->b ≠ a:=fun b u q n z=>by rw[z,e]at q;cases q;exact n φ rfl
 have nn:∀ b,H b=none->uq H a b=none:=fun b q=>by unfold uq;split<;>first | rfl | exact q
 refine⟨I.ok,I.os,I.bare,⟨I.base.keep,I.base.slot,fun b o h1 h2 h3=>nn b (I.base.free b o h1 h2 h3),I.base.there,fun b xs q=>?_,fun b o u q=>?_,fun b ps q=>?_⟩,I.loc,I.cell,nn _ I.free,fun x c h=>nn _ (I.zU x c h),fun p hp=>?_,fun b u q=>?_,I.len⟩
 ·have z:=I.base.B1 b xs q
  rw[dG (nx b _ z fun φ h=>by cases h)];exact z
 ·have z:=I.base.Bo b o u q
  rw[dG (nx b _ z fun φ h=>by cases h)];exact z
 ·obtain⟨more,z⟩:=I.base.Bp b ps q
  exact⟨more,by rw[dG (nx b _ z fun φ h=>by cases h)];exact z⟩
 ·obtain⟨h1,h2,h3⟩:=I.pin p hp
  exact⟨h1,nn _ h2,h3⟩
 ·have hb:b ≠ a:=fun z=>by rw[z,mU]at q;cases q
  rw[dG hb]at q
  refine(I.zp b u q).AA (fun c v _ z=>z) (fun c z=>?_) fun c xs z=>?_
  ·rw[dG (nx c _ z fun φ h=>by cases h)];exact z
  ·rw[dG (nx c _ z fun φ h=>by cases h)];exact z
section
variable {X:Cx}{C f:Addr}{x:Str}{p pos apos:Pos}{e:Expr}{es:List Expr}{t:TA}
noncomputable def xb (t:TA):TX:=fun σ H R=>t σ H fun vs H1=>vs.length <= sizeLine/\R none H1
theorem cj (hq:bE X.K C none=true)(kp:keepIn X.K (.ref C)=true)(hex:X.ex=[])(hg:Gl X x)(hm:X.mg x=some (.ref C))(ha:PA X (e :: es) t)
  (C2:autoParam ((x == ("__debug__":Str))=false) θ) (he:autoParam (starEach (e :: es) X.env=(false,eval e X.env) :: starEach es X.env) η) (Bj:autoParam ((backTo pos (starEach es X.env)).any (·.1)=false) η) :
  PX X (.Call (.Name x p) (e :: es) [] pos) C (xb t):=by
 intro pins s σ H R I h
 refine wpAny_Call_Name_kw (fT I hg hm ?_ C2)
 refine PySem.W.callWith_K (h₀:=X.base) I.ok.mod.BY kp (aW (ha pos pins s σ H _ I h) fun us s1 ⟨vs,H1,I1,r,hl,q⟩=>⟨I1.Al,?_⟩) he Bj
 obtain⟨bm,N,nm,qn,bs,AO,sn,sub,ab,col,dd,k0,k1,k2,k3,k5,mN,hC,hn,F0,T⟩:=lC I1.Al hq
 obtain⟨hp,g,d,tk,os⟩:=s1
 refine wpAny_call_exc_subT (hrest:=by show us.length <= _;rw[← r.length];exact hl) PySem.F.excBase_ValueError T hC hn F0 fun h' ea Cm=>?_
 obtain⟨tt,ht,_,_⟩:=Cm.there
 refine⟨ea,none,tt,H1,rfl,I1.kept (t':=tk) Cm.keeps,ht,I1.DI hex Cm.new,I1.zp.none_of Cm.new,fun p hp z=>?_,q⟩
 have:=(I1.pin p hp).1
 rw[z]at this
 have h2:=Cm.new
 rw[this]at h2
 cases h2
noncomputable def bV (e C t:Addr)(dd:Option Addr):HO := .ext fun h=>h.get? e=some (dC C t dd)
theorem jN {P:Program}{w:World}{H:Hp}{h:Heap}{e C t:Addr}{dd:Option Addr}(q:h.get? e=some (dC C t dd)):zL P w H h e (bV e C t dd) :=
 ⟨q,⟨_,q⟩,fun h1 h2 a b=>b _ a⟩
noncomputable def xc (C:Addr)(sp:Sp)(t:TA):TX:=fun σ H R=>t σ H fun vs H1=>vs.length <= sizeLine/\∀ e tt,H1 e=none->sp (.ref e :: vs) (upd H1 e (bV e C tt none)) (fun v H2=>v = .zD/\∃ dd,H2 e=some (bV e C tt dd)/\R dd (uq H2 e)) E0
theorem jb {k:Nat}{fd:FuncData}{ps:List Str}{sp:Sp}(hq:bE X.K C (some (.ref f))=true)(hf:isFn X.K (.ref f)=true)(kp:keepIn X.K (.ref C)=true)(F:zg X.prog X.w X.K X.mg X.base aD k f fd ps sp)(hr:zm (k + 1) X.A)(hb:Binds X.K fd ps [])
  (hg:Gl X x) (hm:X.mg x=some (.ref C)) (ha:PA X (e :: es) t)
  (C2:autoParam ((x == ("__debug__":Str))=false) θ) (he:autoParam (starEach (e :: es) X.env=(false,eval e X.env) :: starEach es X.env) η) (Bj:autoParam ((backTo pos (starEach es X.env)).any (·.1)=false) η) :
  PX X (.Call (.Name x p) (e :: es) [] pos) C (xc C sp t):=by
 intro pins s σ H R I h
 refine wpAny_Call_Name_kw (fT I hg hm ?_ C2)
 refine PySem.W.callWith_K (h₀:=X.base) I.ok.mod.BY kp (aW (ha pos pins s σ H _ I h) fun us s1 ⟨vs,H1,I1,r,hl,q⟩=>⟨I1.Al,?_⟩) he Bj
 obtain⟨bm,N,nm,qn,bs,AO,sn,sub,ab,col,dd,k0,k1,k2,k3,k5,mN,hC,hn,F0,T⟩:=lC I1.Al hq
 obtain⟨oI,U8,hcI⟩:∃ oI,s1.heap.get? f=some oI/\oI.cls = .type "function":=by
  have z:=beq_iff_eq.mp hf
  obtain⟨o,ho,z⟩:=Option.map_eq_some_iff.mp (show(X.K.lookup f).map (·.cls)=some (.type "function") from z)
  exact⟨o,I1.Al _ _ ho,z⟩
 obtain⟨hp,g,d,tk,os⟩:=s1
 dsimp only at hC hn T U8
 refine kQ (hrest:=by show us.length <= _;rw[← r.length];exact hl) PySem.F.excBase_ValueError T hC hn F0 U8 hcI ?_
 have nE:hp.objs.size <= hp.objs.size + 1:=le_succ _
 have U9:=q (hp.objs.size + 1) hp.objs.size (I1.zp.fresh nE)
 have GL:((hp.push { cls := .type "tuple",data := .seq us.toArray }).push (dC C hp.objs.size none)).get? (hp.objs.size + 1)=some (dC C hp.objs.size none):=by
  have:=Heap.get?_push_size (hp.push { cls := .type "tuple",data := .seq us.toArray }) (o:=dC C hp.objs.size none) rfl
  rwa [size_push]at this
 have I2:Inv X pins σ (upd H1 (hp.objs.size + 1) (bV (hp.objs.size + 1) C hp.objs.size none)) ⟨(hp.push { cls := .type "tuple",data := .seq us.toArray }).push (dC C hp.objs.size none),g,d,tk,os⟩ :=
  I1.laid (t':=tk) (fun b u z=>Heap.get?_push_of_some _ (Heap.get?_push_of_some _ z)) nE (jN GL)
 have r2:Vals (V.ref (hp.objs.size + 1) :: vs) (Value.ref (hp.objs.size + 1) :: us) := .cons rfl r
 have DE:(Value.ref (hp.objs.size + 1) :: us ++ []).length=ps.length:=by
  have e:=r2.length
  rw[F.len _ _ _ _ U9]at e
  rw[append_nil];exact e.symm
 have GN:=hb ⟨(hp.push { cls := .type "tuple",data := .seq us.toArray }).push (dC C hp.objs.size none),g,d,tk,os⟩ (Value.ref (hp.objs.size + 1) :: us) I2.Al DE
 rw[append_nil]at GN
 refine wpAny_call (codeAny_mono (F.run _ X.stack _ _ ⟨Value.ref (hp.objs.size + 1) :: us,[]⟩ (Value.ref (hp.objs.size + 1) :: us) _ _ E0 (hr.make C us []) (I2.G7.make C us []) GN r2 U9) fun rr s' BM=>?_)
 cases rr with
 | error e=>exact BM.elim
 | ok fl =>
  cases fl with
  | ret u =>
   obtain⟨v,H',I3,rv,ev,de,DK,q3⟩:=I2.after BM
   subst ev
   refine⟨rv,hp.objs.size + 1,de,hp.objs.size,uq H' (hp.objs.size + 1),rfl,I3.drop DK,(I3.zp _ _ DK).1,Heap.get?_none_of_le (le_trans I1.sz nE),mU,fun p BR z=>?_,q3⟩
   have:=lt_size (I1.pin p BR).1
   rw[z]at this
   exact absurd this (Nat.not_lt.mpr nE)
  | next=>exact False.elim BM
  | brk=>exact False.elim BM
  | cont=>exact False.elim BM
noncomputable def xh (C:Addr)(E:XK)(t:TX):TS:=fun _ σ H=>t σ H fun dd H1=>E (.ref C) dd H1
theorem bJ {E:XK}{tx:TX}{init:Option Value}(hc:X.calm=true)(hq:bE X.K C init=true)(hx:Bk X E)(h:PX X e C tx):PS X (.Raise (some e) none pos) (xh C E tx):=by
 intro pins s σ H D I hw
 rw[arm_exec_Raise]
 have key:wpAny (model X.prog X.w) X.A (eval e X.env) (fun v s₁=>∃ ea t de nm q N bs bm AO sn sub ab col dd k0 k1 k2 k3 k5 newId,v = .ref ea/\bm.contains (.type "BaseException")=true/\s₁.heap.get? C=some (excClassObj nm q C N bs bm AO sn sub ab col dd k0 k1 k2 k3 k5 newId) /\
   s₁.heap.get? ea=some { cls := .ref C,dict:=de,data := .fields #[.ref t, .none, .none, .none, .bool false, .none] }/\X.xe (.ref ea) s₁) X.xe s:=by
  refine aW (h pins s σ H _ I hw) fun u s1 zk=>?_
  obtain⟨ea,dd,tt,H',eu,I1,ho,hn,hh,hp,q⟩:=zk
  obtain⟨bm,N,nm,qn,bs,AO,sn,sub,ab,col,ddc,k0,k1,k2,k3,k5,mN,hC,Ir,F0,T⟩:=lC I1.Al hq
  refine⟨ea,tt,dd,nm,qn,N,bs,bm,AO,sn,sub,ab,col,ddc,k0,k1,k2,k3,k5,_,eu,qx T,hC,ho,hx pins σ _ _ ⟨ea, .ref C,dd,[ea],H',rfl,I1,⟨_,_,ho,rfl,rfl,rfl, .inl ⟨rfl,rfl⟩⟩,fun b hb=>?_,q⟩⟩
  simp only[mem_singleton]at hb
  subst hb
  exact⟨hn,hh,hp⟩
 first
  | refine wpAny_bind (wpAny_standAt (gB (C:=C) (I.ok.hd hc) (wpAny_bind (wpAny_mono key (fun v s₃ h₃=>wpAny_bind (wpAny_standAt (wpAny_pure h₃))) fun _ _ x=>x))))
  | (simp only[evalOpt,Option.map];refine wpAny_bind (wpAny_standAt (gB (C:=C) (I.ok.hd hc) (wpAny_bind (wpAny_mono key (fun v s₃ h₃=>wpAny_bind (wpAny_standAt (wpAny_pure h₃))) fun _ _ x=>x)))))
end
section
variable {prog:Program}{w:World}{A:Around}{E:Value->Shared->Prop}{s:Shared}{K:Frag}{x C:Addr}{ox:Obj}{od:Option Obj}{name:Str}{v:Value}
open PySem.W in
open PySem.W in
end
section
variable {X:Cx}{pins:List (Addr × Obj)}{σ:St}{H:Hp}{s:Shared}{ea:Addr}{oe:Obj}
end
noncomputable def JS (K:Frag)(ta tv:TE)(f:Str):TS:=fun D σ H=>tv σ H fun y H1=>ta σ H1 fun x H2=>∃ a C tt,x = .ref a/\H2 a=some (bV a C tt none)/\gs K C/\findIn K (.ref C) f=some none /\
 ∀ d,H2 d=none->D.nx σ (upd (upd H2 d (.xd [(f,y)])) a (bV a C tt (some d)))
section
variable {X:Cx}{o e value:Expr}{f:Str}{pos pos':Pos}{ta tv:TE}
theorem lq (ha:PE X o ta)(hv:PE X value tv)(hs:swapsWith value (some (.Attribute o f pos')) pos.line X.env=pure false):PS X (.Assign [.Attribute o f pos'] value pos) (JS X.K ta tv f):=by
 intro pins s σ H D I h
 refine plainObj_wpAny_Assign_Attribute (aW (hv pins s σ H _ I h) fun u s1 ⟨y,H1,I1,ry,q⟩=>aW (ha pins s1 σ H1 _ I1 q) fun ov s2 zk=>?_) hs
 obtain⟨x,H2,I2,rx,a,C,tt,ex,ea,c,n,q2⟩:=zk
 subst ex
 obtain rfl:ov=Value.ref a:=rx
 have ho:s2.heap.get? a=some (dC C tt none):=(I2.zp a _ ea).1
 have zT:a < s2.heap.objs.size:=lt_size ho
 refine lQ I2.Al ho c n fun h' t' BQ Ct hk=>⟨σ,_,?_,q2 s2.heap.objs.size (I2.zp.fresh (Nat.le_refl _))⟩
 obtain⟨od,es,ep,Dz,r⟩:=id Ct
 have Df:od.isFreed=false:=(Heap.get?_some_iff.mp Dz).2
 have Cn:(s2.heap.push od).get? s2.heap.objs.size=some od:=Heap.get?_push_size s2.heap Df
 have I3:=I2.laid (a:=s2.heap.objs.size) (o := .xd [(f,y)]) (h':=s2.heap.push od) (t':=s2.toks) (fun b u z=>Heap.get?_push_of_some _ z) (Nat.le_refl _)
  ⟨_,Ct.at (fun o z=>by rw[Dz]at z;cases z;exact Cn),fun g=>by
   by_cases hg:g=f
   ·have hb:(g == f)=true:=beq_iff_eq.mpr hg
    simp only[List.lookup,hb,if_pos hg]
    exact ry
   ·have hb:(g == f)=false:=beq_eq_false_iff_ne.mpr hg
    simp only[List.lookup,hb,if_neg hg]
    trivial⟩
 have zV:a ≠ s2.heap.objs.size:=ne_of_lt zT
 refine I3.write (x:=a) (e:=a) (h':=h') (t':=t') (by rw[ae zV,ea];exact True.intro) (.inl rfl) (fun b u hb z=>?_) ⟨_,BQ⟩ (jN BQ)
 by_cases JT:b=s2.heap.objs.size
 ·subst JT
  have z':(s2.heap.push od).get? s2.heap.objs.size=some u:=z
  rw[Cn]at z'
  cases z'
  exact Dz
 ·have z':s2.heap.get? b=some u:=by
   have z0:(s2.heap.push od).get? b=some u:=z
   exact(Heap.get?_push_cases z0).elim (fun w=>absurd w.1 JT) fun w=>w
  exact hk b u hb z'
end
section
variable {P:Program}{w:World}{K:Frag}{mg:Str->Option Value}{base:Heap}
theorem zH.Ei {x qual:Str}{st:Stmt}{f:Addr}{fd:FuncData}{N ps:List Str}{k:Nat}{sp:Sp}(F:zH K x qual st f fd)(S:ao N ps (ah st))(len:∀ vs H Q E,sp vs H Q E->vs.length=ps.length)
  (Aj:∀ (cdv:Value)(A:Around)(outer:List Env)(s:Shared)(H:Hp)(vs:List V)(Q:VK)(E:XK),zm k (A.deeper (envOfC qual (ah st) s.heap.objs.size f cdv))->sp vs H Q E ->
   ∃ t,Bi (iG (e7 P w) P w K mg base N qual (ah st) f cdv A outer s H E) (aG st) t/\t { nx:=fun _ H'=>Q .zD H',rt:=Q } (start N vs) H):zg P w K mg base (e7 P w) (k + 1) f fd ps sp:=by
 obtain⟨oc,od,kV,doc,pm,an,cdv,ct,BZ,rfl,lk,Bc⟩:=F.ex
 exact qi lk Bc S len fun A outer s H vs Q E hr BN=>Aj cdv A outer s H vs Q E hr BN
end
theorem i5 {P:Program}{w:World}{X:Cx}:cC (e7 P w) X E0:=fun _ _ _ _ _ _ _ zk=>by obtain⟨_,_,_,_,_,_,_,_,_,_,_,_,h⟩:=zk;exact h.elim
section
variable {X:Cx}{k:Nat}{f C:Addr}{fd:FuncData}{ps:List Str}{sp:Sp}{zP:List V}{ds:List Value}{x m:Str}{p pos apos:Pos}{e o:Expr}{es:List Expr}{ta:TE}{t:TA}
end
section
variable {X:Cx}{e:Expr}{t:St->Hp->VK->XK->Prop}{pos CZ:Pos}{n:Str}{i:Nat}
end
section
variable {M:Model}{A:Around}{E:Value->Shared->Prop}{s:Shared}
end
end L2
namespace PySem
open Sem (wp)
open AutoSeq1 (wpAny_loadPart')
theorem e8 (l:Addr)(items:Array Value)(n:Nat)(P0:Option Addr)(sl:Array (Option Value)) :
  Meets (Builtin.«enumerate.__new__» ⟨[.type "enumerate", .ref l],[]⟩) (fun _ R s=>s.heap.get? l=some { cls := .type "tuple",dict:=P0,data := .seq items n,slots:=sl } /\
   R (.ok (.ret (.ref (s.heap.push { cls := .type "tuple_iterator",data := .fields #[.ref l, .int 0 0] }).objs.size)))
    { s with heap:=(s.heap.push { cls := .type "tuple_iterator",data := .fields #[.ref l, .int 0 0] }).push { cls := .type "enumerate",data := .fields #[.none, .bool false, .ref s.heap.objs.size,rawInt 0, .none, .none] } }) :=
 .of_wp fun prog w A R s h=>by
  obtain⟨hp,g,d,tk,os⟩:=s;obtain⟨hl,h⟩:=h
  have hsub:=sub_enumerate
  have hL:Heap.IsTuple (Shared.heap ⟨hp,g,d,tk,os⟩) l items:=⟨_,hl,rfl,n,rfl⟩
  wp_walk using wpAny_loadPart' hl
  refine wpAny_stack_any fun st=>wpAny_pure ?_
  split
  ·rename_i c _ _ _ _ _
   cases (c == Value.type "enumerate")
   ·wp_walk using wpAny_loadPart' hl,wpAny_pyIter_tuple hL
    exact⟨_,rfl,h⟩
   ·wp_walk using wpAny_loadPart' hl,wpAny_pyIter_tuple hL
    exact⟨_,rfl,h⟩
  ·wp_walk using wpAny_loadPart' hl,wpAny_pyIter_tuple hL
   exact⟨_,rfl,h⟩
section
variable {prog:Program}{w:World}{A:Around}{E:Value->Shared->Prop}{s:Shared}
theorem e9 {l:Addr}{items:Array Value}{Q:Value->Shared->Prop}(hL:s.heap.IsTuple l items)
  (h:∀ h',IsEnum h' (s.heap.objs.size + 1) s.heap.objs.size 0 .none->h'.IsTupleIter s.heap.objs.size l 0->h'.objs.size=s.heap.objs.size + 2 ->
   (∀ b o,s.heap.get? b=some o->h'.get? b=some o)->Q (.ref (s.heap.objs.size + 1)) { s with heap:=h' }) :
  wpAny (model prog w) A (call (.type "enumerate") [.ref l]) Q E s:=by
 obtain⟨⟨c,P0,dt,sl⟩,hl,hc,n,hd⟩:=hL
 replace hc:c = .type "tuple":=hc
 replace hd:dt = .seq items n:=hd
 subst hc hd
 refine callType_new F.called_enumerate (by decide) (F.typeCall_enumerate_1 _) (F.newCall_enumerate_1 _) (fun obj=>F.args_object_init_2 obj _) F.entry_enumerate_new
  (e8 l items n P0 sl) ⟨hl,?_⟩
 have hz:(s.heap.push { cls := .type "tuple_iterator",data := .fields #[.ref l, .int 0 0] }).objs.size=s.heap.objs.size + 1:=size_push ..
 show _/\_
 rw[hz]
 have he:IsEnum ((s.heap.push { cls := .type "tuple_iterator",data := .fields #[.ref l, .int 0 0] }).push
   { cls := .type "enumerate",data := .fields #[.none, .bool false, .ref s.heap.objs.size,rawInt 0, .none, .none] }) (s.heap.objs.size + 1) s.heap.objs.size 0 .none:=by
  have:=Heap.get?_push_size (s.heap.push { cls := .type "tuple_iterator",data := .fields #[.ref l, .int 0 0] })
   (o:={ cls := .type "enumerate",data := .fields #[.none, .bool false, .ref s.heap.objs.size,rawInt 0, .none, .none] }) rfl
  rw[hz]at this;exact this
 refine⟨⟨_,he,rfl⟩,h _ he ⟨_,Heap.get?_push_of_some _ (Heap.get?_push_size _ rfl),rfl,rfl⟩ (by rw[size_push,hz]) fun b o x=>Heap.get?_push_of_some _ (Heap.get?_push_of_some _ x)⟩
theorem fV {it l:Addr}{i:Nat} {items} {x:Value} {Q:Value->Shared->Prop} (hit:s.heap.IsTupleIter it l i)
  (hl:s.heap.IsTuple l items) (hx:items[i]? = some x)
  (hQ:∀ h',h'.IsTupleIter it l (i + 1)->Heap.SameBut it s.heap h'->Q x { s with heap:=h' }) :
  wpAny (model prog w) A (Builtin.SmallTypes.nextOf (.ref it)) Q E s:=by
 obtain⟨o,ho,hc,hd⟩:=id hit
 obtain⟨ol,N0,_,nl,Cu⟩:=hl
 unfold Builtin.SmallTypes.nextOf
 refine wpAny_bind (wpAny_callSpecial?_slot (name:=Str.ofString "__next__") hit.typeIs F.slot_tuple_iterator_next
  (wpAny_call_entry F.slot_tuple_iterator_next hit.typeIs F.entry_tuple_iterator_next ?_ (F.args_tuple_iterator_next_1 _)))
 show wpAny _ _ (field (.ref it) 0 >>= _) _ _ s
 refine wpAny_bind (wpAny_field ho hd (x := .ref l) rfl ?_)
 show wpAny _ _ (if (Value.ref l == Value.none)=true then _ else _) _ _ s
 rw[if_neg (show ¬ ((Value.ref l == Value.none)=true) from Bool.false_ne_true)]
 show wpAny _ _ (field (.ref it) 1 >>= _) _ _ s
 refine wpAny_bind (wpAny_field ho hd (x := .int i 0) rfl ?_)
 show wpAny _ _ (seqItems? (.ref l) >>= _) _ _ s
 refine wpAny_bind (wpAny_seqItems N0 Cu ?_)
 simp only[toNat_natCast,hx]
 refine wpAny_bind (wpAny_setField ho hd (by simp) (wpAny_pure ⟨x,rfl,wpAny_pure (hQ _ ?_ (Heap.SameBut.update ..))⟩))
 exact⟨_,Heap.get?_update_self _ ho (Obj.isFreed_of_fields (Obj.data_mapFields hd _)),(Obj.cls_mapFields ..).trans hc,by
  rw[Obj.data_mapFields hd];simp[rawInt]⟩
theorem gf {it l:Addr}{i:Nat} {items} {Q:Value->Shared->Prop} (hh:A.handled=none)
  (hit:s.heap.IsTupleIter it l i) (hl:s.heap.IsTuple l items) (hx:items[i]? = none)
  (hE:∀ h' e,Heap.ExtBut it s.heap h'->(∃ o,h'.get? e=some o/\o.cls = .type "StopIteration")->E (.ref e) { s with heap:=h' }) :
  wpAny (model prog w) A (Builtin.SmallTypes.nextOf (.ref it)) Q E s:=by
 obtain⟨o,ho,hc,hd⟩:=id hit
 obtain⟨ol,N0,_,nl,Cu⟩:=hl
 unfold Builtin.SmallTypes.nextOf
 refine wpAny_bind (wpAny_callSpecial?_slot (name:=Str.ofString "__next__") hit.typeIs F.slot_tuple_iterator_next
  (wpAny_call_entry F.slot_tuple_iterator_next hit.typeIs F.entry_tuple_iterator_next ?_ (F.args_tuple_iterator_next_1 _)))
 show wpAny _ _ (field (.ref it) 0 >>= _) _ _ s
 refine wpAny_bind (wpAny_field ho hd (x := .ref l) rfl ?_)
 show wpAny _ _ (if (Value.ref l == Value.none)=true then _ else _) _ _ s
 rw[if_neg (show ¬ ((Value.ref l == Value.none)=true) from Bool.false_ne_true)]
 show wpAny _ _ (field (.ref it) 1 >>= _) _ _ s
 refine wpAny_bind (wpAny_field ho hd (x := .int i 0) rfl ?_)
 show wpAny _ _ (seqItems? (.ref l) >>= _) _ _ s
 refine wpAny_bind (wpAny_seqItems N0 Cu ?_)
 simp only[toNat_natCast,hx]
 refine wpAny_bind (wpAny_rule (wpAny_bind (wpAny_setField ho hd (by simp) ?_)))
 show wpAny _ _ (newExc (.type "StopIteration") [] >>= _) _ _ _
 refine wpAny_bind ?_
 simp only[newExc,newTuple]
 refine wpAny_bind (wpAny_newObj_type ?_ (by size_fits))
 refine wpAny_bind (m:=firstArgMember _ _) (wpAny_of_eq (a:=Value.none) (by first | rfl | (simp only[firstArgMember];rfl)) ?_)
 refine wpAny_newObj_type ?_ (by size_fits)
 simp only[raiseNew]
 refine wpAny_bind (wpAny_handled ?_)
 first | rw[show A.in1.handled=none from hh] | rw[hh]
 refine wpAny_bind (wpAny_pure (wpAny_throw ?_))
 exact hE _ _ (((Heap.SameBut.update ..).extBut.push _).push _) ⟨_,Heap.get?_push_size _ rfl,rfl⟩
end
theorem fY {prog:Program}{w:World}{A:Around}(hh:A.handled=none)(it l:Addr)(zV:l ≠ it)(items:Array Value) :
  Draws prog w A it [it,l] items.size (fun i v=>items[i]? = some v) (fun i h=>h.IsTupleIter it l i/\h.IsTuple l items) where
 live:=fun _ _ st=>let ⟨o,ho,_⟩:=st.1; ⟨o,ho⟩
 frame:=fun _ _ _ st hk=>⟨st.1.at fun o e=>hk it (by simp) o e,let ⟨o,ho,r⟩:=st.2; ⟨o,hk l (by simp) o ho,r⟩⟩
 item:=fun i s Q E hi st hQ=>by
  refine fV st.1 st.2 (x:=items[i]) (by simp[hi]) fun h' P2 N2=>?_
  exact hQ _ h' s.toks (by simp[hi]) ⟨P2,let ⟨o,ho,r⟩:=st.2; ⟨o,N2.extBut l o zV ho,r⟩⟩ N2
 done:=fun s Q E st hE=>gf hh st.1 st.2 (by simp) hE
end PySem
namespace L2
open PySem PySem.Spec PyProof.Rows
section
variable {X:Cx}{pins:List (Addr × Obj)}{σ:St}{H:Hp}{s:Shared}
theorem Inv.GP {h':Heap}{t':Nat}{a b p:Addr}{xs:List V}{us:List Value}(I:Inv X pins σ H s)(fa:fX X pins H a)(fb:fX X pins H b)(hp:s.heap.objs.size <= p)
  (k:∀ c o,c ≠ a->c ≠ b->s.heap.get? c=some o->h'.get? c=some o) (ka:∃ o,h'.get? a=some o) (kb:∃ o,h'.get? b=some o) (hl:xs.length <= sizeLine) (r:Vals xs us) (ht:Aw h' p us.toArray) :
  Inv X pins σ (upd H p (.tup xs)) { s with heap:=h',toks:=t' }:=by
 have hf:H p=none:=I.zp.fresh hp
 have nt:∀ c u,H c=some u->c ≠ p:=fun c u q z=>by rw[z,hf]at q;cases q
 have lt:∀ c o,s.heap.get? c=some o->c ≠ p:=fun c o q=>ne_of_lt (lt_of_lt_of_le (lt_size q) hp)
 have ne:∀ c,c ∉ [a,b]->c ≠ a/\c ≠ b:=fun c hc=>by simpa using hc
 refine I.call (g':=s.gens) (d':=s.drawn) (ch:=[a,b]) ⟨fun c o e n h1 h2=>k c o (ne c h2).1 (ne c h2).2 e,fun c o e n h1 h2=>⟨o.slots,k c o (ne c h2).1 (ne c h2).2 e⟩,fun c o e n h2=>by rw[ae (lt c o e)];exact n,
  fun c o e h2=>⟨o,k c o (ne c h2).1 (ne c h2).2 e⟩,fun c ys q=>by rw[ae (nt c _ q)];exact q,fun c o u q=>by rw[ae (nt c _ q)];exact q,fun c ps q=>⟨#[],by rw[ae (nt c _ q),q];simp⟩⟩ (fun c u q=>?_) I.bare fun c hc=>?_
 ·by_cases hc:c=p
  ·subst hc
   rw[ac]at q
   cases q
   exact⟨hl,us,r,ht⟩
  ·rw[ae hc]at q
   refine(I.zp c u q).AA (fun d v hd z=>?_) (fun d z=>by rw[ae (nt d _ z)];exact z) fun d ys z=>by rw[ae (nt d _ z)];exact z
   have nd:∀ e,H e=none->d ≠ e:=fun e he w=>by
    rcases hd with rfl | hd
    ·rw[w,he]at q;cases q
    ·rw[w,he]at hd;cases hd
   exact k d v (nd a fa.1) (nd b fb.1) z
 ·have Dy:c=a∨c=b:=by simpa using hc
  rcases Dy with rfl | rfl
  ·obtain⟨_,f1,_,f3,f4,f5⟩:=fa;exact⟨f3,f1,f4,f5⟩
  ·obtain⟨_,f1,_,f3,f4,f5⟩:=fb;exact⟨f3,f1,f4,f5⟩
theorem Inv.CL {h':Heap}{t':Nat}{a b:Addr}(I:Inv X pins σ H s)(fa:fX X pins H a)(fb:fX X pins H b)
  (k:∀ c o,c ≠ a->c ≠ b->s.heap.get? c=some o->h'.get? c=some o):Inv X pins σ H { s with heap:=h',toks:=t' }:=by
 have ne:∀ c,c ∉ [a,b]->c ≠ a/\c ≠ b:=fun c hc=>by simpa using hc
 refine I.call (g':=s.gens) (d':=s.drawn) (ch:=[a,b]) ⟨fun c o e n h1 h2=>k c o (ne c h2).1 (ne c h2).2 e,fun c o e n h1 h2=>⟨o.slots,k c o (ne c h2).1 (ne c h2).2 e⟩,fun c o e n h2=>n,
  fun c o e h2=>⟨o,k c o (ne c h2).1 (ne c h2).2 e⟩,fun c ys q=>q,fun c o u q=>q,fun c ps q=>⟨#[],by rw[q];simp⟩⟩ (fun c u q=>?_) I.bare fun c hc=>?_
 ·refine(I.zp c u q).AA (fun d v hd z=>?_) (fun d z=>z) fun d ys z=>z
  have nd:∀ e,H e=none->d ≠ e:=fun e he w=>by
   rcases hd with rfl | hd
   ·rw[w,he]at q;cases q
   ·rw[w,he]at hd;cases hd
  exact k d v (nd a fa.1) (nd b fb.1) z
 ·have Dy:c=a∨c=b:=by simpa using hc
  rcases Dy with rfl | rfl
  ·obtain⟨_,f1,_,f3,f4,f5⟩:=fa;exact⟨f3,f1,f4,f5⟩
  ·obtain⟨_,f1,_,f3,f4,f5⟩:=fb;exact⟨f3,f1,f4,f5⟩
theorem kH {e it:Addr}{fp:List Addr}{n i:Nat}{P:Nat->Value->Prop}{Sx:Nat->Heap->Prop}{old:Value}{xs:List V}{E:Value->Shared->Prop}{elts:List Expr}{kk:Nat}{pos:Pos}
  (D:Draws X.prog X.w X.A.in1 it fp n P Sx) (I:Inv X pins σ H s) (he:IsEnum s.heap e it i old) (D9:Sx i s.heap) (zT:i < n) (zV:e ≠ it) (UA:e ∉ fp) (fe:fX X pins H e) (fi:fX X pins H it)
  (hP:∀ v,P i v->∃ x,xs[i]? = some x/\RelV x v) :
  wpAny (model X.prog X.w) X.A (pyNext (.ref e)) (fun r s1=>∃ u,r=some u/\wpAny (model X.prog X.w) X.A (letOwnedTupleGo (.Tuple elts kk pos) (.ref e) u) (fun _ s2=>∃ p x,xs[i]? = some x/\H p=none/\u = .ref p /\
   Inv X pins σ (upd H p (.tup [.int i,x])) s2/\(∃ old,IsEnum s2.heap e it ((i + 1:Nat):Int) old)/\Sx (i + 1) s2.heap/\p ≠ e/\p ≠ it) E s1) E s:=by
 refine wpAny_pyNext_enum_itemD D he D9 zT zV UA fun x h' tk hx ho N2 hT hsz hk=>⟨_,rfl,?_⟩
 refine wpAny_letOwnedTupleGo_enum ho fun h2 Ej Eg=>?_
 obtain⟨y,hy,ry⟩:=hP x hx
 have UB:e < s.heap.objs.size:=lt_size he
 have hie:it < s.heap.objs.size:=by obtain⟨_,z⟩:=D.live _ _ D9;exact lt_size z
 have JU:Sx (i + 1) h2:=D.frame _ _ _ N2 fun b hb o z=>(Eg.2 b fun q=>UA (q ▸ hb)).trans z
 refine⟨s.heap.objs.size,y,hy,I.zp.fresh (Nat.le_refl _),rfl,?_,⟨x,by simpa using Ej⟩,JU,ne_of_gt UB,ne_of_gt hie⟩
 refine Inv.GP (s:=s) (h':=h2) (t':=tk + 1) I fe fi (Nat.le_refl _) (fun c o h1 h2' z=>(Eg.2 c h1).trans (hk c o h1 h2' z)) ⟨_,Ej⟩ (let ⟨o,z⟩:=D.live _ _ JU; ⟨o,z⟩) (by show 2 <= sizeLine;decide) (us:=[.int i tk,x]) (.cons ⟨tk,rfl⟩ (.cons ry .nil)) ?_
 exact⟨_,(Eg.2 _ (ne_of_gt UB)).trans hT,⟨rfl,_,rfl⟩,rfl⟩
end
noncomputable def zd (sq:Hp->List V->Prop):It :=
 ⟨fun i H=>∃ xs x,sq H xs/\xs[i]? = some x,fun i H v H'=>∃ p,H p=none/\v = .ref p/\∀ xs,sq H xs->∃ x,xs[i]? = some x/\H' = upd H p (.tup [.int i,x]),fun i H=>∃ xs,sq H xs/\xs.length=i⟩
theorem nJ {P:Program}{w:World}{K:Frag}{elts:List Expr}{kk:Nat}{pos:Pos}(a e it:Addr)(zV:e ≠ it):pb P w K (.Tuple elts kk pos) (zd fun H=>zj K H a) [e,it] e (fun i h=>(∃ old,IsEnum h e it (i:Int) old)/\h.IsListIter it a i) where
 mem:=by simp
 obj:=fun i h st b hb=>by
  obtain⟨⟨old,he⟩,o,ho,c,d⟩:=st
  have B9:b=e∨b=it:=by simpa using hb
  rcases B9 with rfl | rfl
  ·exact⟨_,he,fun v z=>by have z':Data.fields _=Data.cell v:=z;cases z'⟩
  ·exact⟨o,ho,fun v z=>by rw[d]at z;cases z⟩
 keep:=fun i h h' st k=>by
  obtain⟨⟨old,he⟩,hi⟩:=st
  exact⟨⟨old,k e (by simp) _ he⟩,hi.at fun o z=>k it (by simp) o z⟩
 item:=by
  intro X hP hw hK hc i pins s σ H E I hf st hg
  subst hP hw hK
  obtain⟨xs,x,hq,hx⟩:=hg
  obtain⟨zl,rv,p,hz⟩:=I.list hq
  obtain⟨⟨old,he⟩,hi⟩:=st
  have hl:i < zl.toArray.size:=by
   have:=(gQ0 hx)
   have l2:=rv.length
   simp;omega
  have P4:e ≠ a:=by
   rintro rfl
   obtain⟨o,ho,Dg,_⟩:=p.isList
   rw[he]at ho;cases ho
   injection Dg with z;exact absurd z (by decide)
  have GQ:a ≠ it:=by
   rintro rfl
   obtain⟨o,ho,Dg,_⟩:=p.isList
   obtain⟨o2,Bq,Cf,_⟩:=hi
   rw[ho]at Bq;cases Bq;rw[Dg]at Cf
   injection Cf with z;exact absurd z (by decide)
  refine aW (kH (xs:=xs) (Draws.list (A:=X.A.in1) (I.ok.hd hc) it a GQ zl.toArray) I he ⟨hi,p.isList⟩ hl zV (by simp only[mem_cons,not_mem_nil,or_false,not_or];exact⟨zV,P4⟩) (hf e (by simp)) (hf it (by simp)) fun v hv=>?_) fun r s1 ⟨u,hr,h1⟩=>⟨u,hr,aW h1 fun _ s2 ⟨q,y,hy,P5,hu,I2,Ej,Eg,n1,n2⟩=>?_⟩
  ·obtain⟨u,hu,ru⟩:=rv.get hx
   have e1:zl[i]? = some v:=by simpa using hv
   rw[hu]at e1;cases e1
   exact⟨x,hx,ru⟩
  ·refine⟨.ref q,_,I2,hu,⟨q,P5,rfl,fun zs P6=>⟨y,by rw[I.Cd P6 hq];exact hy,rfl⟩⟩,⟨Ej,Eg.1⟩,fun b hb=>?_⟩
   have B9:b=e∨b=it:=by simpa using hb
   rcases B9 with rfl | rfl
   ·rw[ae (Ne.symm n1)];exact(hf b (by simp)).1
   ·rw[ae (Ne.symm n2)];exact(hf b (by simp)).1
 done:=by
  intro X hP hw hK hc i pins s σ H E I hf st hg
  subst hP hw hK
  obtain⟨xs,hq,hx⟩:=hg
  obtain⟨zl,rv,p,hz⟩:=I.list hq
  obtain⟨⟨old,he⟩,hi⟩:=st
  have hl:i=zl.toArray.size:=by have l2:=rv.length;simp;omega
  have GQ:a ≠ it:=by
   rintro rfl
   obtain⟨o,ho,Dg,_⟩:=p.isList
   obtain⟨o2,Bq,Cf,_⟩:=hi
   rw[ho]at Bq;cases Bq;rw[Dg]at Cf
   injection Cf with z;exact absurd z (by decide)
  refine wpAny_pyNext_enum_endD (Draws.list (A:=X.A.in1) (I.ok.hd hc) it a GQ zl.toArray) he (by rw[← hl];exact⟨hi,p.isList⟩) fun h' BQ=>⟨rfl,?_⟩
  exact I.CL (t':=s.toks) (hf e (by simp)) (hf it (by simp)) fun c o h1 h2 z=>BQ c o h2 z
 self:=fun _ _ _ _ _ st h=>by
  obtain⟨⟨old,he⟩,_⟩:=st
  exact wpAny_pyIter_enum he h
theorem nI {P:Program}{w:World}{K:Frag}{elts:List Expr}{kk:Nat}{pos:Pos}(a e it:Addr)(zV:e ≠ it):pb P w K (.Tuple elts kk pos) (zd fun H=>zt K H a) [e,it] e (fun i h=>(∃ old,IsEnum h e it (i:Int) old)/\h.IsTupleIter it a i) where
 mem:=by simp
 obj:=fun i h st b hb=>by
  obtain⟨⟨old,he⟩,o,ho,c,d⟩:=st
  have B9:b=e∨b=it:=by simpa using hb
  rcases B9 with rfl | rfl
  ·exact⟨_,he,fun v z=>by have z':Data.fields _=Data.cell v:=z;cases z'⟩
  ·exact⟨o,ho,fun v z=>by rw[d]at z;cases z⟩
 keep:=fun i h h' st k=>by
  obtain⟨⟨old,he⟩,hi⟩:=st
  exact⟨⟨old,k e (by simp) _ he⟩,hi.at fun o z=>k it (by simp) o z⟩
 item:=by
  intro X hP hw hK hc i pins s σ H E I hf st hg
  subst hP hw hK
  obtain⟨xs,x,hq,hx⟩:=hg
  obtain⟨zl,rv,p,hz⟩:=I.tuple hq
  have pt:s.heap.IsTuple a zl.toArray:=p
  obtain⟨⟨old,he⟩,hi⟩:=st
  have hl:i < zl.toArray.size:=by
   have:=(gQ0 hx)
   have l2:=rv.length
   simp;omega
  have P4:e ≠ a:=by
   rintro rfl
   obtain⟨o,ho,Dg,_⟩:=pt
   rw[he]at ho;cases ho
   injection Dg with z;exact absurd z (by decide)
  have GQ:a ≠ it:=by
   rintro rfl
   obtain⟨o,ho,Dg,_⟩:=pt
   obtain⟨o2,Bq,Cf,_⟩:=hi
   rw[ho]at Bq;cases Bq;rw[Dg]at Cf
   injection Cf with z;exact absurd z (by decide)
  refine aW (kH (xs:=xs) (fY (A:=X.A.in1) (I.ok.hd hc) it a GQ zl.toArray) I he ⟨hi,pt⟩ hl zV (by simp only[mem_cons,not_mem_nil,or_false,not_or];exact⟨zV,P4⟩) (hf e (by simp)) (hf it (by simp)) fun v hv=>?_) fun r s1 ⟨u,hr,h1⟩=>⟨u,hr,aW h1 fun _ s2 ⟨q,y,hy,P5,hu,I2,Ej,Eg,n1,n2⟩=>?_⟩
  ·obtain⟨u,hu,ru⟩:=rv.get hx
   have e1:zl[i]? = some v:=by simpa using hv
   rw[hu]at e1;cases e1
   exact⟨x,hx,ru⟩
  ·refine⟨.ref q,_,I2,hu,⟨q,P5,rfl,fun zs P6=>⟨y,by rw[I.BK P6 hq];exact hy,rfl⟩⟩,⟨Ej,Eg.1⟩,fun b hb=>?_⟩
   have B9:b=e∨b=it:=by simpa using hb
   rcases B9 with rfl | rfl
   ·rw[ae (Ne.symm n1)];exact(hf b (by simp)).1
   ·rw[ae (Ne.symm n2)];exact(hf b (by simp)).1
 done:=by
  intro X hP hw hK hc i pins s σ H E I hf st hg
  subst hP hw hK
  obtain⟨xs,hq,hx⟩:=hg
  obtain⟨zl,rv,p,hz⟩:=I.tuple hq
  have pt:s.heap.IsTuple a zl.toArray:=p
  obtain⟨⟨old,he⟩,hi⟩:=st
  have hl:i=zl.toArray.size:=by have l2:=rv.length;simp;omega
  have GQ:a ≠ it:=by
   rintro rfl
   obtain⟨o,ho,Dg,_⟩:=pt
   obtain⟨o2,Bq,Cf,_⟩:=hi
   rw[ho]at Bq;cases Bq;rw[Dg]at Cf
   injection Cf with z;exact absurd z (by decide)
  refine wpAny_pyNext_enum_endD (fY (A:=X.A.in1) (I.ok.hd hc) it a GQ zl.toArray) he (by rw[← hl];exact⟨hi,pt⟩) fun h' BQ=>⟨rfl,?_⟩
  exact I.CL (t':=s.toks) (hf e (by simp)) (hf it (by simp)) fun c o h1 h2 z=>BQ c o h2 z
 self:=fun _ _ _ _ _ st h=>by
  obtain⟨⟨old,he⟩,_⟩:=st
  exact wpAny_pyIter_enum he h
section
variable {X:Cx}{elts:List Expr}{kk:Nat}{CZ p pos:Pos}{a:Expr}{ta:TE}
noncomputable def P7 (K:Frag)(t:TA):TI:=fun σ H R=>t σ H fun vs H1=>∃ a,vs=[.ref a]/\(∃ xs,zj K H1 a xs)/\R (zd fun H=>zj K H a) H1
noncomputable def P8 (K:Frag)(t:TA):TI:=fun σ H R=>t σ H fun vs H1=>∃ a,vs=[.ref a]/\(∃ xs,zt K H1 a xs)/\R (zd fun H=>zt K H a) H1
theorem mx {t:TA}(hg:Gl X "enumerate")(hm:X.mg "enumerate" = none)(ha:PA X [a] t)(hs:autoParam (starEach [a] X.env=[(false,eval a X.env)]) η):PI X (.Tuple elts kk CZ) (.Call (.Name "enumerate" p) [a] [] pos) (P7 X.K t):=by
 intro pins s σ H R I h
 refine Call_ (iC I hg hm boot_enumerate (PyProof.Rows.callWith_type1 (aW (ha pos pins s σ H _ I h) fun us s1 zk=>?_) hs rfl))
 obtain⟨vs,H1,I1,r1,q1⟩:=zk
 obtain⟨l,e,⟨xs,hq⟩,q⟩:=q1
 subst e
 cases r1 with
 | cons r rr =>
  cases rr
  cases r
  obtain⟨zl,rv,pp,hz⟩:=I1.list hq
  refine call_enumerate_list pp.isList fun h' he hit hsz hk=>?_
  have I2:Inv X pins σ H1 { s1 with heap:=h' }:=I1.kept (t':=s1.toks) hk
  refine wpAny_pyIter_enum (s:={ s1 with heap:=h' }) he ?_
  refine⟨_,_,_,_,H1,rfl,I2,nJ l _ s1.heap.objs.size (Nat.succ_ne_self _),⟨⟨_,he⟩,hit⟩,fun b hb=>?_,q⟩
  have B9:b=s1.heap.objs.size + 1∨b=s1.heap.objs.size:=by simpa using hb
  have hle:s1.heap.objs.size <= b:=by
   rcases B9 with e | e
   ·rw[e];exact le_succ _
   ·rw[e];exact Nat.le_refl _
  exact I1.DA hle (I1.zp.fresh hle)
theorem mq {t:TA}(hg:Gl X "enumerate")(hm:X.mg "enumerate" = none)(ha:PA X [a] t)(hs:autoParam (starEach [a] X.env=[(false,eval a X.env)]) η):PI X (.Tuple elts kk CZ) (.Call (.Name "enumerate" p) [a] [] pos) (P8 X.K t):=by
 intro pins s σ H R I h
 refine Call_ (iC I hg hm boot_enumerate (PyProof.Rows.callWith_type1 (aW (ha pos pins s σ H _ I h) fun us s1 zk=>?_) hs rfl))
 obtain⟨vs,H1,I1,r1,q1⟩:=zk
 obtain⟨l,e,⟨xs,hq⟩,q⟩:=q1
 subst e
 cases r1 with
 | cons r rr =>
  cases rr
  cases r
  obtain⟨zl,rv,pp,hz⟩:=I1.tuple hq
  refine e9 (show s1.heap.IsTuple l zl.toArray from pp) fun h' he hit hsz hk=>?_
  have I2:Inv X pins σ H1 { s1 with heap:=h' }:=I1.kept (t':=s1.toks) hk
  refine wpAny_pyIter_enum (s:={ s1 with heap:=h' }) he ?_
  refine⟨_,_,_,_,H1,rfl,I2,nI l _ s1.heap.objs.size (Nat.succ_ne_self _),⟨⟨_,he⟩,hit⟩,fun b hb=>?_,q⟩
  have B9:b=s1.heap.objs.size + 1∨b=s1.heap.objs.size:=by simpa using hb
  have hle:s1.heap.objs.size <= b:=by
   rcases B9 with e | e
   ·rw[e];exact le_succ _
   ·rw[e];exact Nat.le_refl _
  exact I1.DA hle (I1.zp.fresh hle)
end
theorem mP {sq:Hp->List V->Prop}{xs:List V}{g:TG}{tb:TS}{D:lI}{σ:St}{H:Hp}(Pv:Nat->St->Hp->Prop)(h0:Pv 0 σ H)(hl:∀ i σ H,i <= xs.length->Pv i σ H->sq H xs)
  (hs:∀ i x p σ H,xs[i]? = some x->Pv i σ H->H p=none->g (.ref p) σ (upd H p (.tup [.int i,x])) fun σ2 H2=>tb { D with nx:=Pv (i + 1),ct:=Pv (i + 1),bk:=D.nx } σ2 H2) (hd:∀ σ H,Pv xs.length σ H->D.nx σ H) :
  ∃ W:Nat->Nat->St->Hp->Prop,(∃ m,W 0 m σ H)/\∀ i m σ H,W i m σ H ->
   ((zd sq).stop i H/\D.nx σ H)∨((zd sq).go i H/\∃ N:St->Hp->Prop,(∀ σ' H',N σ' H'->∃ m',m' < m/\W (i + 1) m' σ' H')/\∀ x H',(zd sq).E2 i H x H'->g x σ H' fun σ2 H2=>tb { D with nx:=N,ct:=N,bk:=D.nx } σ2 H2):=by
 refine⟨fun i m σ H=>m=xs.length - i/\i <= xs.length/\Pv i σ H,⟨xs.length,by simp,zero_le _,h0⟩,?_⟩
 rintro i m σ H ⟨rfl,hi,p⟩
 have q:=hl i σ H hi p
 by_cases zT:i < xs.length
 ·refine .inr ⟨⟨xs,xs[i],q,by simp[zT]⟩,Pv (i + 1),fun σ' H' p'=>⟨xs.length - (i + 1),by omega,rfl,zT,p'⟩,fun x H' y=>?_⟩
  obtain⟨pp,hn,rfl,hx⟩:=y
  obtain⟨x',BQ,e⟩:=hx xs q
  subst e
  exact hs i x' pp σ H BQ p hn
 ·have e:i=xs.length:=by omega
  subst e
  exact .inl ⟨⟨xs,q,rfl⟩,hd σ H p⟩
noncomputable def Bx (d:PyData)(m:Nat):Prop:=d.canLay0=true/\d.depth <= m
theorem Bx.shaped {d:PyData}{m:Nat}(h:Bx d m)(hm:m <= 64):SeqAt.shaped d=true:=by
 unfold SeqAt.shaped
 rw[h.1,decide_eq_true (le_trans h.2 hm)];rfl
theorem cy (i:Int):Bx (.int i) 0:=⟨by simp[PyData.canLay0],by simp[PyData.depth]⟩
theorem lj {m:Nat}:∀ {ds:List PyData},(∀ d ∈ ds,Bx d m)->PyData.canLayAll0 ds=true/\PyData.depthAll ds <= m
 | [],_=>⟨by simp[PyData.canLayAll0],by simp[PyData.depthAll]⟩
 | d :: r,h=>by
  obtain⟨a,b⟩:=lj (ds:=r) fun z hz=>h z (mem_cons_of_mem _ hz)
  obtain⟨c,e⟩:=h d mem_cons_self
  exact⟨by simp[PyData.canLayAll0,c,a],by simp only[PyData.depthAll];omega⟩
theorem fq {m:Nat}{ds:List PyData}(h:∀ d ∈ ds,Bx d m):Bx (.list ds) (m + 1):=by
 obtain⟨a,b⟩:=lj h
 exact⟨by simp[PyData.canLay0,a],by simp only[PyData.depth];omega⟩
theorem dM {m:Nat}{ds:List PyData}(h:∀ d ∈ ds,Bx d m):Bx (.tuple ds) (m + 1):=by
 obtain⟨a,b⟩:=lj h
 exact⟨by simp[PyData.canLay0,a],by simp only[PyData.depth];omega⟩
theorem P9 {K:Frag}{x y:V}{H:Hp}{Q:VK}{d:PyData}(h1:jX K H x d)(h2:jX K H y d)(s:Bx d 64)(q:Q (.bl false) H):xU K x y H Q :=
 ⟨d,d,h1,h2,s.shaped (Nat.le_refl _),s.shaped (Nat.le_refl _),by rw[SeqAt.eqv_refl d s.1];exact q⟩
theorem Bx.le {d:PyData}{m n:Nat}(h:Bx d m)(l:m <= n):Bx d n:=⟨h.1,le_trans h.2 l⟩
end L2
namespace L2
open PySem
theorem mX {n:Nat}{lo:Int}{g:TG}{tt:TT}{te:TE}{σ0:St}{H:Hp}{Q:VK}(p:Nat->Bool)(f:Nat->V)(hn:n < sizeLine)
  (hs:∀ (i:Nat)(acc:List V)(N:List V->Hp->Prop),i < n->N (if p i then acc ++ [f i] else acc) H->g (.int (lo + i)) σ0 H fun σ2 H2=>tt σ2 H2 fun b H3=>if b=true then te σ2 H3 fun y H4=>N (acc ++ [y]) H4 else N acc H3)
  (hq:∀ D,H D=none->Q (.ref D) (upd H D (.lst (((List.range n).filter p).map f)))) :
  c9 (uJ lo n) g tt te σ0 Q H:=by
 refine⟨fun i m acc H'=>m=n - i/\i <= n/\H' = H/\acc=((List.range i).filter p).map f,⟨n,by simp,zero_le _,rfl,rfl⟩,?_⟩
 rintro i m acc H' ⟨rfl,hi,rfl,rfl⟩
 have hl:(((List.range i).filter p).map f).length < sizeLine:=by
  rw[length_map]
  have:=length_filter_le p (List.range i)
  rw[length_range]at this
  omega
 refine⟨hl,?_⟩
 by_cases zT:i < n
 ·refine .inr ⟨zT,fun Aa H2=>H2=H'/\Aa = ((List.range (i + 1)).filter p).map f,fun Aa H2 zk=>by obtain⟨h1,h2⟩:=zk;exact⟨n - (i + 1),by omega,rfl,zT,h1,h2⟩,fun x H2 y=>?_⟩
  obtain⟨e,y⟩:=y
  subst e y
  refine hs i _ (fun Aa H3=>H3=H2/\Aa = ((List.range (i + 1)).filter p).map f) zT ⟨rfl,?_⟩
  rw[range_succ,filter_append]
  cases hp:p i with
  | true=>simp[hp]
  | false=>simp[hp]
 ·have e:i=n:=by omega
  subst e
  exact .inl ⟨Nat.le_refl _,hq⟩
theorem ik {K:Frag}{a:Addr}{xs:List V}{g:TG}{tt:TT}{te:TE}{σ0:St}{H:Hp}{Q:VK}(p:V->Bool)(f:V->V)(hn:xs.length < sizeLine)(ha:zj K H a xs)
  (hs:∀ (x:V)(acc:List V)(N:List V->Hp->Prop),x ∈ xs->N (if p x then acc ++ [f x] else acc) H->g x σ0 H fun σ2 H2=>tt σ2 H2 fun b H3=>if b=true then te σ2 H3 fun y H4=>N (acc ++ [y]) H4 else N acc H3)
  (hq:∀ D,H D=none->Q (.ref D) (upd H D (.lst ((xs.filter p).map f)))) :
  c9 (rp K a) g tt te σ0 Q H:=by
 refine⟨fun i m acc H'=>m=xs.length - i/\i <= xs.length/\H' = H/\acc=((xs.take i).filter p).map f,⟨xs.length,by simp,zero_le _,rfl,rfl⟩,?_⟩
 rintro i m acc H' ⟨rfl,hi,rfl,rfl⟩
 have hl:(((xs.take i).filter p).map f).length < sizeLine:=by
  rw[length_map]
  have h1:=length_filter_le p (xs.take i)
  have h2:=length_take_le i xs
  omega
 refine⟨hl,?_⟩
 by_cases zT:i < xs.length
 ·refine .inr ⟨⟨xs,xs[i],ha,by simp[zT]⟩,fun Aa H2=>H2=H'/\Aa = ((xs.take (i + 1)).filter p).map f,fun Aa H2 zk=>by obtain⟨h1,h2⟩:=zk;exact⟨xs.length - (i + 1),by omega,rfl,zT,h1,h2⟩,fun x H2 y=>?_⟩
  obtain⟨e,y⟩:=y
  subst e
  have hx:=y xs ha
  refine hs x _ (fun Aa H3=>H3=H2/\Aa = ((xs.take (i + 1)).filter p).map f) (mem_of_getElem? hx) ⟨rfl,?_⟩
  rw[take_succ,hx,filter_append]
  cases hp:p x with
  | true=>simp[hp]
  | false=>simp[hp]
 ·have e:i=xs.length:=by omega
  subst e
  rw[take_length]
  exact .inl ⟨⟨xs,ha,Nat.le_refl _⟩,hq⟩
theorem ie (k:Int):∀ ns:List Int,Iq (.int k) (ns.map V.int)=decide (k ∈ ns)
 | []=>by simp[Iq]
 | n :: r=>by
  have ih:=ie k r
  unfold Iq at ih ⊢
  rw[map_cons,any_cons,ih]
  show((n == k) || decide (k ∈ r))=decide (k ∈ n :: r)
  by_cases h:k=n
  ·subst h;simp
  ·have h':¬ n=k:=fun z=>h z.symm
   simp[h,h']
theorem dZ:∀ ns:List Int,(ns.map V.int).all ig=true
 | []=>rfl
 | n :: r=>by rw[map_cons,all_cons,dZ r];rfl
open PySem.Spec PyProof.Rows
section
open PySem.W
variable {prog:Program}{w:World}{A:Around}{E:Value->Shared->Prop}{s:Shared}{K:Frag}{x C:Addr}{name:Str}{v:Value}
theorem sg {d:Addr}{vs:Array Value}{mA:Str->Option Value}{ns:List Str}{Q:Unit->Shared->Prop}(X:K.In s.heap)(hx:s.heap.get? x=some ⟨.ref C,some d, .fields vs,#[]⟩)(hn:s.heap.Ns1 d mA)(hw:PySem.Within mA ns)(hl:ns.length < sizeLine)(c:gs K C)(ht:findIn K (.ref C) name=some none)
  (h:∀ h' t',h'.Ns1 d (fun y=>if y=name then some v else mA y)->(∀ b,b ≠ d->h'.get? b=s.heap.get? b)->Q () { s with heap:=h',toks:=t' }) :
  wpAny (model prog w) A (setAttr (.ref x) name v) Q E s:=by
 obtain⟨od,es,ep,Dz,hr⟩:=id hn
 have I:PySem.W.InstAt s.heap x ⟨.ref C,some d, .fields vs,#[]⟩ C (some od):=⟨hx,rfl,rfl,Dz⟩
 refine PySem.W.set_plain X I c.sa (pL (s:={ s with toks:=s.toks + 1 }) X I c.mro ht fun b=>?_)
 obtain⟨cd,hc,Fm⟩:=PySem.W.any_some c.hd
 obtain⟨hp,g,dr,t,os⟩:=s
 dsimp only at X hx h I hn Dz ⊢
 refine wpAny_bind (wpAny_pure (wpAny_bind (wpAny_bind (wpAny_loadPart hx (wpAny_bind (PySem.W.Looks.here (s:=⟨hp,g,dr,t + 1,os⟩) (PySem.W.looks_clsIn X hc) ?_))))))
 rw[Fm]
 rw[if_neg (by decide)]
 dsimp only
 refine wpAny_pure ?_
 show wpAny _ _ (Builtin.ObjectAttr.storeInDict d (.str name t) name v) _ _ _
 unfold Builtin.ObjectAttr.storeInDict Builtin.ObjectAttr.newKeyGuard
 refine wpAny_bind (wpAny_pure (wpAny_bind (wpAny_nsSet1 hn fun h' Ct hs=>?_)))
 obtain⟨oD,Uv,Uw,Jw,Jx,Jy⟩:=Ct.count (Within.cons name v hw)
 refine wpAny_bind (wpAny_lookBehind Jw (by rw[Jx];exact pastItsLine_dict (le_trans Jy (by rw[length_cons];omega))) ?_)
 exact wpAny_pure (h h' _ Ct fun b hb=>hs.2 b hb)
end
noncomputable def JV (d:Addr)(fs:List (Str × V)):Heap->Prop:=fun h=>∃ mA,h.Ns1 d mA/\∀ f,AL (fs.lookup f) (mA f)
theorem wZ {P:Program}{w:World}{H:Hp}{h:Heap}{d:Addr}{fs:List (Str × V)}(x:JV d fs h):zL P w H h d (.ext (JV d fs)):=by
 refine⟨x,?_,fun h1 h2 ⟨mA,⟨od,es,ep,e,c⟩,r⟩ k=>⟨mA,⟨od,es,ep,k _ e,c⟩,r⟩⟩
 obtain⟨mA,⟨od,es,ep,e,c⟩,r⟩:=x
 exact⟨od,e⟩
noncomputable def xN (K:Frag)(ta tv:TE)(f:Str):TS:=fun D σ H=>tv σ H fun y H1=>ta σ H1 fun x H2=>∃ a C tt,x = .ref a/\H2 a=some (bV a C tt none)/\gs K C/\findIn K (.ref C) f=some none /\
 ∀ d,H2 d=none->D.nx σ (upd (upd H2 d (.ext (JV d [(f,y)]))) a (bV a C tt (some d)))
noncomputable def xM (K:Frag)(ta tv:TE)(f:Str):TS:=fun D σ H=>tv σ H fun y H1=>ta σ H1 fun x H2=>∃ a C tt d fs,x = .ref a/\H2 a=some (bV a C tt (some d))/\H2 d=some (.ext (JV d fs))/\fs.length < 1000/\gs K C/\findIn K (.ref C) f=some none /\
 D.nx σ (upd H2 d (.xd (aK f y fs)))
section
variable {X:Cx}{o e value:Expr}{f:Str}{pos pos':Pos}{ta tv:TE}
theorem sP (ha:PE X o ta)(hv:PE X value tv)(hs:swapsWith value (some (.Attribute o f pos')) pos.line X.env=pure false):PS X (.Assign [.Attribute o f pos'] value pos) (xN X.K ta tv f):=by
 intro pins s σ H D I h
 refine plainObj_wpAny_Assign_Attribute (aW (hv pins s σ H _ I h) fun u s1 ⟨y,H1,I1,ry,q⟩=>aW (ha pins s1 σ H1 _ I1 q) fun ov s2 zk=>?_) hs
 obtain⟨x,H2,I2,rx,a,C,tt,ex,ea,c,n,q2⟩:=zk
 subst ex
 obtain rfl:ov=Value.ref a:=rx
 have ho:s2.heap.get? a=some (dC C tt none):=(I2.zp a _ ea).1
 have zT:a < s2.heap.objs.size:=lt_size ho
 refine lQ I2.Al ho c n fun h' t' BQ Ct hk=>⟨σ,_,?_,q2 s2.heap.objs.size (I2.zp.fresh (Nat.le_refl _))⟩
 obtain⟨od,es,ep,Dz,r⟩:=id Ct
 have Df:od.isFreed=false:=(Heap.get?_some_iff.mp Dz).2
 have Cn:(s2.heap.push od).get? s2.heap.objs.size=some od:=Heap.get?_push_size s2.heap Df
 have I3:=I2.laid (a:=s2.heap.objs.size) (o := .ext (JV s2.heap.objs.size [(f,y)])) (h':=s2.heap.push od) (t':=s2.toks) (fun b u z=>Heap.get?_push_of_some _ z) (Nat.le_refl _)
  (wZ ⟨_,Ct.at (fun o z=>by rw[Dz]at z;cases z;exact Cn),fun g=>by
   by_cases hg:g=f
   ·have hb:(g == f)=true:=beq_iff_eq.mpr hg
    simp only[List.lookup,hb,if_pos hg]
    exact ry
   ·have hb:(g == f)=false:=beq_eq_false_iff_ne.mpr hg
    simp only[List.lookup,hb,if_neg hg]
    trivial⟩)
 have zV:a ≠ s2.heap.objs.size:=ne_of_lt zT
 refine I3.write (x:=a) (e:=a) (h':=h') (t':=t') (by rw[ae zV,ea];exact True.intro) (.inl rfl) (fun b u hb z=>?_) ⟨_,BQ⟩ (jN BQ)
 by_cases JT:b=s2.heap.objs.size
 ·subst JT
  have z':(s2.heap.push od).get? s2.heap.objs.size=some u:=z
  rw[Cn]at z'
  cases z'
  exact Dz
 ·have z':s2.heap.get? b=some u:=by
   have z0:(s2.heap.push od).get? b=some u:=z
   exact(Heap.get?_push_cases z0).elim (fun w=>absurd w.1 JT) fun w=>w
  exact hk b u hb z'
theorem sO (ha:PE X o ta)(hv:PE X value tv)(hs:swapsWith value (some (.Attribute o f pos')) pos.line X.env=pure false):PS X (.Assign [.Attribute o f pos'] value pos) (xM X.K ta tv f):=by
 intro pins s σ H D I h
 refine plainObj_wpAny_Assign_Attribute (aW (hv pins s σ H _ I h) fun u s1 ⟨y,H1,I1,ry,q⟩=>aW (ha pins s1 σ H1 _ I1 q) fun ov s2 zk=>?_) hs
 obtain⟨x,H2,I2,rx,a,C,tt,d,fs,ex,ea,ed,GS,c,n,q2⟩:=zk
 subst ex
 obtain rfl:ov=Value.ref a:=rx
 have ho:s2.heap.get? a=some (dC C tt (some d)):=(I2.zp a _ ea).1
 obtain⟨⟨mA,hn,hr⟩,_⟩:=I2.zp d _ ed
 have hw:PySem.Within mA (fs.map (·.1)):=fun g hg=>by
  have r:=hr g
  cases hl:fs.lookup g with
  | none=>rw[hl]at r;cases hm:mA g with
   | none=>exact absurd hm hg
   | some z=>rw[hm]at r;exact r.elim
  | some z =>
   have:∀ {l:List (Str × V)},l.lookup g=some z->g ∈ l.map (·.1):=by
    intro l
    induction l with
    | nil=>intro h;cases h
    | cons p l ih =>
     intro h
     rw[map_cons,mem_cons]
     by_cases e:g=p.1
     ·exact .inl e
     ·have hb:(g == p.1)=false:=beq_eq_false_iff_ne.mpr e
      obtain⟨p1,p2⟩:=p
      simp only[List.lookup,hb]at h
      exact .inr (ih h)
   exact this hl
 refine sg I2.Al ho hn hw (by rw[length_map,sizeLine_eq];omega) c n fun h' t' Ct hk=>⟨σ,_,?_,q2⟩
 refine I2.write (x:=d) (e:=d) (h':=h') (t':=t') (by rw[ed];exact True.intro) (.inl rfl) (fun b u hb z=>?_) ?_ ⟨_,Ct,fun g=>?_⟩
 ·exact(hk b hb).trans z
 ·obtain⟨od,_,_,Dz,_⟩:=Ct
  exact⟨od,Dz⟩
 ·rw[fG]
  by_cases e:g=f
  ·rw[if_pos e];simp only[if_pos e];exact ry
  ·rw[if_neg e];simp only[if_neg e];exact hr g
end
end L2
namespace L2
open PySem
noncomputable def qd:Option Int->Value->Bool
 | none,v=>v == .none
 | some k,v=>Value.isInt k v
noncomputable def vm:Option Int->Int
 | none=>4238894112
 | some k=>hashInt k
theorem bZ {k:Option Int}{v:Value}(h:qd k v=true):(k=none/\v = .none)∨∃ i t,k=some i/\v = .int i t:=by
 cases k with
 | none=>exact .inl ⟨rfl,eq_of_beq h⟩
 | some i=>obtain⟨t,e⟩:=Value.isInt_shape h;exact .inr ⟨i,t,rfl,e⟩
section
variable {prog:Program}{w:World}{A:Around}{E:Value->Shared->Prop}{s:Shared}
theorem re {Q:Int->Shared->Prop}(h:Q 4238894112 { s with toks:=s.toks + 1 }):wpAny (model prog w) A (pyHash .none) Q E s:=by
 have hT:s.TypeIs .none "NoneType":=rfl
 unfold pyHash
 have hv:[Value.none].any Value.onHeap=false:=rfl
 refine wpAny_bind ?_
 rw[cRoomFor,if_neg (by rw[hv];exact Bool.false_ne_true)];refine wpAny_pure ?_
 refine wpAny_bind (wpAny_specialOf hT F.slot_NoneType_hash.lookup ?_)
 show wpAny _ _ (if (some (Value.builtin "NoneType.__hash__") == some Value.none)=true then _ else _) Q E s
 rw[if_neg (by rw[beq_builtin_none];exact Bool.false_ne_true)]
 refine wpAny_bind (wpAny_specialOf hT F.slot_NoneType_hash.lookup ?_)
 show wpAny _ _ (callSpecialIfBoundUnlessNone? .none "__hash__" _ >>= _) Q E s
 refine wpAny_bind (wpAny_callSpecialIfBoundUnlessNone?_slot hT F.slot_NoneType_hash (wpAny_call_entry F.slot_NoneType_hash hT F.entry_NoneType_hash
  (show wpAny _ _ (do ret (← mkInt 4238894112)) _ _ s from wpAny_ret_mkInt ?_) (F.args_NoneType_hash_1 _)))
 exact wpAny_pure h
theorem yM {a b:Option Int}{u v:Value}{Q:Bool->Shared->Prop}(hu:qd a u=true)(hv:qd b v=true)(h:Q (decide (a=b)) s):wpAny (model prog w) A (PySem.eqBool u v) Q E s:=by
 rcases bZ hu with ⟨rfl,rfl⟩ | ⟨i,t,rfl,rfl⟩<;>rcases bZ hv with ⟨rfl,rfl⟩ | ⟨j,t',rfl,rfl⟩
 ·unfold eqBool
  refine wpAny_holding ?_
  refine wpAny_ite_split (fun _=>wpAny_bind (wpAny_rule (wpAny_pure (by simpa using h)))) (fun n=>absurd rfl n)
 ·exact PySem.SeqAt.EqAt.none_int j t' prog w E Q (by simpa using h)
 ·exact PySem.SeqAt.EqAt.int_none i t prog w E Q (by simpa using h)
 ·refine wpAny_eqBool_int ?_
  have e:(i == j)=decide (some i=some j):=by
   by_cases q:i=j
   ·simp[q]
   ·simp[q]
  rw[e];exact h
end
noncomputable def fQ (prog:Program)(w:World):KeyKind prog w (Option Int) where
 is:=qd
 hash:=vm
 inj:=fun v a b ha hb=>by
  rcases bZ ha with ⟨rfl,rfl⟩ | ⟨i,t,rfl,rfl⟩<;>rcases bZ hb with ⟨rfl,e⟩ | ⟨j,t',rfl,e⟩
  ·rfl
  ·cases e
  ·cases e
  ·cases e;rfl
 byValue:=fun k v h=>by
  rcases bZ h with ⟨_,rfl⟩ | ⟨i,t,_,rfl⟩<;>rfl
 pyHash:=fun {A E s k v Q} hv h=>by
  rcases bZ hv with ⟨rfl,rfl⟩ | ⟨i,t,rfl,rfl⟩
  ·exact re h
  ·exact wpAny_pyHash_int h
 eqBool:=fun hu hv h=>yM hu hv h
 «strs»:=fun k x t v h=>by
  rcases bZ h with ⟨_,e⟩ | ⟨i,t,_,e⟩<;>cases e
open PySem.Spec PyProof.Rows
noncomputable abbrev gw:=List (Option Int)
noncomputable def uF:Option Int->V
 | none => .zD
 | some i => .int i
noncomputable abbrev ip:=gw × Addr × V
noncomputable abbrev jV (p:ip)(q:gw × Addr × Value):Prop:=p.1=q.1/\p.2.1=q.2.1/\RelV p.2.2 q.2.2
noncomputable def ze (P:Program)(w:World)(a:Addr)(zq:List ip):Heap->Prop:=fun h=>zq.length <= sizeLine/\(a == sysModules)=false/\∃ xs,Paired jV zq xs /\
 ∃ o es ep,h.get? a=some o/\o.ExactDict/\o.data = .dict es ep/\es.toList=xs.map (entryOfKey (tupleKind (fQ P w)))/\(xs.map (·.1)).Nodup
noncomputable def nv (P:Program)(w:World)(a:Addr)(zq:List ip):HO := .ext (ze P w a zq)
noncomputable def Ag (P:Program)(w:World)(H:Hp)(a:Addr)(zq:List ip):Prop:=H a=some (nv P w a zq)/\∀ x ∈ zq,H x.2.1=some (.tup (x.1.map uF))
theorem Ag.same {P:Program}{w:World}{H H':Hp}{a:Addr}{zq:List ip}(h:Ag P w H a zq)(s:zf H H'):Ag P w H' a zq:=⟨s _ _ h.1,fun x hx=>s _ _ (h.2 x hx)⟩
noncomputable def dj (zq:List ip)(k:gw):Option V:=(zq.find? fun x=>decide (x.1=k)).map (·.2.2)
noncomputable def qH (k:gw)(v:V)(x:ip):ip:=if x.1=k then (x.1,x.2.1,v) else x
noncomputable def i3 (zq:List ip)(k:gw)(b:Addr)(v:V):List ip:=if (dj zq k).isSome then zq.map (qH k v) else zq ++ [(k,b,v)]
theorem jj {k:gw}:dj [] k=none:=rfl
theorem cu {x:ip}{zq:List ip}{k:gw}:dj (x :: zq) k=if x.1=k then some x.2.2 else dj zq k:=by
 unfold dj
 rw[find?_cons]
 by_cases h:x.1=k
 ·rw[decide_eq_true h,if_pos h];rfl
 ·rw[decide_eq_false h,if_neg h]
theorem r9 {zq:List ip}{k k':gw}{v:V}:dj (zq.map (qH k v)) k' = if k' = k then (dj zq k).map (fun _=>v) else dj zq k':=by
 induction zq with
 | nil=>rw[map_nil,jj,jj];split<;>rfl
 | cons x zq ih =>
  rw[map_cons,cu,ih,cu,cu]
  unfold qH
  by_cases h:x.1=k<;>by_cases h':k' = k
  ·have:x.1=k':=h.trans h'.symm
   simp[h,h']
  ·have:¬ x.1=k':=fun z=>h' (z.symm.trans h)
   rw[if_pos h,if_neg h',if_neg this,if_neg this,if_neg h']
  ·subst h'
   simp[h]
  ·simp[h,h']
theorem lL {zq:List ip}{k k':gw}{b:Addr}{v:V}(h:dj zq k=none):dj (zq ++ [(k,b,v)]) k' = if k' = k then some v else dj zq k':=by
 induction zq with
 | nil =>
  rw[List.nil_append,cu,jj]
  by_cases e:k' = k
  ·rw[if_pos e,if_pos e.symm]
  ·rw[if_neg e,if_neg (Ne.symm e)]
 | cons x zq ih =>
  rw[cu]at h
  by_cases hx:x.1=k
  ·rw[if_pos hx]at h;cases h
  ·rw[if_neg hx]at h
   rw[List.cons_append,cu,ih h,cu]
   by_cases e:k' = k
   ·subst e;rw[if_neg hx,if_pos rfl,if_pos rfl]
   ·rw[if_neg e,if_neg e]
theorem r8 {zq:List ip}{k k':gw}{b:Addr}{v:V}:dj (i3 zq k b v) k' = if k' = k then some v else dj zq k':=by
 unfold i3
 cases h:dj zq k with
 | none=>rw[if_neg (by simp)];exact lL h
 | some u =>
  rw[if_pos (by simp),r9,h];rfl
theorem iN {zq:List ip}{k:gw}{b:Addr}{v:V}:(i3 zq k b v).length <= zq.length + 1:=by
 unfold i3
 split
 ·rw[length_map];omega
 ·rw[length_append];exact Nat.le_refl _
theorem qG {zq:List ip}{k:gw}{b:Addr}{v:V}{F:gw->Addr->Prop}(h:∀ x ∈ zq,F x.1 x.2.1)(hk:F k b):∀ x ∈ i3 zq k b v,F x.1 x.2.1:=by
 intro x hx
 unfold i3 at hx
 split at hx
 ·obtain⟨y,hy,rfl⟩:=mem_map.mp hx
  unfold qH
  split
  ·exact h y hy
  ·exact h y hy
 ·rcases mem_append.mp hx with q | q
  ·exact h x q
  ·rw[mem_singleton.mp q];exact hk
theorem lD {zq:List ip}{xs:List (gw × Addr × Value)}(r:Paired jV zq xs)(k:gw):AL (dj zq k) ((atKey xs k).map (·.2)):=by
 induction r with
 | nil=>exact True.intro
 | @cons p q _ _ h1 _ ih =>
  rw[cu]
  unfold atKey at ih ⊢
  rw[find?_cons]
  by_cases e:p.1=k
  ·rw[if_pos e,decide_eq_true (h1.1.symm.trans e)];exact h1.2.2
  ·rw[if_neg e,decide_eq_false (fun z=>e (h1.1.trans z))];exact ih
theorem iM {o:Option V}{u:Option Value}(r:AL o u):o.isSome=u.isSome:=by
 cases o<;>cases u<;>first | rfl | exact r.elim
theorem qF {o:Option V}{u:Option Value}{d:V}{r:Value}(h:AL o u)(hd:RelV d r):RelV (o.getD d) (u.getD r):=by
 cases o<;>cases u<;>first | exact hd | exact h | exact h.elim
theorem wj {zq:List ip}{xs:List (gw × Addr × Value)}{k:gw}{v:V}{u:Value}(r:Paired jV zq xs)(hv:RelV v u):Paired jV (zq.map (qH k v)) (xs.map (putAt k u)):=by
 induction r with
 | nil=>exact .nil
 | @cons p q _ _ h1 _ ih =>
  refine .cons ?_ ih
  unfold qH putAt
  by_cases e:p.1=k
  ·rw[if_pos e,if_pos (h1.1.symm.trans e)];exact⟨h1.1,h1.2.1,hv⟩
  ·rw[if_neg e,if_neg (fun z=>e (h1.1.trans z))];exact h1
theorem uj {zq:List ip}{xs:List (gw × Addr × Value)}{p:ip}{q:gw × Addr × Value}(r:Paired jV zq xs)(h:jV p q):Paired jV (zq ++ [p]) (xs ++ [q]):=by
 induction r with
 | nil=>exact .cons h .nil
 | cons h1 _ ih=>exact .cons h1 ih
theorem wg {zq:List ip}{xs:List (gw × Addr × Value)}{k:gw}{b:Addr}{v:V}{u:Value}(r:Paired jV zq xs)(hv:RelV v u):Paired jV (i3 zq k b v) (storedH xs k b u):=by
 have h:=iM (lD r k)
 rw[Option.isSome_map]at h
 unfold i3 storedH
 rw[h]
 split
 ·exact wj r hv
 ·exact uj r ⟨rfl,rfl,hv⟩
section
variable {P:Program}{w:World}{H:Hp}{h:Heap}{a b:Addr}{zq:List ip}{k:gw}
theorem i6:∀ {k:gw}{us:List Value},Vals (k.map uF) us->ItemsAre (fQ P w) k us
 | [],_, .nil => .nil
 | none :: _,_, .cons r t => .cons (by have e:_=Value.none:=r;subst e;rfl) (i6 t)
 | some i :: _,_, .cons r t => .cons (by obtain⟨tk,e⟩:=(show ∃ t,_=Value.int i t from r);subst e;exact beq_self_eq_true i) (i6 t)
theorem jd (ok:AE P w H h)(e:H b=some (.tup (k.map uF))):(tupleKind (fQ P w)).is h k b:=by
 obtain⟨_,zl,r,o,ho,⟨hc,n,hd⟩,_⟩:=ok _ _ e
 exact⟨o,zl.toArray,n,ho,hc,hd,i6 r⟩
theorem ji (ok:AE P w H h)(e:Ag P w H a zq):zq.length <= sizeLine/\(a == sysModules)=false/\∃ xs,Paired jV zq xs/\h.DictOfH (tupleKind (fQ P w)) a xs:=by
 obtain⟨e,ek⟩:=e
 obtain⟨⟨z,hs,xs,r,o,es,ep,h1,h2,h3,h4,h5⟩,_⟩:=ok _ _ e
 refine⟨z,hs,xs,r,o,es,ep,h1,h2,h3,h4,?_,h5⟩
 have all:∀ {zq:List ip}{xs:List (gw × Addr × Value)},Paired jV zq xs->(∀ x ∈ zq,H x.2.1=some (.tup (x.1.map uF)))->∀ x ∈ xs,(tupleKind (fQ P w)).is h x.1 x.2.1:=by
  intro zq xs r
  induction r with
  | nil=>intro _ x hx;cases hx
  | @cons p q _ _ h1 _ ih =>
   intro hk x hx
   rcases mem_cons.mp hx with rfl | hx
   ·have:=hk p mem_cons_self
    rw[h1.1,h1.2.1]at this
    exact jd ok this
   ·exact ih (fun y hy=>hk y (mem_cons_of_mem _ hy)) x hx
 exact all r ek
theorem kI (h1 h2:Heap)(p:ze P w a zq h1)(st:∀ o,h1.get? a=some o->h2.get? a=some o):ze P w a zq h2:=by
 obtain⟨z,hs,xs,r,o,es,ep,q,c⟩:=p
 exact⟨z,hs,xs,r,o,es,ep,st _ q,c⟩
theorem ul (hb:sysModules < h.objs.size):zL P w H (h.push { cls := .type "dict",data := .dict #[] }) h.objs.size (nv P w h.objs.size []) :=
 ⟨⟨zero_le _,beq_eq_false_iff_ne.mpr (Ne.symm (ne_of_lt hb)),[], .nil,_,#[],0,Heap.get?_push_size _ rfl,⟨rfl,rfl,rfl⟩,rfl,rfl,nodup_nil⟩,⟨_,Heap.get?_push_size _ rfl⟩,fun _ _=>kI _ _⟩
end
noncomputable def wx (P:Program)(w:World)(H:Hp)(a:Addr)(y:V)(r:Option V):Prop:=∃ zq k b,Ag P w H a zq/\y = .ref b/\H b=some (.tup (k.map uF))/\r=dj zq k
section
variable {X:Cx}{pins:List (Addr × Obj)}{σ:St}{H:Hp}{s:Shared}{a b:Addr}{y v d:V}{u r:Value}{o:Option V}{A:Around}{E:Value->Shared->Prop}
theorem yW (I:Inv X pins σ H s):sysModules < s.heap.objs.size :=
 Nat.lt_trans (by decide) (show mainGlobals < s.heap.objs.size from (I.mod.glob.keeps I.bk).lt)
theorem PB {Q:Value->Shared->Prop}(hu:A.units + 1 < cLine)(I:Inv X pins σ H s)(g:wx X.prog X.w H a y o)(ry:RelV y u)(h:∀ s',Inv X pins σ H s'->Q (.bool o.isSome) s') :
  wpAny (model X.prog X.w) A (compareOp .In u (.ref a)) Q E s:=by
 obtain⟨zq,k,b,e,rfl,eb,rfl⟩:=g
 cases (show u=Value.ref b from ry)
 obtain⟨_,hd,xs,rel,dd⟩:=ji I.zp e
 refine wpAny_in_heap (tupleKind_room_in1 hu) (jd I.zp eb) hd dd ?_
 have q:=iM (lD rel k)
 rw[Option.isSome_map]at q
 rw[← q]
 exact h _ (I.tok _)
theorem y3 {Q:Value->Shared->Prop}(hu:A.units + 1 < cLine)(I:Inv X pins σ H s)(g:wx X.prog X.w H a y o)(ry:RelV y u)(rd:RelV d r)(h:∀ w' s',Inv X pins σ H s'->RelV (o.getD d) w'->Q w' s') :
  wpAny (model X.prog X.w) A (call (.builtin "dict.get") [.ref a,u,r]) Q E s:=by
 obtain⟨zq,k,b,e,rfl,eb,rfl⟩:=g
 cases (show u=Value.ref b from ry)
 obtain⟨_,hd,xs,rel,dd⟩:=ji I.zp e
 exact call_meetsIn PySem.F.slot_dict_get dd.typeIs PySem.F.entry_dict_get (PySem.F.args_dict_get_3 _ _ _) (meetsH_dict_get_default (tupleKind (fQ X.prog X.w)) a b hd r)
  ⟨tupleKind_room_in1 hu,k,xs,jd I.zp eb,dd,h _ _ (I.tok _) (qF (lD rel k) rd)⟩
theorem JW {zq:List ip}{k:gw}{Q:Unit->Shared->Prop}(hu:A.units + 1 < cLine)(I:Inv X pins σ H s)(e:Ag X.prog X.w H a zq)(eb:H b=some (.tup (k.map uF)))(hl:zq.length < sizeLine)(rv:RelV v r)
  (h:∀ s',Inv X pins σ (upd H a (nv X.prog X.w a (i3 zq k b v))) s'->Q () s'):wpAny (model X.prog X.w) A (setItem (.ref a) (.ref b) r) Q E s:=by
 obtain⟨z,hd,xs,rel,dd⟩:=ji I.zp e
 have hz:xs.length <= sizeLine:=by rw[← Paired.length rel];exact z
 have CM:(i3 zq k b v).length <= sizeLine:=le_trans iN hl
 refine wpAny_setItem_heap (hsz:=hz) (tupleKind_room_in1 hu) (jd I.zp eb) dd fun h' dd' hs=>h _ ?_
 obtain⟨q,es,ep,hq,h2,h3,h4,_,h5⟩:=dd'
 exact I.write (x:=a) (e:=a) (by rw[e.1];exact True.intro) (.inl rfl) (fun c q hc z=>(hs.2 c hc).trans z) ⟨q,hq⟩
  ⟨⟨CM,hd,_,wg rel rv,q,es,ep,hq,h2,h3,h4,h5⟩,⟨q,hq⟩,fun _ _=>kI _ _⟩
theorem rj {zq:List ip}(I:Inv X pins σ H s)(e:Ag X.prog X.w H a zq):s.TypeIs (.ref a) "dict"/\∀ b,Value.ref a = .ref b->∃ ob,s.heap.get? b=some ob/\ob.dict=none:=by
 obtain⟨_,_,xs,_,dd⟩:=ji I.zp e
 refine⟨dd.typeIs,fun b q=>?_⟩
 cases q
 obtain⟨ob,_,_,h1,h2,_⟩:=dd
 exact⟨ob,h1,h2.2.1⟩
end
noncomputable def w8 (P:Program)(w:World):TE:=fun _ H Q=>∀ p,H p=none->Q (.ref p) (upd H p (nv P w p []))
noncomputable def PD (P:Program)(w:World)(ty td:TE):TE:=fun σ H Q=>ty σ H fun y H1=>td σ H1 fun x H2=>∃ a o,x = .ref a/\wx P w H2 a y o/\Q (.bl o.isSome) H2
noncomputable def JX (P:Program)(w:World)(td ty tv:TE):TS:=fun D σ H=>tv σ H fun v H1=>td σ H1 fun x H2=>ty σ H2 fun y H3=>∃ a zq k b,x = .ref a/\Ag P w H3 a zq/\y = .ref b/\H3 b=some (.tup (k.map uF))/\zq.length < sizeLine/\D.nx σ (upd H3 a (nv P w a (i3 zq k b v)))
noncomputable def xk (P:Program)(w:World)(td:TE)(t:TA):TE:=fun σ H Q=>td σ H fun x H1=>∃ a zq,x = .ref a/\Ag P w H1 a zq/\t σ H1 fun xs H2=>∃ y z o,xs=[y,z]/\wx P w H2 a y o/\Q (o.getD z) H2
section
variable {X:Cx}{o i e f value:Expr}{pos pos' apos Aq:Pos}{td ty tv tx:TE}
theorem vj:PE X (.Dict [] [] pos) (w8 X.prog X.w):=fun pins s σ H Q I h =>
 wpAny_Dict_empty ⟨.ref s.heap.objs.size,_,I.laid (a:=s.heap.objs.size) (o:=nv X.prog X.w s.heap.objs.size []) (t':=s.toks) (fun _ _ q=>Heap.get?_push_of_some _ q) (Nat.le_refl _) (ul (yW I)),rfl,h _ (I.zp.fresh (Nat.le_refl _))⟩
theorem xX (hu:X.A.units + 1 < cLine)(hi:PE X i ty)(ho:PE X o td):PC X .In i o (PD X.prog X.w ty td):=by
 intro pins s σ H Q I h
 refine aW (hi pins s σ H _ I h) fun iv s1 ⟨y,H1,I1,ry,q1⟩=>aW (ho pins s1 σ H1 _ I1 q1) fun u s2 zk=>?_
 obtain⟨x,H2,I2,rx,a,ov,ex,g,q2⟩:=zk
 subst ex
 obtain rfl:u=Value.ref a:=rx
 exact PB hu I2 g ry fun s3 I3=>⟨.bl ov.isSome,H2,I3,rfl,q2⟩
theorem vi (hu:X.A.units + 1 < cLine)(ho:PE X o td)(hi:PE X i ty)(hv:PE X value tv)(hs:swapsWith value (some (.Subscript o i pos')) pos.line X.env=pure false) :
  PS X (.Assign [.Subscript o i pos'] value pos) (JX X.prog X.w td ty tv):=by
 intro pins s σ H D I h
 refine wpAny_Assign_Subscript (aW (hv pins s σ H _ I h) fun r s1 ⟨v,H1,I1,rv,q1⟩=>aW (ho pins s1 σ H1 _ I1 q1) fun u s2 ⟨x,H2,I2,rx,q2⟩=>aW (hi pins s2 σ H2 _ I2 q2) fun iv s3 zk=>?_) hs
 obtain⟨y,H3,I3,ry,a,zq,k,b,ex,e,ey,eb,hl,q3⟩:=zk
 subst ex ey
 obtain rfl:u=Value.ref a:=rx
 obtain rfl:iv=Value.ref b:=ry
 exact JW hu I3 e eb hl rv fun s4 I4=>⟨σ,_,I4,q3⟩
theorem sR {es:List Expr}{t:TA}(hu:X.A.units + 1 < cLine)(ho:PE X o td)(ha:PA X (e :: es) t)
  (h1:autoParam (attributeBase o "get" X.env (eval o X.env)=eval o X.env) η)
  (h2:autoParam (((backTo Aq (starEach (e :: es) X.env)).all (fun x=>!x.1) && (backToKw Aq (keywordEach [] X.env)).all (fun x=>x.1.isSome) && decide ((e :: es).length + ([]:List Keyword).length + (if ([]:List Keyword).isEmpty then 0 else 1) < 30))=true) η)
  (h3:autoParam ((apos.endLine == Aq.line)=true) η) (h4:autoParam (starEach (e :: es) X.env=(false,eval e X.env) :: starEach es X.env) η) (h5:autoParam ((backTo Aq (starEach es X.env)).any (·.1)=false) η) :
  PE X (.Call (.Attribute o "get" apos) (e :: es) [] Aq) (xk X.prog X.w td t):=by
 intro pins s σ H Q I h
 refine wpAny_Call_method_late h1 h2 h3 rfl (aW (ho pins s σ H _ I h) fun v s1 zk=>?_)
 obtain⟨x,H1,I1,r1,a,zq,ex,e1,q1⟩:=zk
 subst ex
 obtain rfl:v=Value.ref a:=r1
 obtain⟨t1,t2⟩:=rj I1 e1
 refine⟨"dict", "dict.get",PySem.F.plainAttrs_dict,PySem.F.slot_dict_get,PySem.F.type_dict_get,t1,t2,?_⟩
 have hA:=ha Aq pins s1 σ H1 _ I1 q1
 rw[h4]at hA ⊢
 refine Calls.callWith_builtin (by show(false || (backTo Aq (starEach es X.env)).any (·.1))=false;rw[h5]<;>rfl) (Calls.evalArgs_plain ?_)
 refine aW hA fun us s2 zk=>?_
 obtain⟨vs,H2,I2,r2,y,z,ov,evs,g,q2⟩:=zk
 subst evs
 cases r2 with
 | cons ry r2=>cases r2 with
  | cons rz r2=>cases r2 with
   | nil=>exact y3 hu I2 g ry rz fun w' s4 I4 E5=>⟨_,H2,I4,E5,q2⟩
end
structure wY (K:Frag)(C:Addr)(m:Str)(f:Addr):Prop where
 reads:PySem.W.readsIn K C (.type "type")=true
 found:PySem.W.findCls K (.ref C) (.type "type") m=some (.val (.ref f))
 spec:PySem.W.specialIn K (.ref C) "__getattribute__" = some (some (.builtin "type.__getattribute__"))
 kp:keepIn K (.ref f)=true
noncomputable def xp (C:Addr)(sp:Sp)(zP:List V)(E:XK)(ta:TE)(t:TA):TE:=fun σ H Q=>ta σ H fun x H1=>x = .ref C/\t σ H1 fun vs H2=>sp (vs ++ zP) H2 Q E
section
variable {X:Cx}{CX:lJ}{k:Nat}{f C:Addr}{fd:FuncData}{ps:List Str}{sp:Sp}{zP:List V}{ds:List Value}{E:XK}{x m:Str}{p pos apos:Pos}{e o:Expr}{es:List Expr}{ta:TE}{t:TA}
theorem sS {pl:Sem Bool}(he:PE X o ta)(hm:wY X.K C m f)(F:zg X.prog X.w X.K X.mg X.base CX k f fd ps sp)(hr:zm k X.A)(hb:Binds X.K fd ps ds)(hd:Vals zP ds)(hx:cC CX X E)(ha:PA X (e :: es) t)
  (h1:autoParam (starEach (e :: es) X.env=(false,eval e X.env) :: starEach es X.env) η) (h2:autoParam ((backTo pos (starEach es X.env)).any (·.1)=false) η)
  (ht:eval (.Call (.Attribute o m apos) (e :: es) [] pos) X.env=(do
   let ov ← eval o X.env
   standAt apos.atName
   let (f,first) ← holding [ov] (getMethod ov m pl)
   callWith pos f first (backTo pos (starEach (e :: es) X.env)) (backToKw pos (keywordEach [] X.env))):=by rfl) :
  PE X (.Call (.Attribute o m apos) (e :: es) [] pos) (xp C sp zP E ta t):=by
 intro pins s σ H Q I h
 refine PySem.W.methodCall_KW (pl:=pl) (aW (he pins s σ H _ I h) fun u s1 zk=>?_) ht
 obtain⟨x,H1,I1,rx,ex,q⟩:=zk
 subst ex
 obtain rfl:u=Value.ref C:=rx
 refine PySem.W.method_cls I1.Al hm.spec (PySem.W.cls_value I1.Al hm.reads hm.found rfl ?_)
 refine PySem.W.callWith_K (first:=[]) (h₀:=X.base) I.ok.mod.BY hm.kp (aW (ha pos pins _ σ H1 _ (I1.tok _) q) fun us s2 ⟨vs,H2,I2,r,q2⟩=>⟨I2.Al,?_⟩) h1 h2
 exact j0 F hr hb hd hx I2 r q2
end
section
variable {X:Cx}
end
section
variable {X:Cx}{tg:Expr}
noncomputable def PF:V->List V->Hp->VK->Prop:=fun x vs H Q=>∃ (l:Addr)(ns:List Int)(k:Int),x = .ref l/\vs=[.int k]/\H l=some (.lst (ns.map V.int))/\k ∈ ns/\ns.length <= 100000/\Q (.int (ns.idxOf k:Nat)) H
theorem qU:Nt X "list.index" PF:=by
 intro pins s σ H x vs v us Q I rx rv h
 obtain⟨l,ns,k,rfl,rfl,hH,hk,hlen,q⟩:=h
 cases rx
 obtain⟨u,rfl,ru⟩:=rv.one
 obtain⟨t,rfl⟩:=ru
 obtain⟨z,zl,n,r,hl,e⟩:=I.C3 hH
 have hi:IntsAre zl.toArray.toList ns:=oQ r
 have Co:zl.length=ns.length:=by rw[← r.length,length_map]
 have hj:ns.idxOf k < ns.length:=List.idxOf_lt_length_of_mem hk
 have at_:∀ m (hm:m < zl.toArray.size),∃ t,zl.toArray[m]=Value.int (ns[m]'(by simpa [Co] using hm)) t:=fun m hm=>by
  have F1:m < zl.length:=by simpa using hm
  have hv:(ns.map V.int)[m]? = some (V.int (ns[m]'(by omega))):=by simp[show m < ns.length by omega]
  obtain⟨w',hw,E5⟩:=r.get hv
  obtain⟨t',rfl⟩:=E5
  refine⟨t',?_⟩
  have:zl[m]? = some zl[m]:=getElem?_eq_getElem F1
  rw[this]at hw
  simpa using Option.some.inj hw
 let e':Value->Bool:=fun y=>Value.isInt k y
 refine call_meets PySem.F.slot_list_index ⟨_,e,rfl⟩ PySem.F.entry_list_index (PySem.F.args_list_index_2 _ _)
  (SeqAt.list_indexAt l zl.toArray n none #[] (.int k t) e' (ns.idxOf k) (by simpa [Co] using hj) (by omega) ?_ ?_) ⟨e,fun y hy=>?_,?_⟩
 ·obtain⟨t',et⟩:=at_ (ns.idxOf k) (by simpa [Co] using hj)
  show Value.isInt k (zl.toArray[ns.idxOf k]'(by simpa [Co] using hj))=true
  rw[et,List.getElem_idxOf]
  simp[Value.isInt]
 ·intro m hm hmj
  obtain⟨t',et⟩:=at_ m hm
  show Value.isInt k zl.toArray[m]=false
  rw[et]
  have zV:ns[m]'(by simpa [Co] using hm) ≠ k:=fun z=>by
   have:=List.not_of_lt_findIdx (p:=fun x=>x == k) (xs:=ns) (i:=m) hmj
   rw[z]at this
   simp at this
  simp only[Value.isInt,beq_eq_false_iff_ne,ne_eq]
  first | exact zV | exact fun z=>zV z.symm
 ·have hm:y ∈ zl:=by simpa using hy
  obtain⟨m,F1,em⟩:=getElem_of_mem hm
  obtain⟨t',et⟩:=at_ m (by simpa using F1)
  have ey:y=Value.int (ns[m]'(by omega)) t':=by rw[← em];simpa using et
  subst ey
  intro prog w E Q' hQ'
  refine wpAny_eqBool_int ?_
  have:(ns[m]'(by omega) == k)=Value.isInt k (Value.int (ns[m]'(by omega)) t'):=by simp[Value.isInt,Bool.beq_comm]
  rw[this]
  exact hQ'
 ·exact⟨.int (ns.idxOf k:Nat),H,I.tok _,⟨_,rfl⟩,q⟩
noncomputable def JY (K:Frag):List V->Hp->VK->Prop:=fun xs H Q=>∃ (v:V)(t:Value)(c:String)(b:Bool),xs=[v, .ty c]/\iL K H v t/\kitOne K t (.type c)=some b/\Q (.bl b) H
theorem il:dF X (.builtin "isinstance") (JY X.K):=by
 intro pins s σ H xs us Q I r h
 obtain⟨v,t,c,b,rfl,ty,hk,q⟩:=h
 cases r with
 | cons r1 r2=>cases r2 with
  | cons r2 r3 =>
   cases r3
   cases r2
   exact qZ I r1 ty hk fun tk=>⟨.bl b,H,I.tok _,rfl,q⟩
end
section
variable {κ:Type} [DecidableEq κ]
end
section
variable {P:Program}{w:World}{H:Hp}{h:Heap}{a:Addr}
end
section
variable {X:Cx}{pins:List (Addr × Obj)}{σ:St}{H:Hp}{s:Shared}{a:Addr}{y v:V}{u r:Value}{o:Option V}{A:Around}{E:Value->Shared->Prop}
end
section
variable {X:Cx}{pins:List (Addr × Obj)}{σ:St}{H:Hp}{s:Shared}{a:Addr}{zq:List (kj × V)}{k:kj}{u:Value}{A:Around}{E:Value->Shared->Prop}
end
section
variable {X:Cx}{o i e value:Expr}{pos pos' CZ:Pos}{td ty tv:TE}
end
section
variable {X:Cx}{pos:Pos}
end
section
variable {X:Cx}{pins:List (Addr × Obj)}{σ:St}{H:Hp}{s:Shared}{a:Addr}{y d:V}{u r:Value}{o:Option V}{A:Around}{E:Value->Shared->Prop}
end
section
variable {X:Cx}{o e f:Expr}{apos Aq:Pos}{td ty tx:TE}
end
section
variable {X:Cx}{pins:List (Addr × Obj)}{σ:St}{H:Hp}{s:Shared}{a:Addr}{zq:List (kj × V)}{A:Around}{E:Value->Shared->Prop}
end
section
variable {X:Cx}{pins:List (Addr × Obj)}{σ:St}{H:Hp}{s:Shared}{a:Addr}{y:V}{u:Value}{A:Around}{E:Value->Shared->Prop}
end
section
variable {X:Cx}
end
section
variable {κ:Type} [DecidableEq κ]
end
theorem pe:∀ {xs:List V}{us:List Value},xs.length=us.length->(∀ (i:Nat)(x:V)(u:Value),xs[i]? = some x->us[i]? = some u->RelV x u)->Vals xs us:=by
 intro xs;induction xs with
 | nil=>intro us hl h;cases us with|nil=>exact .nil|cons=>cases hl
 | cons x xs ih=>intro us hl h;cases us with|nil=>cases hl|cons u us=>exact .cons (h 0 x u rfl rfl) (ih (by simpa using hl) fun i x u hx hu=>h (i + 1) x u hx hu)
section
variable {X:Cx}{tg:Expr}
end
noncomputable def iV (p:Addr)(j:Int):HO := .ext fun h=>∃ t u v,IsRange h p 0 j 1 t u v
section
variable {X:Cx}
theorem nc:dF X (.type "range") (fun xs H Q=>∃ j:Int,xs=[.int j]/\∀ p,H p=none->Q (.ref p) (upd H p (iV p j))):=by
 intro pins s σ H xs us Q I r h
 obtain⟨j,rfl,q⟩:=h
 obtain⟨u,rfl,ru⟩:=r.one
 obtain⟨t,rfl⟩:=ru
 refine call_range_1 ⟨.ref s.heap.objs.size,_,I.laid (a:=s.heap.objs.size) (o:=iV s.heap.objs.size j) (t':=s.toks + 1 + 1) (fun _ _ q=>Heap.get?_push_of_some _ q) (Nat.le_refl _) ?_,rfl,q _ (I.zp.fresh (Nat.le_refl _))⟩
 exact⟨⟨_,_,_,IsRange.new ..⟩,⟨_,Heap.get?_push_size _ rfl⟩,fun h1 h2 ⟨t,u,v,e⟩ st=>⟨t,u,v,st _ e⟩⟩
theorem ge (hc:X.calm=true):dF X (.type "list") (fun xs H Q=>∃ (p:Addr)(n:Nat),xs=[.ref p]/\H p=some (iV p (n:Int))/\n <= 10000/\∀ l,H l=none->Q (.ref l) (upd H l (.lst ((List.range n).map fun k:Nat=>V.int (k:Int))))):=by
 intro pins s σ H xs us Q I r h
 obtain⟨p,n,rfl,hp,hn,q⟩:=h
 obtain⟨u,rfl,ru⟩:=r.one
 cases ru
 obtain⟨⟨t,u,v,hr⟩,_⟩:=I.zp _ _ hp
 refine call_list_range (n:=n) (I.ok.hd hc) hr (small_one (by omega) (by omega) (by omega) (by omega)) (by rw[rangeSize_one];split<;>omega) (by omega) fun h' tk acc c keep hl it=>?_
 have hv:Vals ((List.range n).map fun k:Nat=>V.int (k:Int)) acc.toList:=by
  refine pe (by rw[length_map,length_range];exact it.1.symm) fun i x u hx hu=>?_
  obtain⟨tk,rfl⟩:=it.2 i u (by simpa using hu)
  have hi:i < n:=by
   have:=(gQ0 hx)
   simpa using this
  rw[getElem?_map,List.getElem?_range hi]at hx
  have hx:V.int (i:Int)=x:=Option.some.inj hx
  subst hx
  exact⟨tk,by rw[Int.mul_one,zero_add]⟩
 refine⟨.ref _,_,I.laid (a:=s.heap.objs.size) (o := .lst ((List.range n).map fun k:Nat=>V.int (k:Int))) (t':=tk) (fun b q hq=>keep b q hq) (Nat.le_refl _) ⟨by rw[length_map,length_range,sizeLine_eq];omega,acc.toList,c,hv,by simpa using hl⟩,rfl,q _ (I.zp.fresh (Nat.le_refl _))⟩
end
end L2
namespace L2
open PySem
section
variable {X:Cx}
noncomputable def rD (t:TS):TS:=fun D σ H=>∃ Br:St->Hp->Prop,t { D with nx:=Br } σ H/\∀ σ' H',Br σ' H'->D.nx σ' H'
theorem hU {st:Stmt}{t:TS}(h:PS X st t):PS X st (rD t):=fun pins s σ H D I ⟨Br,q,k⟩ =>
 aW (h pins s σ H _ I q) fun f s1 z=>by
  cases f with
  | next=>obtain⟨σ1,H1,I1,p⟩:=z;exact⟨σ1,H1,I1,k _ _ p⟩
  | brk=>exact z
  | cont=>exact z
  | ret u=>exact z
noncomputable def xj (t:TE):TE:=fun σ H Q=>∃ Br:V->Hp->Prop,t σ H Br/\∀ v H',Br v H'->Q v H'
theorem ls {e:Expr}{t:TE}(h:PE X e t):PE X e (xj t):=fun pins s σ H Q I ⟨Br,q,k⟩ =>
 aW (h pins s σ H _ I q) fun u s1 zk=>by obtain⟨v,H1,I1,r,p⟩:=zk;exact⟨v,H1,I1,r,k v H1 p⟩
noncomputable def xi (t:TT):TT:=fun σ H Q=>∃ Br:Bool->Hp->Prop,t σ H Br/\∀ b H',Br b H'->Q b H'
theorem jc {e:Expr}{t:TT}(h:PT X e t):PT X e (xi t):=fun pins s σ H Q I ⟨Br,q,k⟩ =>
 aW (h pins s σ H _ I q) fun b s1 zk=>by obtain⟨H1,I1,p⟩:=zk;exact⟨H1,I1,k b H1 p⟩
end
open PySem.Spec PyProof.Rows
theorem mK:∀ {ns:List Int}{us:List Value},Vals (ns.map V.int) us->IntsAre us ns
 | [],_, .nil => .nil
 | n :: ns,_, .cons r t=>by
  obtain⟨tk,e⟩:=(show ∃ t,_=Value.int n t from r)
  subst e
  exact .cons n tk (mK t)
theorem jQ {X:Cx}(hc:X.calm=true):dF X (.builtin "sum") (fun xs H Q=>∃ (p:Addr)(ns:List Int),xs=[.ref p]/\zj X.K H p (ns.map V.int)/\Q (.int ns.sum) H):=by
 intro pins s σ H xs us Q I r h
 obtain⟨p,ns,rfl,hq,q⟩:=h
 obtain⟨u,rfl,rx⟩:=kx r
 cases rx
 obtain⟨zl,rv,pl,hz⟩:=I.list hq
 have hi:=mK rv
 obtain⟨xs,hx⟩:=hi.allInts.items
 have CM:s.heap.IsList p (intItems xs):=hx ▸ pl.isList
 refine sum_intListG (I.ok.hd hc) CM fun h' tk t' hk=>?_
 have e1:ns=xs.toList.map (·.1):=by
  rw[← nums_intItems,← hx]
  exact(show numsOf zl.toArray.toList=ns from hi.numsOf).symm
 have e2:preSum (numAt xs) xs.size=ns.sum:=by
  rw[preSum_eq,take_of_length_le (by simp),e1]
 rw[e2]
 exact⟨.int ns.sum,H,I.kept hk,⟨_,rfl⟩,q⟩
structure Dh (K:Frag)(x qual:Str)(st:Stmt)(f:Addr)(fd:FuncData):Prop where
 ex:∃ (oc:Value)(od:Option Addr)(dV kV doc pm:Value)(an:Option Addr)(cdv ct:Value)(BZ:Array (Option Value)),
  fd=fnOf x qual (bB st) (aG st) (ah st) dV kV doc pm an cdv ct/\K.lookup f=some ⟨oc,od, .func fd,BZ⟩/\codeIn K cdv qual=true
 kp:keepIn K (.ref f)=true
section
variable {P:Program}{w:World}{K:Frag}{mg:Str->Option Value}{base:Heap}
theorem Dh.Ei {x qual:Str}{st:Stmt}{f:Addr}{fd:FuncData}{N ps:List Str}{k:Nat}{sp:Sp}(F:Dh K x qual st f fd)(S:ao N ps (ah st))(len:∀ vs H Q E,sp vs H Q E->vs.length=ps.length)
  (Aj:∀ (cdv:Value)(A:Around)(outer:List Env)(s:Shared)(H:Hp)(vs:List V)(Q:VK)(E:XK),zm k (A.deeper (envOfC qual (ah st) s.heap.objs.size f cdv))->sp vs H Q E ->
   ∃ t,Bi (iG (e7 P w) P w K mg base N qual (ah st) f cdv A outer s H E) (aG st) t/\t { nx:=fun _ H'=>Q .zD H',rt:=Q } (start N vs) H):zg P w K mg base (e7 P w) (k + 1) f fd ps sp:=by
 obtain⟨oc,od,dV,kV,doc,pm,an,cdv,ct,BZ,rfl,lk,Bc⟩:=F.ex
 exact qi lk Bc S len fun A outer s H vs Q E hr BN=>Aj cdv A outer s H vs Q E hr BN
end
noncomputable def vc (K:Frag):R2:=fun x y H Q=>∃ (p:Addr)(vs:List V)(d:PyData)(ds:List PyData),y = .ref p/\jX K H x d/\zj K H p vs/\iW K H vs ds/\Bx d 8/\(∀ z ∈ ds,Bx z 8)/\Q (.bl (!(ds.any fun y=>PyData.eqv y d))) H
theorem qK {X:Cx}(hu:X.A.units + 64 < cLine):dI X (compareOp .NotIn) (vc X.K):=by
 intro pins s σ H x y v u Q I rx ry h
 obtain⟨p,vs,d,ds,rfl,h1,h2,h3,s1,s2,q⟩:=h
 obtain⟨as,r1⟩:=I.den (.lst h2 h3) ry
 obtain⟨bs,r2⟩:=I.den h1 rx
 refine SeqAt.notIn_list_reads r1 r2 (lj s2).1 s1.1 ?_ ⟨.bl _,H,I,rfl,q⟩
 have:=s1.2
 have:=Nat.min_le_right (PyData.depthAll ds) d.depth
 omega
noncomputable def JZ (K:Frag):R2:=fun x y H Q=>∃ a b xs ys,x = .ref a/\y = .ref b/\zt K H a xs/\zt K H b ys/\ys ≠ []/\xs.length + ys.length <= sizeLine /\
 (xs=[]->Q (.ref b) H)/\(xs ≠ []->∀ p,H p=none->Q (.ref p) (upd H p (.tup (xs ++ ys))))
theorem vo {X:Cx}:dI X (binaryOp .Add) (JZ X.K):=by
 intro pins s σ H x y v u Q I rx ry h
 obtain⟨a,b,xs,ys,rfl,rfl,ha,hb,hy,hz,q1,q2⟩:=h
 by_cases hx:xs=[]
 ·cases rx
  cases ry
  obtain⟨zl,r1,p1,_⟩:=I.tuple ha
  obtain⟨BD,r2,p2,_⟩:=I.tuple hb
  have e1:zl=[]:=r1.Bw.mpr hx
  obtain⟨⟨cls,dd,data,sl⟩,ho,hc,n,hd⟩:=id p1
  obtain⟨⟨OY,Nr,data2,Io⟩,Bq,Cf,n2,hd2⟩:=id p2
  simp only at hc hd Cf hd2
  subst hc hd Cf hd2
  exact concat_meets ⟨_,ho,rfl⟩ ⟨_,Bq,rfl⟩ noFill_tuple_add seq_tuple_add slot_tuple_add entry_tuple_add (args_tuple_add_2 _ _)
   (tuple_addW0 a b zl.toArray BD.toArray n n2 dd Nr sl Io (by simp[e1])) ⟨ho,Bq,⟨.ref b,H,I,rfl,q1 hx⟩⟩
 ·exact vn pins s σ H _ _ v u Q I rx ry ⟨a,b,xs,ys,rfl,rfl,ha,hb,hx,hz,fun z=>absurd z hy,fun _=>q2 hx⟩
end L2
namespace L2
open PySem
theorem gE {M:Model} {Γ:Ctx} {env:Env} {b:List Stmt} {Q:Flow->Pos->Shared->Prop} {E:Value->Pos->Shared->Prop}:∀ {a:List Stmt}{p:Pos}{s:Shared},
  Sem.wp M Γ (execs a env) (fun f p' s'=>match f with | .next=>Sem.wp M Γ (execs b env) Q E p' s' | f=>Q f p' s') E p s->Sem.wp M Γ (execs (a ++ b) env) Q E p s
 | [],_,_,h=>h
 | st :: a,p,s,h=>by
  rw[execs_cons,Sem.wp_bind']at h
  rw[List.cons_append,execs_cons,Sem.wp_bind']
  refine Sem.wp_mono M Γ _ (fun f p' s' h'=>?_) (fun _ _ _ h'=>h') _ _ h
  cases f with
  | next=>exact gE (a:=a) h'
  | brk=>exact h'
  | cont=>exact h'
  | ret u=>exact h'
section
variable {X:Cx}
theorem vh {a b:List Stmt}{t u:TS}(h1:Bi X a t)(h2:Bi X b u):Bi X (a ++ b) (xg (rD t) u):=by
 intro pins s σ H D I h
 obtain⟨Br,q,k⟩:=h
 intro Γ p hΓ
 refine gE ?_
 refine Sem.wp_mono _ Γ _ (fun f p' s' z=>?_) (fun _ _ _ z=>z) _ _ (h1 pins s σ H _ I q Γ p hΓ)
 cases f with
 | next=>obtain⟨σ1,H1,I1,z⟩:=z;exact h2 pins s' σ1 H1 D I1 (k _ _ z) Γ p' hΓ
 | brk=>exact z
 | cont=>exact z
 | ret u=>exact z
theorem mj {ss:List Stmt}{t u:TS}(n:Nat)(h1:Bi X (ss.take n) t)(h2:Bi X (ss.drop n) u):Bi X ss (xg (rD t) u):=by
 have h:=vh h1 h2
 rwa [List.take_append_drop]at h
end
open PySem.Spec PyProof.Rows
noncomputable abbrev Cx.pinned (X:Cx)(q:List (Addr × Obj)):Cx:={ X with pn:=X.pn ++ q }
theorem Cx.Ok.pinned {X:Cx}(o:X.Ok)(q:List (Addr × Obj)):(X.pinned q).Ok:=⟨o.mod,o.kind,o.glob,o.blt,o.above,o.inj,o.has,o.Fj,o.hd,o.frames,o.Ij,o.Ng,o.bs,o.Dx,o.Cz,o.CT,o.AB,o.Ef⟩
theorem Cx.Ok.Bl {X:Cx}{q:List (Addr × Obj)}(o:(X.pinned q).Ok):X.Ok:=⟨o.mod,o.kind,o.glob,o.blt,o.above,o.inj,o.has,o.Fj,o.hd,o.frames,o.Ij,o.Ng,o.bs,o.Dx,o.Cz,o.CT,o.AB,o.Ef⟩
section
variable {X:Cx}{pins q:List (Addr × Obj)}{σ:St}{H:Hp}{s:Shared}
theorem Inv.PH (I:Inv X (q ++ pins) σ H s):Inv (X.pinned q) pins σ H s :=
 ⟨I.ok.pinned q,I.os,I.bare,I.base,I.loc,I.cell,I.free,I.zU,fun p hp=>I.pin p (by rw[append_assoc]at hp;exact hp),I.zp,I.len⟩
theorem Inv.Bl (I:Inv (X.pinned q) pins σ H s):Inv X pins σ H s :=
 ⟨I.ok.Bl,I.os,I.bare,I.base,I.loc,I.cell,I.free,I.zU,fun p hp=>I.pin p (by
  rcases mem_append.mp hp with h | h
  ·exact mem_append_left _ (mem_append_left _ h)
  ·exact mem_append_right _ h),I.zp,I.len⟩
theorem SP.Bl {D:lI}{f:Flow}(h:SP (X.pinned q) pins D f s):SP X pins D f s:=by
 cases f with
 | next=>obtain⟨σ',H',I,r⟩:=h;exact⟨σ',H',I.Bl,r⟩
 | brk=>obtain⟨σ',H',I,r⟩:=h;exact⟨σ',H',I.Bl,r⟩
 | cont=>obtain⟨σ',H',I,r⟩:=h;exact⟨σ',H',I.Bl,r⟩
 | ret u=>obtain⟨v,σ',H',I,r⟩:=h;exact⟨v,σ',H',I.Bl,r⟩
end
structure Ek (mg:Str->Option Value)(base:Heap)(c P:Addr):Prop where
 bm:base.BuiltinsAt mg P
 cd:PySem.W.CodeHd base c P
 gP:mainGlobals ≠ P
noncomputable def jW (oc:Obj)(qual:Str):Prop:=∃ vs t,oc.data = .fields vs/\vs[1]? = some (.str qual t)
theorem Ek.keep {mg:Str->Option Value}{base zy:Heap}{c P:Addr}(N:Ek mg base c P)(k:∀ b o,base.get? b=some o->zy.get? b=some o):Ek mg zy c P:=by
 obtain⟨bm,o,h1,h2,h3,h4,h5,h6⟩:=N.bm
 exact⟨⟨bm,o,h1,h2,h3,h4,k _ _ h5,h6⟩,N.cd.keeps k,N.gP⟩
theorem vg {X:Cx}{i:Nat}{name qual:Str}{params:Arguments}{body rest:List Stmt}{scope:Scope}{pos:Pos}{clos:List (Str × Addr)}{c P:Addr}{t:Addr->Addr->Obj->Value->Value->Value->TS}
  (N:Ek X.mg X.base c P) (nd:X.N.Nodup) (hi:X.N[i]? = some name) (hx:Loc X.env.scope name) (Ka:X.env.code = .ref c) (UC:params.defaults=[]) (hk0:params.kw_defaults=[]) (ha:annTrees params none X.env=[])
  (hq:qualnameIn X.env name name=qual) (Dg:closureFor scope X.env=pure clos)
  (hr:∀ f c' oc doc pm AX,jW oc qual->Bi (X.pinned [(f,PySem.W.fnMade name qual params body scope clos doc pm c' AX),(c',oc)]) rest (t f c' oc doc pm AX))
  (hf:autoParam (X.fn name=true∨X.env.scope.names.lookup name=some .local) ζ) :
  Bi X (.FunctionDef name params body [] none [] scope none name pos :: rest) (fun D σ H=>∃ ps,H P=some (.Bb ps)/\TriplesOk ps.toList/\codeAmong pos ps.toList=none /\
   ∀ f c' oc doc pm AX Iy,H f=none->t f c' oc doc pm AX D (σ.set i (some (.ref f))) (upd H P (.Bb Iy))):=by
 intro pins s σ H D I h
 obtain⟨ps,hP,ht,GI,h⟩:=h
 have gP:s.heap.get? P=some (PySem.W.tabObj ps):=I.zp P _ hP
 obtain⟨bm,ob,b1,b2,b3,b4,b5,b6⟩:=(N.keep I.bk).bm
 refine wpAny_execs_cons (PySem.W.nestDef_K UC hk0 ha ?_)
 rw[hq]
 refine PySem.W.makeFunction_K Dg I.ok.glob (I.mod.glob.keeps I.bk) Ka (N.cd.keeps I.bk) gP ht GI N.gP ⟨bm,ob,b1,b2,b3,b4,b5,b6⟩ fun c' AX doc h' tk BQ F2 zT DL AJ=>?_
 obtain⟨c2,oc,vs,tq,e2,Nj,UD,hv⟩:=DL
 cases e2
 have Kb:∀ b u,H b=some u->(∀ qs,u ≠ .Bb qs)->b ≠ P:=fun b u e n z=>by subst z;rw[hP]at e;cases e;exact n _ rfl
 have nP:∀ b,H b=none->b ≠ P:=fun b e z=>by subst z;rw[hP]at e;cases e
 have hPl:P < s.heap.objs.size:=lt_size gP
 have kp:∀ b u,b ≠ P->s.heap.get? b=some u->(h'.push (PySem.W.fnMade name qual params body scope clos doc ((X.mg "__name__").getD .none) c' AX)).get? b=some u:=fun b u n e=>Heap.get?_push_of_some _ (BQ b u n e)
 have UE:(h'.push (PySem.W.fnMade name qual params body scope clos doc ((X.mg "__name__").getD .none) c' AX)).get? P=some (PySem.W.tabObj (ps ++ #[rawInt pos.line,rawInt pos.col, .ref c'])):=Heap.get?_push_of_some _ AJ
 have I1:Inv X pins σ (upd H P (.Bb (ps ++ #[rawInt pos.line,rawInt pos.col, .ref c']))) { s with heap:=h'.push (PySem.W.fnMade name qual params body scope clos doc ((X.mg "__name__").getD .none) c' AX),toks:=tk }:=by
  refine I.un ⟨fun b u e n _ _=>kp b u (nP b n) e,fun b u e n _ _=>⟨u.slots,kp b u (nP b n) e⟩,fun b u e n _=>by rw[ae (nP b n)];exact n,fun b u e _=>?_,fun b xs e=>?_,fun b o u e=>?_,fun b qs e=>?_⟩ fun b u e=>?_
  ·by_cases z:b=P
   ·subst z;exact⟨_,UE⟩
   ·exact⟨u,kp b u z e⟩
  ·rw[ae (Kb b _ e (by intro _ z;cases z))];exact e
  ·rw[ae (Kb b _ e (by intro _ z;cases z))];exact e
  ·by_cases z:b=P
   ·subst z;rw[hP]at e;cases e;exact⟨_,ac⟩
   ·exact⟨#[],by rw[ae z,e];simp⟩
  ·by_cases z:b=P
   ·subst z;rw[ac]at e;cases e;exact UE
   ·rw[ae z]at e
    refine(I.zp b u e).AA (fun d v hd g=>kp d v ?_ g) (fun d g=>by rw[ae (Kb d _ g (by intro _ z;cases z))];exact g) fun d xs g=>by rw[ae (Kb d _ g (by intro _ z;cases z))];exact g
    rcases hd with rfl | hd
    ·exact z
    ·exact Kb d _ hd (by intro _ z;cases z)
 have hsz:s.heap.objs.size <= h'.objs.size:=le_of_lt (lt_of_le_of_lt F2 zT)
 have UG:∀ b,s.heap.objs.size <= b->upd H P (.Bb (ps ++ #[rawInt pos.line,rawInt pos.col, .ref c'])) b=none:=fun b hb=>by
  rw[ae (ne_of_gt (lt_of_lt_of_le hPl hb))];exact I.zp.fresh hb
 have I2:=I1.Am (pins':=[(h'.objs.size,PySem.W.fnMade name qual params body scope clos doc ((X.mg "__name__").getD .none) c' AX),(c',oc)] ++ pins) (fun p hp=>by
  rcases mem_append.mp hp with hp | hp
  ·rcases mem_cons.mp hp with rfl | hp
   ·exact⟨Heap.get?_push_size _ rfl,UG _ hsz,ne_of_gt (lt_of_lt_of_le I.lt hsz),I.G5 hsz,by intro v z;cases z⟩
   ·obtain rfl:=mem_singleton.mp hp
    exact⟨Heap.get?_push_of_some _ Nj,UG _ F2,ne_of_gt (lt_of_lt_of_le I.lt F2),I.G5 F2,by intro v z;rw[UD]at z;cases z⟩
  ·exact I1.pin p (mem_append_right _ hp))
 refine jn I2 nd hi hx (v := .ref h'.objs.size) rfl (fun s' I3=>?_) hf
 refine aW (hr h'.objs.size c' oc doc ((X.mg "__name__").getD .none) AX ⟨vs,tq,UD,hv⟩ pins s' _ _ D I3.PH (h h'.objs.size c' oc doc _ AX _ (I.zp.fresh hsz))) fun f s2 z=>SP.Bl z
structure N3 (X:Cx)(cs:List (Nat × Str))(zO:List V)(zy:Heap):Prop where
 BY:X.K.In zy
 ns:zy.Ns mainGlobals X.mg
 base:∀ b o,X.base.get? b=some o->zy.get? b=some o
 pn:∀ p ∈ X.pn,zy.get? p.1=some p.2
 cell:Paired (fun (q:Nat × Str)(v:V)=>∃ c u,X.env.cells.lookup q.2=some c/\RelV v u/\zy.IsCell c (some u)) cs zO
 inj:∀ x y c,X.env.cells.lookup x=some c->X.env.cells.lookup y=some c->x=y
theorem mO {h base zy:Heap}:∀ {l:List Env},(∀ b ∈ jK l,zy.get? b=none)->h.FunFrames base l->h.FunFrames zy l
 | [],_,_=>trivial
 | env :: r,k,⟨hk,⟨L,o,hf,hn,ho,hd⟩,hr⟩=>⟨hk,⟨L,o,hf,k L (by unfold jK;rw[filterMap_cons,hf];exact mem_cons_self),ho,hd⟩,mO (fun b hb=>k b (by unfold jK;rw[filterMap_cons,hf];exact mem_cons_of_mem _ hb)) hr⟩
noncomputable def fH (X:Cx)(cs:List (Nat × Str))(b:Addr):Bool:=(X.base.get? b).isSome || (X.pn.map (·.1)).contains b || cs.any fun q=>X.env.cells.lookup q.2 == some b
noncomputable def iR (X:Cx)(cs:List (Nat × Str))(h:Heap):Heap:=PySem.W.hideAll h ((List.range h.objs.size).filter fun b=>!fH X cs b)
theorem lH {X:Cx}{cs:List (Nat × Str)}{h:Heap}{b:Addr}{o:Obj}(e:h.get? b=some o)(k:fH X cs b=true):(iR X cs h).get? b=some o :=
 PySem.W.hideAll_get _ e fun hm=>by
  have q:=(mem_filter.mp hm).2
  rw[k]at q;cases q
theorem tN {X:Cx}{cs:List (Nat × Str)}{h:Heap}{b:Addr}{o:Obj}(e:(iR X cs h).get? b=some o):h.get? b=some o/\fH X cs b=true:=by
 have e':h.get? b=some o:=PySem.W.of_hideAll _ e
 refine⟨e',?_⟩
 cases q:fH X cs b with
 | true=>rfl
 | false =>
  have hm:b ∈ (List.range h.objs.size).filter fun b=>!fH X cs b:=mem_filter.mpr ⟨mem_range.mpr (lt_size e'),by rw[q];rfl⟩
  have z:(iR X cs h).get? b=none:=PySem.W.hideAll_none _ hm
  rw[z]at e;cases e
theorem mI {X:Cx}{cs:List (Nat × Str)}{b:Addr}(h:fH X cs b=true):(∃ o,X.base.get? b=some o)∨(∃ p ∈ X.pn,p.1=b)∨∃ q ∈ cs,X.env.cells.lookup q.2=some b:=by
 unfold fH at h
 rcases (Bool.or_eq_true _ _).mp h with h | h
 ·rcases (Bool.or_eq_true _ _).mp h with h | h
  ·exact .inl (Option.isSome_iff_exists.mp h)
  ·obtain⟨p,hp,e⟩:=mem_map.mp (List.contains_iff_mem.mp h)
   exact .inr (.inl ⟨p,hp,e⟩)
 ·obtain⟨q,hq,e⟩:=any_eq_true.mp h
  exact .inr (.inr ⟨q,hq,eq_of_beq e⟩)
theorem yV {X:Cx}{pins:List (Addr × Obj)}{σ:St}{H:Hp}{s:Shared}{cs:List (Nat × Str)}{zO:List V}(I:Inv X pins σ H s)(GU:∀ q ∈ cs,X.N[q.1]? = some q.2/\X.env.scope.names.lookup q.2=some .cell/\X.fn q.2=true)
  (hv:Paired (fun (q:Nat × Str)(v:V)=>σ[q.1]? = some (some v)) cs zO):N3 X cs zO (iR X cs s.heap)/\Ce X.prog X.w X.K X.mg (iR X cs s.heap) X.A X.stack s H:=by
 have kb:∀ b o,X.base.get? b=some o->(iR X cs s.heap).get? b=some o:=fun b o e=>lH (I.bk b o e) (by unfold fH;rw[e];rfl)
 have cell:∀ (N4:List (Nat × Str))(GV:List V),(∀ q ∈ N4,q ∈ cs)->Paired (fun (q:Nat × Str)(v:V)=>σ[q.1]? = some (some v)) N4 GV ->
   Paired (fun (q:Nat × Str)(v:V)=>∃ c u,X.env.cells.lookup q.2=some c/\RelV v u/\(iR X cs s.heap).IsCell c (some u)) N4 GV:=by
  intro N4 GV hs hp
  induction hp with
  | nil=>exact .nil
  | @cons q v _ _ r _ ih =>
   refine .cons ?_ (ih fun q hq=>hs q (mem_cons_of_mem _ hq))
   have hq:=hs q mem_cons_self
   obtain⟨h1,h2,h3⟩:=GU q hq
   obtain⟨m,hn,hl⟩:=I.loc
   obtain⟨u,ru,l⟩:=hl q.1 q.2 v h1 r (.inr (.inl h2))
   rcases l with ⟨k,_⟩ | ⟨_,c,hc,o,ho,hd⟩
   ·have k:X.env.scope.names.lookup q.2=some .local:=k
    rw[h2]at k;cases k
   ·exact⟨c,u,hc,ru,o,lH ho (by
     unfold fH
     rw[show(cs.any fun q=>X.env.cells.lookup q.2 == some c)=true from any_eq_true.mpr ⟨q,hq,by rw[hc];simp⟩,Bool.or_true]),hd⟩
 have BY:=I.ok.mod.BY.keeps kb
 have ns:=I.ok.mod.glob.keeps kb
 have UH:∀ b,fH X cs b=true->H b=none/\b ∉ jK X.stack:=fun b hb=>by
  rcases mI hb with ⟨o,e⟩ | ⟨p,hp,rfl⟩ | ⟨q,hq,e⟩
  ·refine⟨(I.bs b o e).2,fun z=>?_⟩
   have:=(I.stack.mem z).1
   rw[e]at this;cases this
  ·obtain⟨_,n,nl,nf,_⟩:=I.pin p (mem_append_left _ hp)
   exact⟨n,fun z=>(mem_cons.mp (I.Ax _ z)).elim nl nf⟩
  ·refine⟨I.zU _ _ e,fun z=>?_⟩
   rcases mem_cons.mp (I.Ax _ z) with z | z
   ·exact I.CU _ _ e z
   ·obtain⟨_,o,ho,_⟩:=I.ok.AB.mem z
    exact absurd (lt_of_lt_of_le (lt_size ho) (I.ok.Fj _ _ (GU q hq).2.2 e)) (lt_irrefl _)
 refine⟨⟨BY,ns,kb,fun p hp=>?_,cell cs zO (fun _ h=>h) hv,I.ok.inj⟩,I.ok.frames,⟨BY,ns,?_,I.ok.mod.nolimit.keeps kb⟩,fun b o e=>?_,?_,?_,I.Bv,I.zp,I.bare⟩
 ·refine lH (I.pin p (mem_append_left _ hp)).1 ?_
  unfold fH
  rw[show(X.pn.map (·.1)).contains p.1=true from List.contains_iff_mem.mpr (mem_map_of_mem hp),Bool.or_true,Bool.true_or]
 ·obtain⟨mb,h1,h2⟩:=I.ok.mod.blt
  exact⟨mb,h1.keeps kb,h2⟩
 ·obtain⟨e1,k⟩:=tN e
  exact⟨e1,(UH b k).1⟩
 ·exact le_of_eq (PySem.W.hideAll_size _ _)
 ·refine mO (fun b hb=>?_) I.stack
  cases q:(iR X cs s.heap).get? b with
  | none=>rfl
  | some o=>exact absurd hb (UH b (tN q).2).2
noncomputable def xo (cs:List (Nat × Str))(sp:List V->Sp)(zP:List V)(E:XK)(t:TA):TE:=fun σ H Q=>∃ zO,Paired (fun (q:Nat × Str)(v:V)=>σ[q.1]? = some (some v)) cs zO/\t σ H fun vs H1=>sp zO (vs ++ zP) H1 Q E
section
variable {X:Cx}{CX:lJ}{k:Nat}{f:Addr}{fd:FuncData}{ps:List Str}{zP:List V}{ds:List Value}{E:XK}{x:Str}{p pos:Pos}{e:Expr}{es:List Expr}{t:TA}{cs:List (Nat × Str)}{sps:List V->Sp}
theorem sV (F:∀ zO zy,N3 X cs zO zy->zg X.prog X.w X.K X.mg zy CX k f fd ps (sps zO))(GU:∀ q ∈ cs,X.N[q.1]? = some q.2/\X.env.scope.names.lookup q.2=some .cell/\X.fn q.2=true)
  (hr:zm k X.A) (hg:Gl X x) (hm:X.mg x=some (.ref f)) (hk:keepIn X.K (.ref f)=true) (hb:Binds X.K fd ps ds) (hd:Vals zP ds) (hx:cC CX X E)
  (ha:PA X (e :: es) t) (C2:autoParam ((x == ("__debug__":Str))=false) θ) (he:autoParam (starEach (e :: es) X.env=(false,eval e X.env) :: starEach es X.env) η) (Bj:autoParam ((backTo pos (starEach es X.env)).any (·.1)=false) η) :
  PE X (.Call (.Name x p) (e :: es) [] pos) (xo cs sps zP E t):=by
 intro pins s σ H Q I h
 obtain⟨zO,hv,h⟩:=h
 refine wpAny_Call_Name_kw (fT I hg hm ?_ C2)
 refine PySem.W.callWith_K (h₀:=X.base) I.ok.mod.BY hk (aW (ha pos pins s σ H _ I h) fun us s1 ⟨vs,H1,I1,r,q⟩=>⟨I1.Al,?_⟩) he Bj
 obtain⟨B,e0⟩:=yV I1 GU hv
 have G:=F zO _ B
 have r2:Vals (vs ++ zP) (us ++ ds):=r.append hd
 have hl:(us ++ ds).length=ps.length:=by rw[← r2.length];exact G.len _ _ _ _ q
 refine wpAny_call (codeAny_mono (G.run X.A X.stack s1 H1 ⟨us,[]⟩ (us ++ ds) (vs ++ zP) Q E hr e0 (hb s1 us I1.Al hl) r2 q) fun r s' hq=>?_)
 cases r with
 | error e=>exact hx pins σ H1 s1 e s' I1 hq
 | ok fl =>
  cases fl with
  | ret u=>exact I1.after hq
  | next=>exact False.elim hq
  | brk=>exact False.elim hq
  | cont=>exact False.elim hq
noncomputable def xn (i:Nat)(f:Addr)(sp:Sp)(zP:List V)(E:XK)(t:TA):TE:=fun σ H Q=>σ[i]? = some (some (.ref f))/\t σ H fun vs H1=>sp (vs ++ zP) H1 Q E
theorem sU {sp:Sp}{i:Nat}(F:zg X.prog X.w X.K X.mg X.base CX k f fd ps sp)(hf:PySem.W.FnAt f X.base)(hr:zm k X.A)(hN:X.N[i]? = some x)(hv:Nf X.env.scope x)(hb:Binds X.K fd ps ds)(hd:Vals zP ds)(hx:cC CX X E)
  (ha:PA X (e :: es) t) (C2:autoParam ((x == ("__debug__":Str))=false) θ) (Bc:autoParam ((x == ("__classdict__":Str))=false) θ) (he:autoParam (starEach (e :: es) X.env=(false,eval e X.env) :: starEach es X.env) η) (Bj:autoParam ((backTo pos (starEach es X.env)).any (·.1)=false) η) :
  PE X (.Call (.Name x p) (e :: es) [] pos) (xn i f sp zP E t):=by
 intro pins s σ H Q I h
 obtain⟨hi,h⟩:=h
 have at':∀ {pins':List (Addr × Obj)}{σ':St}{H':Hp}{s':Shared},Inv X pins' σ' H' s'->PySem.W.FnAt f s'.heap:=fun J=>let ⟨a,b,c,d,e⟩:=hf; ⟨a,b,c,d,J.bk _ _ e⟩
 refine wpAny_Call_Name_kw (aW (sQ (pos:=p) hN hv C2 Bc pins s σ H (fun v H'=>v = .ref f/\H' = H) I ⟨_,hi,rfl,rfl⟩) fun u s0 zk=>?_)
 obtain⟨v,H',I',ru,ev,eH⟩:=zk
 subst ev;subst eH
 obtain rfl:u=Value.ref f:=ru
 refine PySem.W.callWith_F (at' I') (aW (ha pos pins s0 σ _ _ I' h) fun us s1 ⟨vs,H1,I1,r,q⟩=>⟨at' I1,?_⟩) he Bj
 exact j0 F hr hb hd hx I1 r q
end
structure jU (N P fr:List Str)(sc:Scope):Prop where
 kind:sc.kind = .function
 co:sc.isCoroutine=false
 gen:sc.isGenerator=false
 nd:N.Nodup
 pre:N=P ++ fr
 par:∀ x ∈ P,sc.names.lookup x=some .local
 Bd:∀ y ∈ sc.names,y.2 ≠ .cell
 free:∀ x ∈ fr,sc.names.lookup x=some .free
 all:∀ y ∈ sc.names,y.2 = .free->y.1 ∈ fr
structure Kc (base:Heap)(clos:List (Str × Addr))(fr:List Str)(zO:List V):Prop where
 at':Paired (fun (x:Str)(v:V)=>∃ c u,clos.lookup x=some c/\RelV v u/\base.IsCell c (some u)) fr zO
 only:∀ x c,clos.lookup x=some c->x ∈ fr
 inj:∀ x y c,clos.lookup x=some c->clos.lookup y=some c->x=y
noncomputable def Kd (CX:lJ)(P:Program)(w:World)(K:Frag)(mg:Str->Option Value)(base:Heap)(N:List Str)(qual:Str)(scope:Scope)(f:Addr)(cd:Value)(cl:List (Str × Addr))(A:Around)(outer:List Env)(s:Shared)(H:Hp)(E:XK):Cx where
 prog:=P
 w:=w
 K:=K
 mg:=mg
 base:=base
 A:=A.deeper (PySem.W.envX qual scope s.heap.objs.size f cd cl)
 N:=N
 s₀:=s
 H₀:=H
 env:=PySem.W.envX qual scope s.heap.objs.size f cd cl
 outer:=outer
 stack:=PySem.W.envX qual scope s.heap.objs.size f cd cl :: outer
 ex:=[]
 calm:=true
 fn:=fun _=>false
 pn:=[]
 xe:=fun e s'=>wpAny (model P w) (A.deeper (PySem.W.envX qual scope s.heap.objs.size f cd cl)) (leaving (PySem.W.envX qual scope s.heap.objs.size f cd cl) e) (fun _ DB=>CX outer H s E e DB) (fun e' DB=>CX outer H s E e' DB) s'
theorem oA {x:Str}{v:Value}:∀ {P:List Str}{us:List Value}{i:Nat},P.Nodup->P[i]? = some x->us[i]? = some v->(P.zip us).reverse.lookup x=some v:=by
 intro P us i nd h1 h2
 have hm:(x,v) ∈ (P.zip us).reverse:=mem_reverse.mpr (mem_of_getElem? (i:=i) (by rw[List.getElem?_zip_eq_some];exact⟨h1,h2⟩))
 have key:∀ (l:List (Str × Value)),(l.map (·.1)).Nodup->(x,v) ∈ l->l.lookup x=some v:=by
  intro l
  induction l with
  | nil=>intro _ h;cases h
  | cons p r ih =>
   intro hn hm
   obtain⟨y,z⟩:=p
   rw[map_cons,nodup_cons]at hn
   rw[lookup_cons]
   rcases mem_cons.mp hm with e | hm
   ·cases e;simp
   ·have:(x == y)=false:=by
     cases q:x == y with
     | false=>rfl
     | true=>exact absurd (mem_map_of_mem (f:=(·.1)) hm) (by rw[eq_of_beq q];exact hn.1)
    rw[this]
    exact ih hn.2 hm
 refine key _ ?_ hm
 have e:((P.zip us).map (·.1))=P.take us.length:=by
  have:∀ (P:List Str)(us:List Value),(P.zip us).map (·.1)=P.take us.length:=by
   intro P
   induction P with
   | nil=>intro us;simp
   | cons p r ih=>intro us;cases us with
    | nil=>rfl
    | cons u t=>simp[ih]
  exact this P us
 rw[List.map_reverse,e,List.nodup_iff_pairwise_ne,List.pairwise_reverse]
 exact(nd.sublist (List.take_sublist _ _)).imp fun h=>Ne.symm h
theorem yL {CX:lJ}{P:Program}{w:World}{K:Frag}{mg:Str->Option Value}{base:Heap}{k:Nat}{f c':Addr}{name qual:Str}{params:Arguments}{body:List Stmt}{scope:Scope}{clos:List (Str × Addr)}{doc pm AX:Value}{oc:Obj}
  {N ps fr:List Str} {zO:List V} {sp:Sp} (lk:base.get? f=some (PySem.W.fnMade name qual params body scope clos doc pm c' AX)) (Dy:base.get? c' = some oc) (Bc:jW oc qual) (S:jU N ps fr scope) (C:Kc base clos fr zO)
  (len:∀ vs H Q E,sp vs H Q E->vs.length=ps.length)
  (Aj:∀ (A:Around)(outer:List Env)(s:Shared)(H:Hp)(vs:List V)(Q:VK)(E:XK),zm k (A.deeper (PySem.W.envX qual scope s.heap.objs.size f (.ref c') clos))->sp vs H Q E ->
   ∃ t,Bi (Kd CX P w K mg base N qual scope f (.ref c') clos A outer s H E) body t/\t { nx:=fun _ H'=>Q .zD H',rt:=Q } ((vs ++ zO).map some) H) :
  zg P w K mg base CX (k + 1) f (PySem.W.fnX name qual params body scope clos .none .none doc pm none (.ref c') AX) ps sp:=by
 refine⟨len,fun A outer s H args us vs Q E hr e0 hb r BN=>?_⟩
 have hl:=len _ _ _ _ BN
 have bk:∀ b o,base.get? b=some o->s.heap.get? b=some o:=fun b o e=>(e0.bs b o e).1
 have lim:s.heap.NoLimit:=e0.mod.nolimit.keeps bk
 obtain⟨vv,tq,hd,hv⟩:=Bc
 have hlen:ps.length=us.length:=by rw[← hl];exact r.length
 refine codeAny_call_def (fd:=PySem.W.fnX name qual params body scope clos .none .none doc pm none (.ref c') AX) (body:=body) hr.depth (bk _ _ lk) rfl lim ⟨c',oc,vv,tq,rfl,bk _ _ Dy,hd,hv⟩ rfl hb S.Bd (fun y hy=>S.par y.1 (of_mem_zip (a:=y.1) (b:=y.2) hy).1) (fun h1 Ir hk=>?_) S.co S.gen S.kind
 obtain⟨t,ht,hq⟩:=Aj A outer s H vs Q E (hr.deeper _) BN
 have E3:∀ b:Addr,b ∉ (Kd CX P w K mg base N qual scope f (.ref c') clos A outer s H E).ex:=fun b z=>absurd (show b ∈ ([]:List Addr) from z) (by simp)
 have cellAt:∀ x c,clos.lookup x=some c->∃ (v:V)(u:Value)(i:Nat),fr[i]? = some x/\zO[i]? = some v/\RelV v u/\base.IsCell c (some u):=fun x c hx=>by
  obtain⟨i,hi,e⟩:=getElem_of_mem (C.only x c hx)
  have UI:fr[i]? = some x:=by rw[getElem?_eq_getElem hi,e]
  have GS:i < zO.length:=by rw[← Paired.length C.at'];exact hi
  have get:∀ (fr:List Str)(zO:List V)(i:Nat)(x:Str),Paired (fun (x:Str)(v:V)=>∃ c u,clos.lookup x=some c/\RelV v u/\base.IsCell c (some u)) fr zO->fr[i]? = some x->∃ v,zO[i]? = some v/\∃ c u,clos.lookup x=some c/\RelV v u/\base.IsCell c (some u):=by
   intro fr zO i x hp
   induction hp generalizing i with
   | nil=>intro e;simp at e
   | @cons a b _ _ r _ ih =>
    intro e
    cases i with
    | zero=>simp at e;subst e;exact⟨b,rfl,r⟩
    | succ i=>simpa using ih i (by simpa using e)
  obtain⟨v,hv,c2,u,h1,h2,h3⟩:=get fr zO i x C.at' UI
  rw[hx]at h1;cases h1
  exact⟨v,u,i,UI,hv,h2,h3⟩
 have C7:∀ c u,base.IsCell c (some u)->H c=none/\h1.IsCell c (some u):=fun c u zk=>by obtain⟨o,ho,hd⟩:=zk;exact⟨(e0.bs c o ho).2,o,hk _ _ (bk _ _ ho),hd⟩
 have I:Inv (Kd CX P w K mg base N qual scope f (.ref c') clos A outer s H E) [] ((vs ++ zO).map some) H { s with heap:=h1,toks:=s.toks + (ps.zip us).length }:=by
  refine⟨⟨e0.mod,S.kind,rfl,rfl,Nat.le_refl _,C.inj,fun y hy=>?_,fun y c h=>absurd h (by show ¬ (false=true);decide),fun _=>hr.hd,Around.frames_deeper e0.frames, .inr ⟨rfl,rfl⟩,fun b z=>absurd z (E3 b),e0.bs,e0.Dx,fun b _ _=>E3 b,fun b z=>absurd z (E3 b),e0.AB,e0.Ef⟩,
   rfl,e0.bare,Un.kept hk,⟨_,Ir,fun i y v h1 h2 h3=>?_⟩,fun y c h=>?_,e0.zp.fresh (Nat.le_refl _),fun y c h=>?_,fun p hp=>absurd (show p ∈ ([]:List (Addr × Obj)) from hp) (by simp),e0.zp.kept hk,?_⟩
  ·have hy:scope.names.lookup y=some .cell∨scope.names.lookup y=some .free:=hy
   rcases hy with hy | hy
   ·exact absurd rfl (S.Bd _ (PySem.mem_of_lookup hy))
   ·have hm:=S.all _ (PySem.mem_of_lookup hy) rfl
    have:∀ (fr:List Str)(zO:List V),Paired (fun (x:Str)(v:V)=>∃ c u,clos.lookup x=some c/\RelV v u/\base.IsCell c (some u)) fr zO->y ∈ fr->∃ c,clos.lookup y=some c:=by
     intro fr zO hp
     induction hp with
     | nil=>intro h;cases h
     | cons r _ ih =>
      intro h
      rcases mem_cons.mp h with rfl | h
      ·obtain⟨c,_,e,_⟩:=r;exact⟨c,e⟩
      ·exact ih h
    exact this fr zO C.at' hm
  ·have h1:N[i]? = some y:=h1
   have h2:((vs ++ zO).map some)[i]? = some (some v):=h2
   rw[getElem?_map]at h2
   have h2:(vs ++ zO)[i]? = some v:=by
    cases q:(vs ++ zO)[i]? with
    | none=>rw[q]at h2;cases h2
    | some z=>rw[q]at h2;cases h2;rfl
   rw[S.pre]at h1
   by_cases hi:i < vs.length
   ·rw[getElem?_append_left hi]at h2
    rw[getElem?_append_left (by omega)]at h1
    obtain⟨u,hu,rv⟩:=r.get h2
    have Nq:ps.Nodup:=(nodup_append.mp (S.pre ▸ S.nd)).1
    exact⟨u,rv, .inl ⟨S.par y (mem_of_getElem? h1),oA Nq h1 hu⟩⟩
   ·rw[getElem?_append_right (by omega)]at h2
    rw[getElem?_append_right (by omega),← hl]at h1
    have hyf:=mem_of_getElem? h1
    have:∀ (fr:List Str)(zO:List V)(j:Nat),Paired (fun (x:Str)(v:V)=>∃ c u,clos.lookup x=some c/\RelV v u/\base.IsCell c (some u)) fr zO->fr[j]? = some y->zO[j]? = some v->∃ c u,clos.lookup y=some c/\RelV v u/\base.IsCell c (some u):=by
     intro fr zO j hp
     induction hp generalizing j with
     | nil=>intro e;simp at e
     | cons r _ ih =>
      intro e1 e2
      cases j with
      | zero=>simp at e1 e2;subst e1;subst e2;exact r
      | succ j=>exact ih j (by simpa using e1) (by simpa using e2)
    obtain⟨c,u,hc,ru,BJ⟩:=this fr zO _ C.at' h1 h2
    exact⟨u,ru, .inr ⟨.inr (S.free y hyf),c,hc,(C7 c u BJ).2⟩⟩
  ·obtain⟨v,u,i,_,_,_,h4⟩:=cellAt y c h
   exact⟨_,(C7 c u h4).2⟩
  ·obtain⟨v,u,i,_,_,_,h4⟩:=cellAt y c h
   exact(C7 c u h4).1
  ·show((vs ++ zO).map some).length=N.length
   rw[length_map,length_append,S.pre,length_append,hl,Paired.length C.at']
 refine wpAny_mono (ht [] _ _ H _ I hq) (fun fl s' hs=>?_) fun e s' hs=>hs
 have fin:∀ {σ':St}{H':Hp}{v:V}{u:Value},Inv (Kd CX P w K mg base N qual scope f (.ref c') clos A outer s H E) [] σ' H' s'->RelV v u->Q v H'->CE outer P w H s Q u s' :=
  fun {σ' H' v u} J rv q=>⟨v,H',J.os,J.bare,J.base,J.zp,rv,q⟩
 cases fl with
 | ret u =>
  obtain⟨v,σ',H',J,rv,q⟩:=hs
  exact fin J rv q
 | next =>
  obtain⟨σ',H',J,q⟩:=hs
  exact fin (v:=V.zD) (u:=Value.none) J rfl q
 | brk =>
  obtain⟨_,_,_,q⟩:=hs
  exact False.elim q
 | cont =>
  obtain⟨_,_,_,q⟩:=hs
  exact False.elim q
theorem N3.cap {X:Cx}{cs:List (Nat × Str)}{zO:List V}{zy:Heap}{clos:List (Str × Addr)}(B:N3 X cs zO zy)(hc:cs.map (·.2)=clos.map (·.1))(hl:∀ q ∈ clos,X.env.cells.lookup q.1=some q.2):Kc zy clos (clos.map (·.1)) zO:=by
 have look:∀ (l:List (Str × Addr))(x:Str)(c:Addr),(∀ q ∈ l,X.env.cells.lookup q.1=some q.2)->l.lookup x=some c->X.env.cells.lookup x=some c/\x ∈ l.map (·.1):=by
  intro l
  induction l with
  | nil=>intro x c _ h;cases h
  | cons p r ih =>
   intro x c hl h
   rw[lookup_cons]at h
   cases q:x == p.1 with
   | true=>rw[q]at h;cases h;rw[eq_of_beq q];exact⟨hl p mem_cons_self,mem_cons_self⟩
   | false =>
    rw[q]at h
    obtain⟨a,b⟩:=ih x c (fun z hz=>hl z (mem_cons_of_mem _ hz)) h
    exact⟨a,mem_cons_of_mem _ b⟩
 have has:∀ (l:List (Str × Addr))(x:Str),x ∈ l.map (·.1)->∃ c,l.lookup x=some c:=by
  intro l
  induction l with
  | nil=>intro x h;cases h
  | cons p r ih =>
   intro x h
   rw[lookup_cons]
   cases q:x == p.1 with
   | true=>exact⟨_,rfl⟩
   | false =>
    rcases mem_cons.mp h with e | h
    ·rw[e]at q;simp at q
    ·exact ih x h
 refine⟨?_,fun x c h=>(look clos x c hl h).2,fun x y c h1 h2=>B.inj x y c (look clos x c hl h1).1 (look clos y c hl h2).1⟩
 rw[← hc]
 have hs:∀ q ∈ cs,q.2 ∈ clos.map (·.1):=fun q hq=>hc ▸ mem_map_of_mem hq
 have key:∀ (cs:List (Nat × Str))(zO:List V),(∀ q ∈ cs,q.2 ∈ clos.map (·.1))->Paired (fun (q:Nat × Str)(v:V)=>∃ c u,X.env.cells.lookup q.2=some c/\RelV v u/\zy.IsCell c (some u)) cs zO->Paired (fun (x:Str)(v:V)=>∃ c u,clos.lookup x=some c/\RelV v u/\zy.IsCell c (some u)) (cs.map (·.2)) zO:=by
  intro cs zO hs hp
  induction hp with
  | nil=>exact .nil
  | @cons q v _ _ r _ ih =>
   refine .cons ?_ (ih fun z hz=>hs z (mem_cons_of_mem _ hz))
   obtain⟨c,u,e,ru,z⟩:=r
   obtain⟨c2,e2⟩:=has clos q.2 (hs q mem_cons_self)
   have:=(look clos q.2 c2 hl e2).1
   rw[e]at this;cases this
   exact⟨c,u,e2,ru,z⟩
 exact key cs zO hs B.cell
theorem zH.okC {P:Program}{w:World}{K:Frag}{mg:Str->Option Value}{base:Heap}{x qual:Str}{st:Stmt}{f:Addr}{fd:FuncData}{N ps:List Str}{k:Nat}{sp:Sp}(F:zH K x qual st f fd)(S:ao N ps (ah st))(len:∀ vs H Q E,sp vs H Q E->vs.length=ps.length)
  (Aj:∀ (cdv:Value)(A:Around)(outer:List Env)(s:Shared)(H:Hp)(vs:List V)(Q:VK)(E:XK),fd.code=cdv->zm k (A.deeper (envOfC qual (ah st) s.heap.objs.size f cdv))->sp vs H Q E ->
   ∃ t,Bi (iG aD P w K mg base N qual (ah st) f cdv A outer s H E).Fp (aG st) t/\t { nx:=fun _ H'=>Q .zD H',rt:=Q } (start N vs) H):zg P w K mg base aD (k + 1) f fd ps sp:=by
 obtain⟨oc,od,kV,doc,pm,an,cdv,ct,BZ,rfl,lk,Bc⟩:=F.ex
 refine qi lk Bc S len fun A outer s H vs Q E hr BN=>?_
 obtain⟨t,h,q⟩:=Aj cdv A outer s H vs Q E rfl hr BN
 exact⟨t,h.Fp,q⟩
theorem yK {P:Program}{w:World}{K:Frag}{mg:Str->Option Value}{base:Heap}{k:Nat}{f c':Addr}{name qual:Str}{params:Arguments}{body:List Stmt}{scope:Scope}{clos:List (Str × Addr)}{doc pm AX:Value}{oc:Obj}
  {N ps fr:List Str} {zO:List V} {sp:Sp} (lk:base.get? f=some (PySem.W.fnMade name qual params body scope clos doc pm c' AX)) (Dy:base.get? c' = some oc) (Bc:jW oc qual) (S:jU N ps fr scope) (C:Kc base clos fr zO)
  (len:∀ vs H Q E,sp vs H Q E->vs.length=ps.length)
  (Aj:∀ (A:Around)(outer:List Env)(s:Shared)(H:Hp)(vs:List V)(Q:VK)(E:XK),zm k (A.deeper (PySem.W.envX qual scope s.heap.objs.size f (.ref c') clos))->sp vs H Q E ->
   ∃ t,Bi (Kd aD P w K mg base N qual scope f (.ref c') clos A outer s H E).Fp body t/\t { nx:=fun _ H'=>Q .zD H',rt:=Q } ((vs ++ zO).map some) H) :
  zg P w K mg base aD (k + 1) f (PySem.W.fnX name qual params body scope clos .none .none doc pm none (.ref c') AX) ps sp :=
 yL lk Dy Bc S C len fun A outer s H vs Q E hr BN=>by
  obtain⟨t,h,q⟩:=Aj A outer s H vs Q E hr BN
  exact⟨t,h.Fp,q⟩
theorem qX {P:Program}{w:World}{K:Frag}{mg mb:Str->Option Value}{CX:lJ}{k:Nat}{fa a c Tb:Addr}{fd:FuncData}{x:Str}{sp:Sp}{s₁:Shared}{vs:List Value}{ns:List Int}{pT:Program}{loose:List Str}{mean:ExcName->Option Value}
  (T:PyProof.Rows.Top pT loose mean mg mb s₁.heap) (hT:PySem.W.CodeHd s₁.heap c Tb/\s₁.heap.get? Tb=some (PySem.W.tabObj #[])) (nK:PySem.W.noTabs K=true)
  (KX:K.In s₁.heap) (hg:s₁.gens = #[])
  (ha:s₁.heap.get? a=some { cls := .type "list",data := .seq vs.toArray }) (hi:IntsAre vs ns) (hl:ns.length <= sizeLine) (hr:zm k callerA)
  (F:∀ base:Heap,K.In base->base.Ns mainGlobals mg->Ek mg base c Tb->zg P w K mg base CX k fa fd [x] sp) (Ke:∀ (s:Shared)(u:Value),BindsTo s fd ⟨[u],[]⟩ [(x,u)])
  (BN:∀ H:Hp,H Tb=some (.Bb #[])->zj K H a (ns.map V.int)->sp [.ref a] H (fun v _=>v = .bl true) fun _ _ _=>False)
  (PJ:∀ H e s',CX [] H s₁ (fun _ _ _=>False) e s'->False) :
  codeAny (model P w) callerA (.call (.ref fa) ⟨[.ref a],[]⟩) (fun r s'=>r = .ok (.ret (.bool true))/\OldK s₁.heap s'.heap/\s'.os=s₁.os/\AllBare s'.gens) s₁:=by
 have rv:=kv hi
 have PK:=hi.length
 obtain⟨hC,Cv⟩:=hT
 have UJ:a ≠ Tb:=fun e=>by rw[e,Cv]at ha;cases ha
 have KT:K.lookup Tb=none:=by
  cases q:K.lookup Tb with
  | none=>rfl
  | some o =>
   have e:=KX _ _ q
   rw[Cv]at e;cases e
   have h2:=all_eq_true.mp nK (Tb,_) (PySem.W.mem_of_lookupK q)
   exact absurd (show false=true from h2) Bool.false_ne_true
 have core:∀ H:Hp,H Tb=some (.Bb #[])->(∀ b,b ≠ Tb->H b=none∨∃ o xs,H b=some (.Cy o (.lst xs)))->zj K H a (ns.map V.int)->AE P w H s₁.heap->(∀ b,H b ≠ none->b=a∨b=Tb)->(H a ≠ none->K.lookup a=none) ->
   codeAny (model P w) callerA (.call (.ref fa) ⟨[.ref a],[]⟩) (fun r s'=>r = .ok (.ret (.bool true))/\OldK s₁.heap s'.heap/\s'.os=s₁.os/\AllBare s'.gens) s₁:=by
  intro H UK hO hS zp hA hK
  have base_of:∀ {b:Addr}{o:Obj},s₁.heap.get? b=some o->H b=none->(jZ s₁.heap H).get? b=some o:=fun e n=>ud e n
  have UL:∀ {b:Addr}{o:Obj},s₁.heap.get? b=some o->o.cls ≠ .type "list"->o.cls ≠ .none->H b=none:=fun {b o} e d1 d2=>by
   cases q:H b with
   | none=>rfl
   | some u =>
    rcases hA b (by rw[q];simp) with z | z
    ·subst z;rw[ha]at e;cases e;exact absurd rfl d1
    ·subst z;rw[Cv]at e;cases e;exact absurd rfl d2
  have E3:∀ {b:Addr}{o:Obj}{es:Array DictEntry}{ep:Nat},s₁.heap.get? b=some o->o.data = .dict es ep->H b=none:=fun {b o es ep} e d=>by
   cases q:H b with
   | none=>rfl
   | some u =>
    rcases hA b (by rw[q];simp) with z | z
    ·subst z;rw[ha]at e;cases e
     have d':Data.seq vs.toArray _=Data.dict es ep:=d
     cases d'
    ·subst z;rw[Cv]at e;cases e;cases d
  have N5:∀ {b:Addr}{m:Str->Option Value},s₁.heap.Ns b m->(jZ s₁.heap H).Ns b m:=fun {b m} ⟨o,es,ep,e,d,r⟩=>⟨o,es,ep,base_of e (E3 e d),d,r⟩
  have UM:K.In (jZ s₁.heap H):=fun b o e=>base_of (KX b o e) (by
   cases q:H b with
   | none=>rfl
   | some u =>
    rcases hA b (by rw[q];simp) with z | z
    ·subst z;rw[hK (by rw[q];simp)]at e;cases e
    ·subst z;rw[KT]at e;cases e)
  have hM:Mod K mg (jZ s₁.heap H):=⟨UM,N5 T.g,⟨mb,N5 T.b,T.builtins⟩,let ⟨mc,h1,h2⟩:=T.nolimit; ⟨mc,N5 h1,h2⟩⟩
  have hN:Ek mg (jZ s₁.heap H) c Tb:=by
   have gP:mainGlobals ≠ Tb:=fun q=>by
    obtain⟨o,es,ep,e,hd,_⟩:=T.g
    rw[q,Cv]at e;cases e;cases hd
   obtain⟨bm,ob,b1,b2,b3,b4,b5,b6⟩:=T.bmain
   have UN:ob.cls = .type "module":=b4
   refine⟨⟨bm,ob,b1,b2,fun q=>?_,fun q=>?_,base_of b3 (UL b3 (by rw[UN];simp) (by rw[UN];simp)),b4,b5,b6⟩,?_,gP⟩
   ·obtain⟨o,es,ep,e,hd,_⟩:=T.g
    rw[q,e]at b3;cases b3;rw[hd]at b6;cases b6
   ·rw[q,Cv]at b3;cases b3;cases b4
   ·obtain⟨o,vs',file,tf,flags,tg,inF,text,tt,e1,e2,r⟩:=hC
    exact⟨o,vs',file,tf,flags,tg,inF,text,tt,base_of e1 (UL e1 (by rw[e2];simp) (by rw[e2];simp)),e2,r⟩
  have e0:Ce P w K mg (jZ s₁.heap H) callerA [] s₁ H:=⟨rfl,hM,fun b o e=>vR e,le_of_eq (rc _ _),trivial,fun b hb=>absurd (show b ∈ ([]:List Addr) from hb) (by simp),zp, .of_eq hg⟩
  refine codeAny_mono ((F _ UM (N5 T.g) hN).run callerA [] s₁ H ⟨[.ref a],[]⟩ [.ref a] [.ref a] _ _ hr e0 (Ke s₁ (.ref a)) (.cons rfl .nil) (BN H UK hS)) fun r s' h=>?_
  cases r with
  | error e=>exact(PJ H e s' h).elim
  | ok fl =>
   cases fl with
   | next=>exact False.elim h
   | brk=>exact False.elim h
   | cont=>exact False.elim h
   | ret u =>
    obtain⟨v,H',os,bare,un,Kf,r',q⟩:=h
    have q':v = .bl true:=q
    subst q'
    obtain rfl:u=Value.bool true:=r'
    have keep:∀ b o,b ≠ Tb->s₁.heap.get? b=some o->s'.heap.get? b=some o:=fun b o nb e=>by
     cases q:H b with
     | none=>exact un.keep b o e q (by intro z;exact absurd (show b ∈ ([]:List Addr) from z) (by simp)) (by simp)
     | some u =>
      rcases hO b nb with z | ⟨ob,xs,z⟩
      ·rw[q]at z;cases z
      ·have z2:=un.Bo b ob _ z
       obtain⟨e1,_⟩:=zp b _ z
       obtain⟨e2,_⟩:=Kf b _ z2
       rw[e]at e1;cases e1
       exact e2
    obtain⟨more,hm⟩:=un.Bp Tb _ UK
    have gm:s'.heap.get? Tb=some (PySem.W.tabObj (#[] ++ more)):=Kf Tb _ hm
    refine⟨rfl,⟨fun b o e=>?_,fun b o e=>?_⟩,os,bare⟩
    ·by_cases hb:b=Tb
     ·subst hb;rw[Cv]at e;cases e
      exact .inr (.inl ⟨(hC.tab Cv).isCodeTable,rfl,#[],more,rfl,gm⟩)
     ·exact .inl (keep b o hb e)
    ·by_cases hb:b=Tb
     ·subst hb;exact⟨_,gm⟩
     ·exact⟨o,keep b o hb e⟩
 cases hk:K.lookup a with
 | some o =>
  have e:=KX a o hk
  rw[ha]at e
  cases e
  refine core (fun b=>if b=Tb then some (.Bb #[]) else none) (if_pos rfl) (fun b nb => .inl (if_neg nb)) (.inr ⟨_,vs.toArray,_,hk,rfl,rfl,rfl,by rw[size_toArray,PK];exact hl,by simpa using rv⟩) (fun b u z=>?_) (fun b z=>?_) fun z=>absurd (if_neg UJ) z
  ·by_cases hb:b=Tb
   ·have z':=(if_pos hb).symm.trans z
    cases z'
    subst hb
    exact Cv
   ·have z':=(if_neg hb).symm.trans z
    cases z'
  ·by_cases hb:b=Tb
   ·exact .inr hb
   ·exact absurd (if_neg hb) z
 | none =>
  refine core (fun b=>if b=Tb then some (.Bb #[]) else if b=a then some (.Cy { cls := .type "list",data := .seq vs.toArray } (.lst (ns.map V.int))) else none) (if_pos rfl) (fun b nb=>?_) (.inl (.inr ⟨{ cls := .type "list",data := .seq vs.toArray },(if_neg UJ).trans (if_pos rfl)⟩)) (fun b u z=>?_) (fun b z=>?_) fun _=>hk
  ·by_cases hb:b=a
   ·exact .inr ⟨_,_,(if_neg nb).trans (if_pos hb)⟩
   ·exact .inl ((if_neg nb).trans (if_neg hb))
  ·by_cases hb:b=Tb
   ·have z':=(if_pos hb).symm.trans z
    cases z'
    subst hb
    exact Cv
   ·have z:=(if_neg hb).symm.trans z
    by_cases hb:b=a
    ·have z':=(if_pos hb).symm.trans z
     cases z'
     subst hb
     exact⟨ha,by rw[length_map];exact hl,vs,_,rv,ha⟩
    ·have z':=(if_neg hb).symm.trans z
     cases z'
  ·by_cases hb:b=Tb
   ·exact .inr hb
   ·by_cases GN:b=a
    ·exact .inl GN
    ·exact absurd ((if_neg hb).trans (if_neg GN)) z
theorem xa {K:Frag}{x:Str}{f c Tb:Addr}{oc oT:Value}{od dT:Option Addr}{fd:FuncData}{BZ sT:Array (Option Value)}{vT:Array Value}(a:nsIn K mainGlobals x=some (some (.ref f)))(l:K.lookup f=some ⟨oc,od, .func fd,BZ⟩)(hc:fd.code = .ref c)(lc:K.lookup c=some ⟨oT,dT, .fields vT,sT⟩)(hv:vT[11]? = some (.ref Tb)) :
  PySem.W.tabIn K x=some (c,Tb):=by
 unfold PySem.W.tabIn
 rw[a];dsimp only;rw[l];dsimp only;rw[hc];dsimp only;rw[lc];dsimp only;rw[hv]
theorem DN {l:PySem.W.OpenLaw}{n k:Nat}{q:Program}{loose:List Str}{XP:(Str->Option Value)->Heap->Prop}{YP:World->Heap->Prop}{d dd:DefRec}{K:Params->Frag}{CX:World->lJ}{sp:World->Addr->Sp}{x y:Str}
  (hn:l.most=some n) (CW:n <= sizeLine) (JD:d.params.defaults=[]) (hr:zm k callerA)
  (hY:∀ (w:World)(h:Heap),YP w h->(K w.params).In h) (DL:(PyProof.Rows.recsOf q).find? (fun e=>e.name == y)=some dd) (F3:∀ p,PySem.W.noTabs (K p)=true)
  (F:∀ (w:World)(mg:Str->Option Value)(fa:Addr)(h:Heap),(K w.params).In h->h.Ns mainGlobals mg->mg d.name=some (.ref fa) ->
   ∃ (fd:FuncData)(c Tb:Addr),PySem.W.tabIn (K w.params) y=some (c,Tb)/\(∀ (s:Shared)(u:Value),BindsTo s fd ⟨[u],[]⟩ [(x,u)]) /\
    ∀ base:Heap,(K w.params).In base->base.Ns mainGlobals mg->Ek mg base c Tb->zg l.prog w (K w.params) mg base (CX w) k fa fd [x] (sp w Tb))
  (BN:∀ (w:World)(H:Hp)(a:Addr)(ns:List Int)(Tb:Addr),ns.length <= n->H Tb=some (.Bb #[])->zj (K w.params) H a (ns.map V.int)->sp w Tb [.ref a] H (fun v _=>v = .bl true) fun _ _ _=>False)
  (PJ:∀ (w:World)(H:Hp)(s:Shared)(e:Value)(s':Shared),CX w [] H s (fun _ _ _=>False) e s'->False) :
  PySem.W.WalkO q loose XP YP l.row.toRowW d [] (fun f vs=>PySem.call f vs):=by
 refine U1.Cj hn JD fun w s₀ s₁ mg mb fa o pm cd doc a vs ns G Y ho hd Bc hmg GC hints hlen hg=>?_
 have KX:=hY w _ Y
 obtain⟨fd,c,Tb,PL,hb,hF⟩:=F w mg fa _ KX G.T.g hmg
 exact qX G.T (PySem.W.tab_of G.T KX DL PL) (F3 _) KX hg GC hints (le_trans hlen CW) hr hF hb (fun H hO hS=>BN w H a ns Tb hlen hO hS) fun H e s'=>PJ w H s₁ e s'
end L2
namespace L2
open PySem
theorem bM {J:It}{g:TG}{tt:TT}{te:TE}{σ0:St}{H:Hp}{Q:VK}(n:Nat)(hn:n < sizeLine)(W:Nat->List V->Hp->Prop)(h0:W 0 [] H)(hlen:∀ i acc H',W i acc H'->acc.length <= i)
  (turn:∀ i acc H',i < n->W i acc H'->J.go i H'/\∀ x H2,J.E2 i H' x H2->g x σ0 H2 fun σ2 H3=>tt σ2 H3 fun b H4=>if b=true then te σ2 H4 fun y H5=>W (i + 1) (acc ++ [y]) H5 else W (i + 1) acc H4)
  (stop:∀ acc H',W n acc H'->J.stop n H'/\∀ D,H' D=none->Q (.ref D) (upd H' D (.lst acc))):c9 J g tt te σ0 Q H:=by
 refine⟨fun i m acc H'=>m=n - i/\i <= n/\W i acc H',⟨n,by simp,zero_le _,h0⟩,?_⟩
 rintro i m acc H' ⟨rfl,hi,w⟩
 refine⟨by have:=hlen i acc H' w;omega,?_⟩
 by_cases zT:i < n
 ·obtain⟨go,q⟩:=turn i acc H' zT w
  exact .inr ⟨go,fun Aa H2=>W (i + 1) Aa H2,fun Aa H2 w2=>⟨n - (i + 1),by omega,rfl,zT,w2⟩,q⟩
 ·have e:i=n:=by omega
  subst e
  exact .inl (stop acc H' w)
theorem zf.new {H H':Hp}{a:Addr}{o:HO}(h:zf H H')(n:H' a=none):zf H (upd H' a o):=fun b u e=>by rw[ae (ag (h _ _ e) n)];exact h _ _ e
end L2
namespace L2
open PySem
theorem zQ {N P:List Str}{sc:Scope}(a:autoParam (sc.kind = .function) η)(b:autoParam (sc.isCoroutine=false) η)(c:autoParam (sc.isGenerator=false) η)(d:autoParam (N.Nodup) ξ)(e:autoParam (N.take P.length=P) η)(f:autoParam (∀ x ∈ P,sc.names.lookup x=some .local∨sc.names.lookup x=some .cell) ξ)(g:autoParam (∀ y ∈ sc.names,y.2 ≠ .free) ξ):ao N P sc:=⟨a,b,c,d,e,f,g⟩
theorem Bs {N:List Str}{sc scope:Scope}{capN:List Str}{cap:List Nat}(a:autoParam (scope.kind = .function) η)(b:autoParam (∀ y ∈ scope.names,y.2 ≠ .cell) ξ)(c:autoParam (∀ y ∈ scope.names,y.2 = .local->scope.names.lookup y.1=some .local) ξ)(d:autoParam (∀ y ∈ scope.names,y.2 = .free->sc.names.lookup y.1=some .cell∨sc.names.lookup y.1=some .free) ξ)(e:autoParam (cap.length=capN.length) η)(f:autoParam (∀ p ∈ capN.zip cap,scope.names.lookup p.1=some .free/\N[p.2]? = some p.1) ξ):As N sc scope capN cap:=⟨a,b,c,d,e,f⟩
end L2
namespace K67
open PySem L2
variable {P:Program}{w:World}{K:Frag}{mg:Str->Option Value}{base:Heap}
noncomputable def top (i:Nat):Stmt:=PySem.Challenge.pw_wormyard_k67_whole_still_stands.main.body.getD i (.Pass ⟨0,0,0,0⟩)
noncomputable abbrev uZ:Stmt:=top 2
noncomputable abbrev sy:Stmt:=top 3
noncomputable abbrev xC:Stmt:=top 4
noncomputable abbrev gh:Stmt:=top 19
noncomputable abbrev ja:Stmt:=top 20
noncomputable abbrev xG:Stmt:=top 21
noncomputable abbrev xA:Stmt:=top 25
noncomputable abbrev lY:Stmt:=top 28
noncomputable abbrev PM:Stmt:=top 29
noncomputable abbrev gi:Stmt:=top 38
noncomputable abbrev sj:Stmt:=top 39
noncomputable abbrev lV:Stmt:=top 40
noncomputable abbrev oh:Stmt:=top 44
noncomputable abbrev nZ:Stmt:=top 45
noncomputable abbrev xD:Stmt:=top 47
noncomputable abbrev lU:Stmt:=top 48
noncomputable abbrev sI:Stmt:=top 50
noncomputable abbrev xH:Stmt:=top 51
noncomputable abbrev oz:Stmt:=top 52
noncomputable abbrev oq:Stmt:=top 53
noncomputable abbrev jx:Stmt:=top 54
noncomputable abbrev ou:Stmt:=top 55
noncomputable abbrev jy:Stmt:=top 56
noncomputable abbrev sH:Stmt:=top 57
noncomputable abbrev jv:Stmt:=top 58
noncomputable abbrev jz:Stmt:=top 59
noncomputable abbrev jw:Stmt:=top 60
noncomputable abbrev N6:Stmt:=aH (top 8) 0
noncomputable abbrev N7:Stmt:=aH (top 9) 0
noncomputable abbrev N8:Stmt:=aH (top 10) 0
noncomputable abbrev uY:Stmt:=aH (top 15) 0
noncomputable abbrev lX:Stmt:=aH (top 26) 0
noncomputable abbrev xO:Stmt:=aH (top 26) 2
noncomputable abbrev sw:Stmt:=aH (top 26) 3
noncomputable abbrev lW:Stmt:=aH (top 26) 4
noncomputable abbrev xB:Stmt:=aH (top 30) 0
noncomputable abbrev sm:Stmt:=aH (top 31) 0
noncomputable abbrev og:Stmt:=aH (top 31) 1
noncomputable abbrev xK:Stmt:=aH (top 33) 0
noncomputable abbrev sx:Stmt:=aH (top 33) 1
noncomputable abbrev xF:Stmt:=aH (top 33) 2
noncomputable abbrev ow:Stmt:=aH (top 33) 3
noncomputable abbrev so:Stmt:=aH (top 33) 4
noncomputable abbrev o0:Stmt:=aH (top 33) 5
noncomputable abbrev xJ:Stmt:=aH (top 33) 6
noncomputable abbrev xI:Stmt:=aH (top 33) 7
noncomputable abbrev sF:Stmt:=aH (top 41) 0
noncomputable abbrev sD:Stmt:=aH (top 41) 1
noncomputable abbrev iu:Stmt:=aH (top 42) 0
noncomputable abbrev gX:Stmt:=aH (top 42) 1
noncomputable abbrev oj:Stmt:=aH (top 42) 2
noncomputable abbrev lT:Stmt:=aH (top 42) 3
noncomputable abbrev lS:Stmt:=aH (top 42) 4
noncomputable abbrev oi:Stmt:=aH (top 42) 5
noncomputable abbrev lp:Stmt:=aH (top 42) 6
noncomputable abbrev gU:Stmt:=aH (top 42) 7
noncomputable abbrev sC:Stmt:=aH (top 42) 8
noncomputable abbrev PN:Stmt:=aH (top 42) 9
noncomputable abbrev sG:Stmt:=aH (top 42) 10
noncomputable abbrev oy:Stmt:=aH (top 42) 11
noncomputable abbrev xL:Stmt:=aH (top 42) 12
noncomputable abbrev su:Stmt:=aH (top 42) 13
noncomputable abbrev sr:Stmt:=aH (top 42) 14
noncomputable abbrev gj:Stmt:=aH (top 42) 15
noncomputable abbrev ot:Stmt:=aH (top 42) 16
noncomputable abbrev sE:Stmt:=aH (top 42) 17
noncomputable abbrev sk:Stmt:=aH (top 42) 18
noncomputable abbrev om:Stmt:=aH (top 42) 19
noncomputable abbrev ll:Stmt:=aH (top 42) 20
structure eW (mg:Str->Option Value):Prop where
 Iz:mg "isinstance" = none
 int:mg "int" = none
 bool:mg "bool" = none
 len:mg "len" = none
 enum:mg "enumerate" = none
 tuple:mg "tuple" = none
 range:mg "range" = none
 list:mg "list" = none
 all:mg "all" = none
 sum:mg "sum" = none
 abs:mg "abs" = none
 str:mg "str" = none
noncomputable def w6 (H:Hp)(v:V)(p:Int × Int):Prop:=∃ t,v = .ref t/\H t=some (.tup [.int p.1, .int p.2])
noncomputable abbrev zN (H:Hp):List V->List (Int × Int)->Prop:=Paired (w6 H)
theorem zN.same {H H':Hp}(h:zf H H'):∀ {vs:List V}{ps:List (Int × Int)},zN H vs ps->zN H' vs ps:=fun zk=>by
 induction zk with
 | nil=>exact .nil
 | cons zz r ih=>obtain⟨t,e,q⟩:=zz;exact .cons ⟨t,e,h _ _ q⟩ ih
theorem zN.get {H:Hp}:∀ {vs:List V}{ps:List (Int × Int)}{i:Nat}{v:V},zN H vs ps->vs[i]? = some v->∃ p,ps[i]? = some p/\w6 H v p:=by
 intro _ _ i _ zk
 induction zk generalizing i with
 | nil=>intro h;cases h
 | cons x r ih =>
  intro h
  cases i with
  | zero=>cases h;exact⟨_,rfl,x⟩
  | succ i=>exact ih (i:=i) h
theorem zN.GX {H:Hp}:∀ {vs:List V}{ps:List (Int × Int)}{i:Nat}{p:Int × Int},zN H vs ps->ps[i]? = some p->∃ v,vs[i]? = some v/\w6 H v p:=by
 intro _ _ i _ zk
 induction zk generalizing i with
 | nil=>intro h;cases h
 | cons x r ih =>
  intro h
  cases i with
  | zero=>cases h;exact⟨_,rfl,x⟩
  | succ i=>exact ih (i:=i) h
theorem zN.snoc {H:Hp}{v:V}{p:Int × Int}(h:w6 H v p):∀ {vs:List V}{ps:List (Int × Int)},zN H vs ps->zN H (vs ++ [v]) (ps ++ [p]):=fun zk=>by
 induction zk with
 | nil=>exact .cons h .nil
 | cons q r ih=>exact .cons q ih
noncomputable def iO (n:Int)(p:Int × Int):Bool:=decide (0 <= p.1/\p.1 <= n - 1) && (decide (0 <= p.2/\p.2 <= n - 1) && !decide (p.1=p.2))
noncomputable def kT:Sp:=fun vs H Q _=>∃ i:Int,vs=[.int i]/\Q (.bl true) H
noncomputable def jo:Sp:=fun vs H Q _=>∃ i a b:Int,vs=[.int i, .int a, .int b]/\Q (.bl (decide (a <= i/\i <= b))) H
noncomputable def rJ:Sp:=fun vs H Q _=>∃ n a b:Int,vs=[.int n, .int a, .int b]/\Q (.bl (iO n (a,b))) H
theorem pH:ao ["value"] ["value"] (ah gh):=L2.zQ
theorem m7 {f:Addr}{fd:FuncData}(F:zH K "is_whole" "is_whole" gh f fd)(T:eW mg):zg P w K mg base aD 1 f fd ["value"] kT:=by
 refine F.ok pH (fun _ _ _ _ h=>?_) (fun _ _ _ s H _ Q E hr h=>?_)
 ·obtain⟨m,rfl,_⟩:=h
  rfl
 ·obtain⟨i,rfl,q⟩:=h
  refine⟨_,ai (ar (c5 (aw ng rfl T.Iz PyProof.Rows.boot_isinstance (aa (pv 0) (aa (fP (v := .ty "int") rfl T.int PySem.Pv.boot_int rfl) ad)))
   (c4 (lu (aw ng rfl T.Iz PyProof.Rows.boot_isinstance (aa (pv 0) (aa (fP (v := .ty "bool") rfl T.bool PySem.Pv.boot_bool rfl) ad))))))),?_⟩
  refine⟨_,rfl, .inl ⟨i,rfl,true,rfl,?_⟩⟩
  refine aJ ?_
  exact⟨_,rfl, .inr (.inl ⟨i,rfl,false,rfl,q⟩)⟩
theorem lR:ao ["value", "least", "most"] ["value", "least", "most"] (ah ja):=L2.zQ
theorem qN {f fh:Addr}{fd Ca:FuncData}(F:zH K "is_within" "is_within" ja f fd)(T:eW mg)(mh:mg "is_whole" = some (.ref fh))(Fh:zH K "is_whole" "is_whole" gh fh Ca)(bh:Binds K Ca ["value"] []) :
  zg P w K mg base aD 2 f fd ["value", "least", "most"] jo:=by
 have G:zg P w K mg base aD 1 fh Ca ["value"] kT:=m7 Fh T
 refine F.ok lR (fun _ _ _ _ h=>?_) (fun _ _ _ s H _ Q E hr h=>?_)
 ·obtain⟨i,a,b,rfl,_⟩:=h
  rfl
 ·obtain⟨i,a,b,rfl,q⟩:=h
  refine⟨_,ai (ar (c5 (ay G hr rfl mh Fh.kp bh .nil ap (aa (pv 0) ad)) (c4 (mz pO pO (pv 1) (pv 0) (pv 2))))),?_⟩
  refine⟨_,rfl,i,rfl,true,rfl,aJ ?_⟩
  refine⟨_,rfl,_,rfl,_,_,rfl,rfl,_,rfl,?_⟩
  by_cases h1:a <= i
  ·rw[decide_eq_true h1]
   refine aJ ⟨_,rfl,_,_,rfl,rfl,?_⟩
   show Q (V.bl (decide (i <= b))) H
   by_cases h2:i <= b
   ·rw[decide_eq_true h2];rw[decide_eq_true ⟨h1,h2⟩]at q;exact q
   ·rw[decide_eq_false h2];rw[decide_eq_false fun z=>h2 z.2]at q;exact q
  ·rw[decide_eq_false h1]
   refine aI ?_
   rw[decide_eq_false fun z=>h1 z.1]at q;exact q
theorem F4:ao ["places", "one", "other", "last"] ["places", "one", "other"] (ah xA):=L2.zQ
theorem yg {f fh:Addr}{fd Ca:FuncData}(F:zH K "are_two_places" "are_two_places" xA f fd)(mh:mg "is_within" = some (.ref fh))(kh:keepIn K (.ref fh)=true)(bh:Binds K Ca ["value", "least", "most"] [])
  (G:zg P w K mg base aD 2 fh Ca ["value", "least", "most"] jo) :
  zg P w K mg base aD 3 f fd ["places", "one", "other"] rJ:=by
 refine F.ok F4 (fun _ _ _ _ h=>?_) (fun _ _ _ s H _ Q E hr h=>?_)
 ·obtain⟨i,a,b,rfl,_⟩:=h
  rfl
 ·obtain⟨n,a,b,rfl,q⟩:=h
  refine⟨_,af (az (i:=3) F4.nd rfl (Or.inl rfl) (aB eG (pv 0) aj))
   (ai (ar (c5 (ay G hr rfl mh kh bh .nil ap (aa (pv 1) (aa aj (aa (pv 3) ad))))
    (c5 (ay G hr rfl mh kh bh .nil ap (aa (pv 2) (aa aj (aa (pv 3) ad)))) (c4 (cz m5 (pv 1) (pv 2) (ax _))))))),?_⟩
  refine⟨_,rfl,_,_,rfl,rfl,?_⟩
  refine⟨_,rfl,_,rfl,a,0,n - 1,rfl,_,rfl,?_⟩
  unfold iO at q
  dsimp only at q
  by_cases h1:0 <= a/\a <= n - 1
  ·rw[decide_eq_true h1]at q ⊢
   rw[Bool.true_and]at q
   refine aJ ⟨_,rfl,_,rfl,b,0,n - 1,rfl,_,rfl,?_⟩
   by_cases h2:0 <= b/\b <= n - 1
   ·rw[decide_eq_true h2]at q ⊢
    rw[Bool.true_and]at q
    refine aJ ⟨_,rfl,_,rfl,rfl,?_⟩
    have e:decide (V.int a=V.int b)=decide (a=b):=by
     by_cases h:a=b
     ·rw[h];simp
     ·rw[decide_eq_false h,decide_eq_false fun z=>h (by injection z)]
    show Q (V.bl (!decide (V.int a=V.int b))) H
    rw[e];exact q
   ·rw[decide_eq_false h2]at q ⊢
    exact aI q
  ·rw[decide_eq_false h1]at q ⊢
   exact aI q
end K67
namespace L2
open PySem
theorem iB {H1:Hp}{e d:Addr}{o o' x:HO}(he:H1 e=none)(hd:upd H1 e o d=none) :
  zf H1 (uq (upd (upd (upd H1 e o) d x) e o') e)/\(uq (upd (upd (upd H1 e o) d x) e o') e) d=some x/\(upd (upd (upd H1 e o) d x) e o') e=some o':=by
 have DK:d ≠ e:=fun z=>by rw[z,ac]at hd;cases hd
 have PQ:H1 d=none:=by rw[ae DK]at hd;exact hd
 refine⟨fun b u q=>?_,?_,ac⟩
 ·have Bh:b ≠ e:=ag q he
  have UO:b ≠ d:=ag q PQ
  rw[dG Bh,ae Bh,ae UO,ae Bh];exact q
 ·rw[dG DK,ae DK,ac]
end L2
namespace K67
open PySem L2
variable {P:Program}{w:World}{K:Frag}{mg:Str->Option Value}{base:Heap}
inductive Due | places | many (k:Nat) | zI (k:Nat) | good
noncomputable def nq (n:Int)(ps:List (Int × Int)):Option Nat:=ps.findIdx? fun p=>!iO n p
noncomputable def fJ (n:Int)(ps:List (Int × Int)):Due:=if decide (1 <= n/\n <= 12)=false then .places else if 40 < ps.length then .many ps.length else match nq n ps with | some k => .zI k | none => .good
structure Cs where
 np:Addr
 tm:Addr
 nr:Addr
 land:Addr
noncomputable def qA (K:Frag)(fld:Str):Sp:=fun vs H Q _=>∃ e C tt v,vs=[.ref e,v]/\H e=some (bV e C tt none)/\gs K C/\findIn K (.ref C) fld=some none/\∀ d,H d=none->Q .zD (upd (upd H d (.xd [(fld,v)])) e (bV e C tt (some d)))
noncomputable def eT (H:Hp)(c:Cs)(x dx t:Addr)(n:Int)(zw:List V)(ps:List (Int × Int)):Prop:=H x=some (.ins c.land dx [("places", .int n),("lanes", .ref t)])/\H t=some (.tup zw)/\zN H zw ps
noncomputable def rW (K:Frag)(c:Cs):Sp:=fun vs H Q E=>∃ x dx n p zv ps,vs=[.ref x, .int n, .ref p]/\H x=some (.ins c.land dx [])/\zj K H p zv/\zN H zv ps/\zv.length <= 1000 /\
 (fJ n ps = .places->∀ H',zf H H'->E (.ref c.np) none H') /\
 (∀ k,fJ n ps = .many k->∀ H' d,zf H H'->H' d=some (.xd [("many", .int k)])->E (.ref c.tm) (some d) H') /\
 (∀ k,fJ n ps = .zI k->∀ H' d,zf H H'->H' d=some (.xd [("lane", .int k)])->E (.ref c.nr) (some d) H') /\
 (fJ n ps = .good->∀ H' t zw,(∀ b o,b ≠ x->H b=some o->H' b=some o)->eT H' c x dx t n zw ps->Q .zD H')
noncomputable def rB (s:Stmt):Scope:=match s with
 | .Assign _ (.Call _ [.ListComp _ _ sc _] _ _) _=>sc
 | _=>zQ0
noncomputable def j2 (s:Stmt):Scope:=match aG s with
 | .Return (some (.ListComp _ _ sc _)) _ :: _=>sc
 | _=>zQ0
noncomputable abbrev NI:List Str:=["self", "places", "lanes", "lane", "pair"]
structure Exc (K:Frag)(mg:Str->Option Value)(c:Cs)(f1 f2:Addr)(d1 d2:FuncData):Prop where
 mnp:mg "NoPlaces" = some (.ref c.np)
 UP:bE K c.np none=true
 knp:keepIn K (.ref c.np)=true
 mtm:mg "TooMany" = some (.ref c.tm)
 UQ:bE K c.tm (some (.ref f1))=true
 ktm:keepIn K (.ref c.tm)=true
 ctm:gs K c.tm
 ntm:findIn K (.ref c.tm) "many" = some none
 itm:isFn K (.ref f1)=true
 Ftm:zH K "__init__" "TooMany.__init__" N6 f1 d1
 btm:Binds K d1 ["self", "many"] []
 mnr:mg "NoRoad" = some (.ref c.nr)
 UR:bE K c.nr (some (.ref f2))=true
 knr:keepIn K (.ref c.nr)=true
 cnr:gs K c.nr
 nnr:findIn K (.ref c.nr) "lane" = some none
 inr:isFn K (.ref f2)=true
 Fnr:zH K "__init__" "NoRoad.__init__" N7 f2 d2
 bnr:Binds K d2 ["self", "lane"] []
structure nu (K:Frag)(c:Cs):Prop where
 cl:BL K c.land
 np:zx K c.land "places"
 nl:zx K c.land "lanes"
theorem jS {n:Int}{ps:List (Int × Int)}(h:∀ p ∈ ps,iO n p=true):nq n ps=none:=by
 unfold nq
 rw[List.findIdx?_eq_none_iff]
 intro p hp
 rw[h p hp];rfl
theorem oZ {n:Int}{ps:List (Int × Int)}{i:Nat}{p:Int × Int}(h:∀ q ∈ ps.take i,iO n q=true)(hi:ps[i]? = some p)(hb:iO n p=false):nq n ps=some i:=by
 unfold nq
 rw[List.findIdx?_eq_some_iff_getElem]
 obtain⟨zT,e⟩:=List.getElem?_eq_some_iff.mp hi
 refine⟨zT,by rw[e,hb];rfl,fun j hj=>?_⟩
 have hm:ps[j]'(Nat.lt_trans hj zT) ∈ ps.take i:=List.mem_take_iff_getElem.mpr ⟨j,by omega,rfl⟩
 rw[h _ hm];simp
noncomputable def Off (x:Addr)(H H':Hp):Prop:=∀ b o,b ≠ x->H b=some o->H' b=some o
theorem Off.sq {K:Frag}{H H':Hp}{x p C dx:Addr}{fs:List (Str × V)}{xs:List V}(o:Off x H H')(hx:H x=some (.ins C dx fs))(h:zj K H p xs):zj K H' p xs:=by
 rcases h with (h | ⟨ob,h⟩) | h
 ·exact .inl (.inl (o _ _ (b8 h hx (by intro z;cases z)) h))
 ·exact .inl (.inr ⟨ob,o _ _ (b8 h hx (by intro z;cases z)) h⟩)
 ·exact .inr h
theorem Off.Di {H H':Hp}{x C dx:Addr}{fs:List (Str × V)}(o:Off x H H')(hx:H x=some (.ins C dx fs)):∀ {vs:List V}{ps:List (Int × Int)},zN H vs ps->zN H' vs ps:=fun zk=>by
 induction zk with
 | nil=>exact .nil
 | cons zz r ih=>obtain⟨t,e,q⟩:=zz;exact .cons ⟨t,e,o _ _ (b8 q hx (by intro z;cases z)) q⟩ ih
theorem Off.same {H H1 H2:Hp}{x:Addr}(a:Off x H H1)(b:zf H1 H2):Off x H H2:=fun c o n e=>b _ _ (a c o n e)
theorem PR:ao ["self", "many"] ["self", "many"] (ah N6):=L2.zQ
theorem PU:ao ["self", "lane"] ["self", "lane"] (ah N7):=L2.zQ
theorem Kg {f:Addr}{fd:FuncData}(F:zH K "__init__" "TooMany.__init__" N6 f fd):zg P w K mg base aD 1 f fd ["self", "many"] (qA K "many"):=by
 refine F.ok PR (fun _ _ _ _ h=>?_) (fun _ _ _ s H _ Q E hr h=>?_)
 ·obtain⟨e,C,tt,v,rfl,_⟩:=h
  rfl
 ·obtain⟨e,C,tt,v,rfl,h1,h2,h3,q⟩:=h
  refine⟨_,ai (lq (pv 0) (pv 1) rfl),?_⟩
  exact⟨_,rfl,_,rfl,e,C,tt,rfl,h1,h2,h3,q⟩
theorem Kh {f:Addr}{fd:FuncData}(F:zH K "__init__" "NoRoad.__init__" N7 f fd):zg P w K mg base aD 1 f fd ["self", "lane"] (qA K "lane"):=by
 refine F.ok PU (fun _ _ _ _ h=>?_) (fun _ _ _ s H _ Q E hr h=>?_)
 ·obtain⟨e,C,tt,v,rfl,_⟩:=h
  rfl
 ·obtain⟨e,C,tt,v,rfl,h1,h2,h3,q⟩:=h
  refine⟨_,ai (lq (pv 0) (pv 1) rfl),?_⟩
  exact⟨_,rfl,_,rfl,e,C,tt,rfl,h1,h2,h3,q⟩
theorem C8:ao NI ["self", "places", "lanes"] (ah lX):=L2.zQ
theorem yR:As NI (ah lX) (rB ((aG lX).getD 4 (.Pass ⟨0,0,0,0⟩))) [] []:=L2.Bs
theorem y4:(["pair"]:List Str).Nodup:=by decide +kernel
theorem vL {c:Cs}{f fw ft f1 f2:Addr}{fd dw dt d1 d2:FuncData}{t1 t2:Tok}(F:zH K "__init__" "Land.__init__" lX f fd)(T:eW mg)(L:nu K c)(X:Exc K mg c f1 f2 d1 d2)
  (mw:mg "is_within" = some (.ref fw)) (kw:keepIn K (.ref fw)=true) (bw:Binds K dw ["value", "least", "most"] []) (Gw:zg P w K mg base aD 2 fw dw ["value", "least", "most"] jo)
  (mt:mg "are_two_places" = some (.ref ft)) (kt:keepIn K (.ref ft)=true) (bt:Binds K dt ["places", "one", "other"] []) (Gt:zg P w K mg base aD 3 ft dt ["places", "one", "other"] rJ)
  (mp:mg "MOST_PLACES" = some (.int 12 t1)) (ml:mg "MOST_LANES" = some (.int 40 t2)) :
  zg P w K mg base (e7 P w) 4 f fd ["self", "places", "lanes"] (rW K c):=by
 have Gm:zg P w K mg base aD 1 f1 d1 ["self", "many"] (qA K "many"):=Kg X.Ftm
 have Gr:zg P w K mg base aD 1 f2 d2 ["self", "lane"] (qA K "lane"):=Kh X.Fnr
 refine F.Ei C8 (fun _ _ _ _ h=>?_) (fun _ _ _ s H _ Q E hr h=>?_)
 ·obtain⟨x,dx,n,p,zv,ps,rfl,_⟩:=h
  rfl
 ·obtain⟨x,dx,n,p,zv,ps,rfl,hx,hp,hl,hlen,h1,h2,h3,h4⟩:=h
  have Ai:zm 2 _:=hr.mono (by decide)
  refine⟨_,af (aM (cr (bQ (ay Gw Ai rfl mw kw bw .nil ap (aa (pv 1) (aa aj (aa (fO (v := .int 12) rfl mp ⟨_,rfl⟩) ad))))))
    (ai (bJ rfl X.UP aR (cj X.UP X.knp rfl rfl X.mnp (aa bG ad)))) aF)
   (af (aM (au m6 (aw aq rfl T.len PySem.boot_len (aa (pv 2) ad)) (fO (v := .int 40) rfl ml ⟨_,rfl⟩) (ax _))
    (ai (bJ rfl X.UQ aR (jb X.UQ X.itm X.ktm Gm Ai X.btm rfl X.mtm (aa (aw aq rfl T.len PySem.boot_len (aa (pv 2) ad)) ad)))) aF)
   (af (bR pK rfl (mx rfl T.enum (aa (pv 2) ad)) (eD rfl (aO (av (i:=3) C8.nd rfl (Or.inl rfl)) (aO (av (i:=4) C8.nd rfl (Or.inl rfl)) cO)))
    (ai (aM (cr (bQ (ay Gt hr rfl mt kt bt .nil ap (aa (pv 1) (aa (aA aE (pv 4) aj (fun _ _=>rfl)) (aa (aA aE (pv 4) aj (fun _ _=>rfl)) ad))))))
     (ai (bJ rfl X.UR aR (jb X.UR X.inr X.knr Gr Ai X.bnr rfl X.mnr (aa (pv 3) ad)))) aF)))
   (af (bz (pv 0) (pv 1) rfl)
   (ai (bz (pv 0) (aY c7 rfl T.tuple PySem.Pv.boot_tuple (aa (aT (own:=["pair"]) (capN:=[]) (cap:=[]) yR rfl (bx (pv 2))
    (fun C s' H' fp=>⟨av (i:=0) y4 rfl (Or.inl rfl),ck,bS (aa (aA (show n9 _ (j5 K) from aE) (pv 0) aj (fun _ _=>rfl)) (aa (aA (show n9 _ (j5 K) from aE) (pv 0) aj (fun _ _=>rfl)) ad))⟩)) ad)) rfl))))),?_⟩
  refine⟨_,rfl,n,1,12,rfl,_,rfl,?_⟩
  by_cases hn:1 <= n/\n <= 12
  rotate_left
  ·rw[decide_eq_false hn]
   refine aJ ⟨by show 1 <= sizeLine;decide,?_⟩
   exact h1 (by unfold fJ;rw[if_pos (decide_eq_false hn)]) H (zf.refl H)
  rw[decide_eq_true hn]
  refine aI ?_
  have DO:zv.length=ps.length:=Paired.length hl
  refine⟨_,rfl,p,_,rfl, .inl hp,_,_,rfl,rfl,_,rfl,?_⟩
  by_cases hm:40 < ps.length
  ·rw[decide_eq_true (show (40:Int) < (zv.length:Nat) by omega)]
   refine aJ ⟨_,rfl,p,_,rfl, .inl hp,by show 1 <= sizeLine;decide,fun e tt he=>⟨e,_,tt,_,rfl,ac,X.ctm,X.ntm,fun d hd=>⟨rfl,?_⟩⟩⟩
   obtain⟨m1,m2,m3⟩:=iB (o:=bV e c.tm tt none) (o':=bV e c.tm tt (some d)) (x := .xd [("many", .int (zv.length:Nat))]) he hd
   refine⟨some d,m3,h2 ps.length ?_ _ d m1 (by rw[m2,DO])⟩
   unfold fJ
   rw[decide_eq_true hn,if_neg (by decide),if_pos hm]
  rw[decide_eq_false (show ¬ (40:Int) < (zv.length:Nat) by omega)]
  refine aI ?_
  refine⟨_,rfl,p,rfl,⟨_,hp⟩,mP (sq:=fun H=>zj K H p) (xs:=zv) (fun i σ H2=>∃ a b:Option V,zf H H2/\σ=[some (.ref x),some (.int n),some (.ref p),a,b]/\∀ q ∈ ps.take i,iO n q=true)
   ⟨none,none,zf.refl H,rfl,fun q hq=>by simp at hq⟩ (fun i σ H2 _ zk=>by obtain⟨a,b,s2,_⟩:=zk;exact s2.seq hp) ?_ ?_⟩
  ·rintro i v q σ H2 hv ⟨a,b,s2,rfl,Ci⟩ hq
   obtain⟨pr,Cp,t,rfl,ht⟩:=zN.get hl hv
   have s3:zf H (upd H2 q (.tup [.int i, .ref t])):=s2.new hq
   refine⟨q,_,rfl,zt.of ac,rfl,_,_,rfl,_,_,rfl,rfl,?_⟩
   have Eh:zt K (upd H2 q (.tup [.int i, .ref t])) t [.int pr.1, .int pr.2]:=zt.of (s3 _ _ ht)
   refine⟨_,rfl,_,rfl,t,_,0,_,rfl,rfl,Eh,ak (j:=0) rfl,?_⟩
   refine⟨_,rfl,t,_,1,_,rfl,rfl,Eh,ak (j:=1) rfl,n,pr.1,pr.2,rfl,_,rfl,?_⟩
   cases ho:iO n (pr.1,pr.2) with
   | true =>
    refine aI ⟨some (.int i),some (.ref t),s3,rfl,fun z hz=>?_⟩
    rw[take_succ,Cp]at hz
    rcases mem_append.mp hz with hz | hz
    ·exact Ci z hz
    ·have:z=pr:=by simpa using hz
     rw[this];exact ho
   | false =>
    refine aJ ⟨_,rfl,by show 1 <= sizeLine;decide,fun e tt he=>⟨e,_,tt,_,rfl,ac,X.cnr,X.nnr,fun d hd=>⟨rfl,?_⟩⟩⟩
    obtain⟨m1,m2,m3⟩:=iB (o:=bV e c.nr tt none) (o':=bV e c.nr tt (some d)) (x := .xd [("lane", .int i)]) he hd
    refine⟨some d,m3,h3 i ?_ _ d (s3.trans m1) m2⟩
    unfold fJ
    rw[decide_eq_true hn,if_neg (by decide),if_neg hm,oZ Ci Cp ho]
  ·rintro σ H2 ⟨a,b,s2,rfl,Ci⟩
   have Ki:fJ n ps = .good:=by
    unfold fJ
    rw[decide_eq_true hn,if_neg (by decide),if_neg hm,jS (fun z hz=>Ci z (by rw[DO,take_length];exact hz))]
   have El:=s2 _ _ hx
   refine⟨_,rfl,_,rfl,x,c.land,dx,_,rfl,El,L.cl,L.np,by show 0 < 1000;decide,?_⟩
   generalize US:upd H2 x (.ins c.land dx (aK "places" (.int n) []))=H3
   have o3:Off x H H3:=fun b o hb e=>by rw[← US,ae hb];exact s2 _ _ e
   have x3:H3 x=some (.ins c.land dx [("places", .int n)]):=by rw[← US,ac];rfl
   have l3:zN H3 zv ps:=o3.Di hx hl
   have p3:zj K H3 p zv:=o3.sq hx hp
   refine⟨_,rfl,p,rfl,⟨_,p3⟩,bM zv.length (by rw[sizeLine_eq];omega) (fun i acc H4=>zf H3 H4/\acc.length=i/\zN H4 acc (ps.take i)) ⟨zf.refl _,rfl, .nil⟩ (fun i acc H4 h=>le_of_eq h.2.1) ?_ ?_⟩
   ·rintro i acc H4 hi ⟨s4,ha,hA⟩
    have q4:=s4.seq p3
    refine⟨⟨zv,zv[i],q4,by simp[hi]⟩,fun y H5 ⟨e5,hy⟩=>?_⟩
    subst e5
    have hy:=hy zv q4
    obtain⟨pr,Cp,t,rfl,ht⟩:=zN.get l3 hy
    have Eh:zt K H5 t [.int pr.1, .int pr.2]:=zt.of (s4 _ _ ht)
    refine⟨_,rfl,t,_,0,_,rfl,rfl,Eh,ak (j:=0) rfl,?_⟩
    refine⟨_,rfl,t,_,1,_,rfl,rfl,Eh,ak (j:=1) rfl,by show 2 <= sizeLine;decide,fun r I0=>?_⟩
    refine⟨s4.new I0,by rw[length_append,ha];rfl,?_⟩
    rw[take_succ,Cp]
    exact zN.snoc ⟨r,rfl,ac⟩ (zN.same (zf.new (zf.refl _) I0) hA)
   ·rintro acc H4 ⟨s4,ha,hA⟩
    have q4:=s4.seq p3
    refine⟨⟨zv,q4,Nat.le_refl _⟩,fun D hD=>?_⟩
    have s5:zf H3 (upd H4 D (.lst acc)):=s4.new hD
    refine⟨D,acc,rfl, .inl ⟨zj.of ac,fun t ht=>?_⟩⟩
    have s6:zf H3 (upd (upd H4 D (.lst acc)) t (.tup acc)):=s5.new ht
    have x6:=s6 _ _ x3
    refine⟨_,rfl,x,c.land,dx,_,rfl,x6,L.cl,L.nl,by show 1 < 1000;decide,?_⟩
    have htx:t ≠ x:=fun z=>by rw[z,s5 _ _ x3]at ht;cases ht
    refine h4 Ki _ t acc (fun b o hb e=>?_) ⟨by rw[ac];rfl,by rw[ae htx,ac],?_⟩
    ·rw[ae hb];exact s6 _ _ (o3 b o hb e)
    ·have hA':zN H4 acc ps:=by rw[DO,take_length]at hA;exact hA
     have x4:=s4 _ _ x3
     have hA6:zN (upd (upd H4 D (.lst acc)) t (.tup acc)) acc ps:=zN.same (zf.new (zf.new (zf.refl _) hD) ht) hA'
     exact Off.Di (x:=x) (fun b o hb e=>by rw[ae hb];exact e) x6 hA6
noncomputable def l6 (sel:Int × Int->Int)(ps:List (Int × Int))(pl:Int)(m:Nat):List V:=((List.range m).filter fun k=>decide (sel (ps.getD k (0,0))=pl)).map fun k:Nat=>V.int k
noncomputable def uQ (c:Cs)(sel:Int × Int->Int):Sp:=fun vs H Q _=>∃ (x dx t:Addr)(n:Int)(zw:List V)(ps:List (Int × Int))(pl:Int),vs=[.ref x, .int pl]/\eT H c x dx t n zw ps/\ps.length <= 1000 /\
 ∀ H' D,zf H H'->H' D=none->Q (.ref D) (upd H' D (.lst (l6 sel ps pl ps.length)))
theorem mJ {sel:Int × Int->Int}{ps:List (Int × Int)}{pl:Int}{i:Nat}{pr:Int × Int}(h:ps[i]? = some pr):l6 sel ps pl (i + 1)=if decide (sel pr=pl) then l6 sel ps pl i ++ [V.int i] else l6 sel ps pl i:=by
 have e:ps.getD i (0,0)=pr:=by rw[getD_eq_getElem?_getD,h];rfl
 unfold l6
 rw[range_succ,filter_append]
 by_cases hs:sel pr=pl
 ·rw[if_pos (decide_eq_true hs),filter_cons_of_pos (by rw[e];exact decide_eq_true hs)];simp
 ·rw[if_neg (by rw[decide_eq_false hs];decide),filter_cons_of_neg (by rw[e,decide_eq_false hs];decide)];simp
theorem qa {sel:Int × Int->Int}{ps:List (Int × Int)}{pl:Int}{i:Nat}:(l6 sel ps pl i).length <= i:=by
 unfold l6
 rw[length_map]
 have:=length_filter_le (fun k=>decide (sel (ps.getD k (0,0))=pl)) (List.range i)
 rwa [length_range]at this
theorem Kj:ao ["self", "place"] ["self", "place"] (ah sw):=L2.zQ
theorem Kk:As ["self", "place"] (ah sw) (j2 sw) ["place"] [1]:=L2.Bs
theorem x8:ao ["self", "place"] ["self", "place"] (ah lW):=L2.zQ
theorem yQ:As ["self", "place"] (ah lW) (j2 lW) ["place"] [1]:=L2.Bs
theorem pQ:(["lane", "pair", "place"]:List Str).Nodup:=by decide +kernel
theorem jH (a b:Int):decide (V.int a=V.int b)=decide (a=b):=by
 by_cases h:a=b
 ·rw[h];simp
 ·rw[decide_eq_false h,decide_eq_false fun z=>h (by injection z)]
theorem yl {c:Cs}{f:Addr}{fd:FuncData}(F:zH K "out_of" "Land.out_of" sw f fd)(T:eW mg)(L:nu K c):zg P w K mg base aD 1 f fd ["self", "place"] (uQ c Prod.fst):=by
 refine F.ok Kj (fun _ _ _ _ h=>?_) (fun _ _ _ s H _ Q E hr h=>?_)
 ·obtain⟨x,dx,t,n,zw,ps,pl,rfl,_⟩:=h
  rfl
 ·obtain⟨x,dx,t,n,zw,ps,pl,rfl,⟨hx,ht,hl⟩,hlen,q⟩:=h
  refine⟨_,ai (ar (aT (own:=["lane", "pair"]) (capN:=["place"]) (cap:=[1]) Kk rfl (mq rfl T.enum (aa (al (pv 0) rfl) ad))
   (fun C s' H' fp=>⟨(show PG _ _ (we K 2 _) from eD rfl (aO (av (i:=0) pQ rfl (Or.inl rfl)) (aO (av (i:=1) pQ rfl (Or.inl rfl)) cO))),
    cb (au bK (aA (show n9 _ (j5 K) from aE) (pv 1) aj (fun _ _=>rfl)) (pv 2) (ax _)),pv 0⟩))),?_⟩
  have DO:zw.length=ps.length:=Paired.length hl
  refine⟨_,rfl,x,c.land,dx,_,_,rfl,hx,L.cl,L.nl,rfl,t,rfl,⟨_,zt.of ht⟩,bM ps.length (by rw[sizeLine_eq];omega) (fun i acc H4=>zf H H4/\acc=l6 Prod.fst ps pl i) ⟨zf.refl _,rfl⟩ (fun i acc H4 h=>by rw[h.2];exact qa) ?_ ?_⟩
  ·rintro i acc H4 hi ⟨s4,rfl⟩
   have q4:zt K H4 t zw:=zt.of (s4 _ _ ht)
   refine⟨⟨zw,zw[i]'(by omega),q4,by simp[DO,hi]⟩,fun y H5 ⟨r,C9,ey,h5⟩=>?_⟩
   obtain⟨v,hv,rfl⟩:=h5 zw q4
   subst ey
   obtain⟨pr,Cp,u,rfl,hu⟩:=zN.get hl hv
   have s5:zf H (upd H4 r (.tup [.int i, .ref u])):=s4.new C9
   refine⟨r,_,rfl,zt.of ac,rfl,_,_,rfl,_,_,rfl,rfl,?_⟩
   refine⟨_,rfl,u,_,0,_,rfl,rfl,zt.of (s5 _ _ hu),ak (j:=0) rfl,_,rfl,rfl,_,rfl,?_⟩
   rw[jH,mJ Cp]
   cases hd:decide (pr.1=pl) with
   | true=>exact aJ ⟨_,rfl,s5,by simp[hd]⟩
   | false=>exact aI ⟨s5,by simp[hd]⟩
  ·rintro acc H4 ⟨s4,rfl⟩
   exact⟨⟨zw,zt.of (s4 _ _ ht),DO⟩,fun D hD=>q H4 D s4 hD⟩
theorem vK {c:Cs}{f:Addr}{fd:FuncData}(F:zH K "into" "Land.into" lW f fd)(T:eW mg)(L:nu K c):zg P w K mg base aD 1 f fd ["self", "place"] (uQ c Prod.snd):=by
 refine F.ok x8 (fun _ _ _ _ h=>?_) (fun _ _ _ s H _ Q E hr h=>?_)
 ·obtain⟨x,dx,t,n,zw,ps,pl,rfl,_⟩:=h
  rfl
 ·obtain⟨x,dx,t,n,zw,ps,pl,rfl,⟨hx,ht,hl⟩,hlen,q⟩:=h
  refine⟨_,ai (ar (aT (own:=["lane", "pair"]) (capN:=["place"]) (cap:=[1]) yQ rfl (mq rfl T.enum (aa (al (pv 0) rfl) ad))
   (fun C s' H' fp=>⟨(show PG _ _ (we K 2 _) from eD rfl (aO (av (i:=0) pQ rfl (Or.inl rfl)) (aO (av (i:=1) pQ rfl (Or.inl rfl)) cO))),
    cb (au bK (aA (show n9 _ (j5 K) from aE) (pv 1) aj (fun _ _=>rfl)) (pv 2) (ax _)),pv 0⟩))),?_⟩
  have DO:zw.length=ps.length:=Paired.length hl
  refine⟨_,rfl,x,c.land,dx,_,_,rfl,hx,L.cl,L.nl,rfl,t,rfl,⟨_,zt.of ht⟩,bM ps.length (by rw[sizeLine_eq];omega) (fun i acc H4=>zf H H4/\acc=l6 Prod.snd ps pl i) ⟨zf.refl _,rfl⟩ (fun i acc H4 h=>by rw[h.2];exact qa) ?_ ?_⟩
  ·rintro i acc H4 hi ⟨s4,rfl⟩
   have q4:zt K H4 t zw:=zt.of (s4 _ _ ht)
   refine⟨⟨zw,zw[i]'(by omega),q4,by simp[DO,hi]⟩,fun y H5 ⟨r,C9,ey,h5⟩=>?_⟩
   obtain⟨v,hv,rfl⟩:=h5 zw q4
   subst ey
   obtain⟨pr,Cp,u,rfl,hu⟩:=zN.get hl hv
   have s5:zf H (upd H4 r (.tup [.int i, .ref u])):=s4.new C9
   refine⟨r,_,rfl,zt.of ac,rfl,_,_,rfl,_,_,rfl,rfl,?_⟩
   refine⟨_,rfl,u,_,1,_,rfl,rfl,zt.of (s5 _ _ hu),ak (j:=1) rfl,_,rfl,rfl,_,rfl,?_⟩
   rw[jH,mJ Cp]
   cases hd:decide (pr.2=pl) with
   | true=>exact aJ ⟨_,rfl,s5,by simp[hd]⟩
   | false=>exact aI ⟨s5,by simp[hd]⟩
  ·rintro acc H4 ⟨s4,rfl⟩
   exact⟨⟨zw,zt.of (s4 _ _ ht),DO⟩,fun D hD=>q H4 D s4 hD⟩
noncomputable def wO:Sp:=fun vs H Q _=>∃ m k:Nat,vs=[.int m, .int k]/\Q (.bl (m.testBit k)) H
noncomputable def Kl (m:Nat):List V:=(Yd.JE m (Builtin.Int.intBits (m:Int))).map fun k:Nat=>V.int k
noncomputable def wJ:Sp:=fun vs H Q _=>∃ m:Nat,vs=[.int m]/\m < 2 ^ 400/\∀ p,H p=none->Q (.ref p) (upd H p (.lst (Kl m)))
noncomputable def wF (K:Frag):Sp:=fun vs H Q _=>∃ (a:Addr)(ks:List Nat),vs=[.ref a]/\zj K H a (ks.map fun k:Nat=>V.int k)/\(∀ k ∈ ks,k <= 1000)/\Q (.int (Yd.Ar ks 0:Nat)) H
theorem Km:ao ["some", "number"] ["some", "number"] (ah uZ):=L2.zQ
theorem yz {f:Addr}{fd:FuncData}(F:zH K "has" "has" uZ f fd):zg P w K mg base aD 1 f fd ["some", "number"] wO:=by
 refine F.ok Km (fun _ _ _ _ h=>?_) (fun _ _ _ s H _ Q E hr h=>?_)
 ·obtain⟨m,k,rfl,_⟩:=h
  rfl
 ·obtain⟨m,k,rfl,q⟩:=h
  refine⟨_,ai (ar (c5 (cz wP (pv 1) aj (ax _)) (c4 (cz bK (aB sY (aB sX (pv 0) (pv 1)) aj) aj (ax _))))),?_⟩
  refine⟨_,rfl,_,_,rfl,rfl,_,rfl,?_⟩
  rw[decide_eq_true (show (0:Int) <= (k:Int) by omega)]
  refine aJ ?_
  refine⟨_,rfl,_,rfl,_,_,rfl,rfl,(show (0:Int) <= (k:Int) by omega),_,_,rfl,rfl,rfl,?_⟩
  have e:decide (V.int (Builtin.bitAnd ((m:Int) / 2 ^ (k:Int).toNat) 1)=V.int 1)=m.testBit k:=by
   rw[toNat_natCast,← Yd.CK m k]
   by_cases h:Builtin.bitAnd ((m:Int) / 2 ^ k) 1=1
   ·rw[h];simp
   ·rw[decide_eq_false h,decide_eq_false fun z=>h (by injection z)]
  rw[e]
  exact q
theorem m9 {ks:List Nat}{i:Nat}{x:V}(h:(ks.map fun k:Nat=>V.int k)[i]? = some x):∃ k,ks[i]? = some k/\x=V.int k:=by
 rw[getElem?_map]at h
 cases e:ks[i]? with
 | none=>rw[e]at h;cases h
 | some k=>rw[e]at h;exact⟨k,rfl,(Option.some.inj h).symm⟩
theorem CN:ao ["numbers", "some", "number"] ["numbers"] (ah xC):=L2.zQ
theorem yi {f:Addr}{fd:FuncData}(F:zH K "set_of" "set_of" xC f fd):zg P w K mg base aD 1 f fd ["numbers"] (wF K):=by
 refine F.ok CN (fun _ _ _ _ h=>?_) (fun _ _ _ s H _ Q E hr h=>?_)
 ·obtain⟨a,ks,rfl,_⟩:=h
  rfl
 ·obtain⟨a,ks,rfl,hS,hk,q⟩:=h
  refine⟨_,af (az (i:=1) CN.nd rfl (Or.inl rfl) aj)
   (af (bR PassesOwn.never rfl (bx (pv 0)) (av (i:=2) CN.nd rfl (Or.inl rfl))
    (ai (az (i:=1) CN.nd rfl (Or.inl rfl) (aB Ju (pv 1) (aB ya aj (pv 2))))))
   (ai (ar (pv 1)))),?_⟩
  refine⟨_,rfl,a,rfl,⟨_,hS⟩,dX (K:=K) (a:=a) (xs:=ks.map fun k:Nat=>V.int k) (fun i σ H2=>∃ v:Option V,H2=H/\σ=[some (.ref a),some (.int (Yd.Ar (ks.take i) 0:Nat)),v])
   ⟨none,rfl,rfl⟩ (fun i σ H2 _ zk=>by obtain⟨_,e,_⟩:=zk;rw[e];exact hS) ?_ ?_⟩
  ·rintro i x σ H2 hx ⟨v,rfl,rfl⟩
   obtain⟨k,ek,rfl⟩:=m9 hx
   have hk':=hk k (mem_of_getElem? ek)
   refine⟨_,rfl,_,rfl,_,_,rfl,rfl,⟨(show (0:Int) <= (k:Int) by omega),(show (k:Int) <= 1000000 by omega),(by decide)⟩,_,_,rfl,rfl,some (.int k),rfl,?_⟩
   have e:Builtin.bitOr ((Yd.Ar (ks.take i) 0:Nat):Int) (1 * 2 ^ (k:Int).toNat)=((Yd.Ar (ks.take (i + 1)) 0:Nat):Int):=by
    rw[take_succ,ek,toNat_natCast,Int.one_mul,show (2:Int) ^ k=((2 ^ k:Nat):Int) by rw[Int.natCast_pow];rfl,Yd.De,Yd.DF]
    rfl
   show [some (V.ref a),some (V.int _),some (V.int k)]=_
   rw[e]
  ·rintro σ H2 ⟨v,rfl,rfl⟩
   refine⟨_,rfl,?_⟩
   rw[length_map,take_length]
   exact q
theorem Kn:ao ["some"] ["some"] (ah sy):=L2.zQ
theorem Ko:(["number", "some"]:List Str).Nodup:=by decide +kernel
theorem Kp:As ["some"] (ah sy) (j2 sy) ["some"] [0]:=L2.Bs
theorem yo {f fh:Addr}{fd Ca:FuncData}(F:zH K "members" "members" sy f fd)(T:eW mg)(mh:mg "has" = some (.ref fh))(Fh:zH K "has" "has" uZ fh Ca)(bh:Binds K Ca ["some", "number"] []):zg P w K mg base aD 2 f fd ["some"] wJ:=by
 have G:zg P w K mg base aD 1 fh Ca ["some", "number"] wO:=yz Fh
 refine F.ok Kn (fun _ _ _ _ h=>?_) (fun _ _ _ s H _ Q E hr h=>?_)
 ·obtain⟨m,rfl,_⟩:=h
  rfl
 ·obtain⟨m,rfl,hm,q⟩:=h
  refine⟨_,ai (ar (aT (own:=["number"]) (capN:=["some"]) (cap:=[0]) Kp rfl
   (aX rfl T.range (aa (xW PySem.F.plainAttrs_int PySem.F.slot_int_bit_length PySem.F.type_int_bit_length vU (pv 0)) ad))
   (fun C s' H' fp=>⟨av (i:=0) Ko rfl (Or.inl rfl),cb (bQ (ay G hr rfl mh Fh.kp bh .nil ap (aa (pv 1) (aa (pv 0) ad)))),pv 0⟩))),?_⟩
  have hb:Builtin.Int.intBits (m:Int) <= 400:=Yd.bits_le hm
  refine⟨_,rfl,rfl,_,rfl,rfl,(Builtin.Int.intBits (m:Int):Nat),rfl,by omega,by omega,?_⟩
  rw[toNat_natCast]
  refine mX (fun k=>m.testBit k) (fun k=>V.int k) (by rw[sizeLine_eq];omega) (fun i acc N hi h=>?_) q
  refine⟨_,rfl,_,rfl,m,i,by simp,_,rfl,?_⟩
  cases e:m.testBit i with
  | true =>
   rw[e]at h
   refine aJ ⟨_,rfl,?_⟩
   simpa using h
  | false =>
   rw[e]at h
   exact aI (by simpa using h)
noncomputable def iz (ks:List Nat):List Int:=ks.map fun k:Nat=>(k:Int)
theorem yF (ks:List Nat):(iz ks).map V.int=ks.map fun k:Nat=>V.int k:=by rw[iz,map_map];rfl
theorem Be {ks:List Nat}{k:Int}:k ∈ iz ks↔∃ n ∈ ks,(n:Int)=k:=mem_map
theorem xv {ks:List Nat}{b:Nat}(h:∀ k ∈ ks,k < b):Yd.Ar ks 0 < 2 ^ b:=by
 rw[← Yd.E7 h]
 exact Yd.BP ks b
theorem qz {ks:List Nat}{k:Nat}:(Yd.Ar ks 0).testBit k=decide ((k:Int) ∈ iz ks):=by
 rw[Yd.B3,Nat.zero_testBit,Bool.false_or]
 congr 1
 refine propext ⟨fun h=>Be.mpr ⟨k,h,rfl⟩,fun h=>?_⟩
 obtain⟨n,hn,e⟩:=Be.mp h
 have:n=k:=by omega
 rw[← this]
 exact hn
structure Rw where
 p:Int
 g:Int
 c:Option Nat
 s:List Nat
noncomputable def bq (r:Rw):gw:=[some r.p,some r.g,r.c.map fun k:Nat=>(k:Int)]
noncomputable def gy (sel:Int × Int->Int)(ps:List (Int × Int))(pl:Int):List Nat:=(List.range ps.length).filter fun k=>decide (sel (ps.getD k (0,0))=pl)
noncomputable def eY (n:Int)(ps:List (Int × Int))(r:Rw):Bool :=
 iO n (r.p,r.g) && ((match r.c with | none=>true | some k=>decide (k ∈ gy Prod.snd ps r.p)) && r.s.all fun k=>decide (k ∈ gy Prod.fst ps r.p))
noncomputable def m8 (sel:Int × Int->Int)(ps:List (Int × Int))(pl:Int)(k:Nat):Bool:=decide (ps.length <= k) || !decide (sel (ps.getD k (0,0))=pl)
noncomputable def nk (n:Int)(ps:List (Int × Int))(ahead:List Rw)(r:Rw):Bool :=
 !iO n (r.p,r.g) || ((match r.c with | none=>false | some k=>m8 Prod.snd ps r.p k) || ((r.s.any fun k=>m8 Prod.fst ps r.p k) || ahead.any fun a=>decide (bq a=bq r)))
theorem qc {sel:Int × Int->Int}{ps:List (Int × Int)}{pl:Int}{k:Nat}:decide (k ∈ gy sel ps pl) = !m8 sel ps pl k:=by
 unfold gy m8
 by_cases h1:ps.length <= k
 ·rw[decide_eq_true h1,decide_eq_false]
  ·rfl
  ·intro z
   have:=mem_range.mp (mem_filter.mp z).1
   omega
 ·rw[decide_eq_false h1]
  by_cases h2:sel (ps.getD k (0,0))=pl
  ·rw[decide_eq_true h2,decide_eq_true]
   ·rfl
   ·exact mem_filter.mpr ⟨mem_range.mpr (by omega),decide_eq_true h2⟩
  ·rw[decide_eq_false h2,decide_eq_false]
   ·rfl
   ·intro z
    exact h2 (of_decide_eq_true (mem_filter.mp z).2)
theorem wu {l:List Nat}{f:Nat->Bool}:(l.all fun k=>!f k) = !(l.any f):=by
 induction l with
 | nil=>rfl
 | cons a l ih=>rw[all_cons,any_cons,ih,Bool.not_or]
theorem im (n:Int)(ps:List (Int × Int))(ahead:List Rw)(r:Rw):nk n ps ahead r=(!eY n ps r || ahead.any fun a=>decide (bq a=bq r)):=by
 unfold nk eY
 have e:(r.s.all fun k=>decide (k ∈ gy Prod.fst ps r.p)) = !(r.s.any fun k=>m8 Prod.fst ps r.p k):=by
  rw[← wu]
  congr 1
  funext k
  exact qc
 rw[e]
 cases hc:r.c with
 | none =>
  dsimp only
  cases iO n (r.p,r.g)<;>cases (r.s.any fun k=>m8 Prod.fst ps r.p k)<;>cases (ahead.any fun a=>decide (bq a=bq r))<;>rfl
 | some k =>
  dsimp only
  rw[qc]
  cases iO n (r.p,r.g)<;>cases (m8 Prod.snd ps r.p k)<;>cases (r.s.any fun k=>m8 Prod.fst ps r.p k)<;>cases (ahead.any fun a=>decide (bq a=bq r))<;>rfl
noncomputable def dB (n:Int)(ps:List (Int × Int))(rs:List Rw)(m:Nat):Option Nat:=(List.range m).find? fun k=>nk n ps (rs.take k) (rs.getD k ⟨0,0,none,[]⟩)
theorem fZ {n:Int}{ps:List (Int × Int)}{rs:List Rw}:∀ {m:Nat},(∀ k,k < m->nk n ps (rs.take k) (rs.getD k ⟨0,0,none,[]⟩)=false)->dB n ps rs m=none:=by
 intro m h
 unfold dB
 rw[List.find?_eq_none]
 intro k hk
 rw[h k (mem_range.mp hk)]
 decide
theorem ke {n:Int}{ps:List (Int × Int)}{rs:List Rw}{m i:Nat}(hi:i < m)(h:∀ k,k < i->nk n ps (rs.take k) (rs.getD k ⟨0,0,none,[]⟩)=false)(hb:nk n ps (rs.take i) (rs.getD i ⟨0,0,none,[]⟩)=true):dB n ps rs m=some i:=by
 unfold dB
 rw[List.find?_range_eq_some]
 refine⟨hb,mem_range.mpr hi,fun j hj=>?_⟩
 rw[h j hj]
 rfl
noncomputable def dW (rs:List Rw)(k:gw):Option Rw:=rs.reverse.find? fun r=>decide (bq r=k)
theorem oM {rs:List Rw}{r:Rw}{k:gw}:dW (rs ++ [r]) k=if k=bq r then some r else dW rs k:=by
 unfold dW
 rw[List.reverse_append,List.reverse_singleton,List.singleton_append,find?_cons]
 by_cases h:bq r=k
 ·rw[decide_eq_true h,if_pos h.symm]
 ·rw[decide_eq_false h,if_neg (Ne.symm h)]
theorem l5 {rs:List Rw}{k:gw}:(dW rs k).isSome=rs.any fun r=>decide (bq r=k):=by
 unfold dW
 rw[Bool.eq_iff_iff,List.find?_isSome,any_eq_true]
 exact⟨fun zk=>by obtain⟨x,hx,h⟩:=zk;exact⟨x,mem_reverse.mp hx,h⟩,fun zk=>by obtain⟨x,hx,h⟩:=zk;exact⟨x,mem_reverse.mpr hx,h⟩⟩
noncomputable def cV:Option Nat->V
 | none => .zD
 | some k => .int k
noncomputable def aZ (ks:List Nat):List V:=ks.map fun k:Nat=>V.int k
theorem hZ (ks:List Nat):aZ ks=(iz ks).map V.int:=(yF ks).symm
noncomputable def GY (H:Hp)(t l:Addr)(r:Rw):Prop:=H t=some (.tup [.int r.p, .int r.g,cV r.c, .ref l])/\H l=some (.lst (aZ r.s))
noncomputable def GZ (H:Hp)(v:V)(r:Rw):Prop:=∃ t l,v = .ref t/\GY H t l r
noncomputable abbrev CO (H:Hp):List V->List Rw->Prop:=Paired (GZ H)
theorem GY.same {H H':Hp}{t l:Addr}{r:Rw}(h:zf H H')(x:GY H t l r):GY H' t l r:=⟨h _ _ x.1,h _ _ x.2⟩
theorem GZ.same {H H':Hp}{v:V}{r:Rw}(h:zf H H'):GZ H v r->GZ H' v r:=fun zk=>by obtain⟨t,l,e,x⟩:=zk;exact⟨t,l,e,x.same h⟩
theorem CO.imp {H H':Hp}(h:∀ v r,GZ H v r->GZ H' v r):∀ {vs:List V}{rs:List Rw},CO H vs rs->CO H' vs rs:=fun zk=>by
 induction zk with
 | nil=>exact .nil
 | cons x r ih=>exact .cons (h _ _ x) ih
theorem CO.same {H H':Hp}(h:zf H H'){vs:List V}{rs:List Rw}(x:CO H vs rs):CO H' vs rs:=CO.imp (fun _ _ z=>z.same h) x
theorem CO.get {H:Hp}:∀ {vs:List V}{rs:List Rw}{i:Nat}{v:V},CO H vs rs->vs[i]? = some v->∃ r,rs[i]? = some r/\GZ H v r
 | _,_,_,_, .nil,e=>by simp at e
 | _,_,0,_, .cons x _,e=>by simp at e;subst e;exact⟨_,rfl,x⟩
 | _,_,i + 1,v, .cons _ t,e=>by
  obtain⟨r,h1,h2⟩:=CO.get (i:=i) (v:=v) t (by simpa using e)
  exact⟨r,by simpa using h1,h2⟩
theorem pY (r:Rw):(bq r).map uF=[.int r.p, .int r.g,cV r.c]:=by
 cases r with
 | mk p g c s=>cases c<;>rfl
theorem oO {sel:Int × Int->Int}{ps:List (Int × Int)}{pl:Int}:l6 sel ps pl ps.length=(iz (gy sel ps pl)).map V.int:=by rw[yF];rfl
theorem oN {k:Nat}{l:List Nat}:decide ((k:Int) ∈ iz l)=decide (k ∈ l):=by
 congr 1
 refine propext ⟨fun h=>?_,fun h=>Be.mpr ⟨k,h,rfl⟩⟩
 obtain⟨n,hn,e⟩:=Be.mp h
 have:n=k:=by omega
 rw[← this]
 exact hn
theorem qt (ks l:List Nat):((aZ ks).filter fun _=>true).map (fun v=>match v with | .int i=>V.bl (decide (i ∈ iz l)) | _ => .zD)=(ks.map fun k=>decide (k ∈ l)).map V.bl:=by
 rw[List.filter_eq_self.mpr (fun _ _=>rfl)]
 unfold aZ
 rw[map_map,map_map]
 refine map_congr_left fun k _=>?_
 show V.bl (decide ((k:Int) ∈ iz l))=V.bl (decide (k ∈ l))
 rw[oN]
theorem u0 (ks:List Nat)(p:Nat->Bool):(ks.map p).all id=ks.all p:=by rw[all_map];rfl
noncomputable def wH (K:Frag):Sp:=fun vs H Q _=>∃ (i:Int)(p:Addr)(ns:List Int),vs=[.int i, .ref p]/\zj K H p (ns.map V.int)/\Q (.bl (decide (i ∈ ns))) H
noncomputable def rY (c:Cs):Sp:=fun vs H Q _=>∃ (x dx lt t l:Addr)(n:Int)(zw:List V)(ps:List (Int × Int))(r:Rw),vs=[.ref x, .ref t]/\eT H c x dx lt n zw ps/\GY H t l r/\ps.length <= 1000/\r.s.length <= 1000/\∀ H',zf H H'->Q (.bl (eY n ps r)) H'
structure Kq (K:Frag)(c:Cs)(f3 f4:Addr)(d3 d4:FuncData):Prop where
 m3:bA K c.land "out_of" f3
 m4:bA K c.land "into" f4
 b3:Binds K d3 ["self", "place"] []
 b4:Binds K d4 ["self", "place"] []
noncomputable abbrev NF:List Str:=["land", "row", "place", "came", "begin_here"]
noncomputable def uA (s:Stmt):Scope:=match s with
 | .Return (some (.Call _ [.ListComp _ _ sc _] _ _)) _=>sc
 | _=>zQ0
theorem Kr:ao ["value", "numbers"] ["value", "numbers"] (ah xG):=L2.zQ
theorem ym {f fh:Addr}{fd Ca:FuncData}(F:zH K "is_one_of" "is_one_of" xG f fd)(T:eW mg)(mh:mg "is_whole" = some (.ref fh))(Fh:zH K "is_whole" "is_whole" gh fh Ca)(bh:Binds K Ca ["value"] []) :
  zg P w K mg base aD 2 f fd ["value", "numbers"] (wH K):=by
 have G:zg P w K mg base aD 1 fh Ca ["value"] kT:=m7 Fh T
 refine F.ok Kr (fun _ _ _ _ h=>?_) (fun _ _ _ s H _ Q E hr h=>?_)
 ·obtain⟨i,p,ns,rfl,_⟩:=h
  rfl
 ·obtain⟨i,p,ns,rfl,hS,q⟩:=h
  refine⟨_,ai (ar (c5 (ay G hr rfl mh Fh.kp bh .nil ap (aa (pv 0) ad)) (c4 (cz qL (pv 0) (pv 1) (by with_unfolding_all rfl))))),?_⟩
  refine⟨_,rfl,i,rfl,true,rfl,aJ ?_⟩
  refine⟨_,rfl,_,rfl,p,_,rfl, .inl hS,rfl,dZ _,?_⟩
  show Q (V.bl (Iq (V.int i) (ns.map V.int))) H
  rw[ie]
  exact q
theorem BS:ao NF ["land", "row"] (ah lY):=L2.zQ
theorem yS:As NF (ah lY) (uA ((aG lY).getD 5 (.Pass ⟨0,0,0,0⟩))) ["begin_here"] [4]:=L2.Bs
theorem y6:(["lane", "begin_here"]:List Str).Nodup:=by decide +kernel
theorem vN {c:Cs}{f ft fo f3 f4:Addr}{fd dt d1 d3 d4:FuncData}(F:zH K "row_fits" "row_fits" lY f fd)(T:eW mg)(L:nu K c)(M:Kq K c f3 f4 d3 d4)
  (mt:mg "are_two_places" = some (.ref ft)) (kt:keepIn K (.ref ft)=true) (bt:Binds K dt ["places", "one", "other"] []) (Gt:zg P w K mg base aD 3 ft dt ["places", "one", "other"] rJ)
  (mo:mg "is_one_of" = some (.ref fo)) (ko:keepIn K (.ref fo)=true) (bo:Binds K d1 ["value", "numbers"] []) (Go:zg P w K mg base aD 2 fo d1 ["value", "numbers"] (wH K))
  (G3:zg P w K mg base aD 1 f3 d3 ["self", "place"] (uQ c Prod.fst)) (G4:zg P w K mg base aD 1 f4 d4 ["self", "place"] (uQ c Prod.snd)) :
  zg P w K mg base aD 4 f fd ["land", "row"] (rY c):=by
 refine F.ok BS (fun _ _ _ _ h=>?_) (fun _ _ _ s H _ Q E hr h=>?_)
 ·obtain⟨x,dx,lt,t,l,n,zw,ps,r,rfl,_⟩:=h
  rfl
 ·obtain⟨x,dx,lt,t,l,n,zw,ps,r,rfl,hL,hR,hlen,Pz,q⟩:=h
  have Ah:zm 1 _:=hr.mono (by decide)
  have Ai:zm 2 _:=hr.mono (by decide)
  refine⟨_,af (az (i:=2) BS.nd rfl (Or.inl rfl) (aA aE (pv 1) aj (fun _ _=>rfl)))
   (af (az (i:=3) BS.nd rfl (Or.inl rfl) (aA aE (pv 1) aj (fun _ _=>rfl)))
   (af (aM (cr (bQ (ay Gt hr rfl mt kt bt .nil ap (aa (al (pv 0) rfl) (aa (pv 2) (aa (aA aE (pv 1) aj (fun _ _=>rfl)) ad)))))) (ai (ar fD)) aF)
   (af (aM (PW.pt (iy (au pN (pv 3) ce (ax _)) (fN (cr (bQ (ay Go Ai rfl mo ko bo .nil ap (aa (pv 3) (aa (aC (pv 0) L.cl M.m4 G4 Ah M.b4 .nil ap (aa (pv 2) ad)) ad)))))))) (ai (ar fD)) aF)
   (af (az (i:=4) BS.nd rfl (Or.inr rfl) (aC (pv 0) L.cl M.m3 G3 Ah M.b3 .nil ap (aa (pv 2) ad)))
   (ai (ar (aw (jR rfl) rfl T.all PyProof.Rows.boot_all (aa (aT (own:=["lane"]) (capN:=["begin_here"]) (cap:=[4]) yS rfl (bx (aA aE (pv 1) aj (fun _ _=>rfl)))
    (fun C s' H' fp=>⟨av (i:=0) y6 rfl (Or.inl rfl),ck,ay Go Ai rfl mo ko bo .nil ap (aa (pv 0) (aa (pv 1) ad))⟩)) ad)))))))),?_⟩
  obtain⟨hT,hl⟩:=hR
  have PV:zt K H t [.int r.p, .int r.g,cV r.c, .ref l]:=zt.of hT
  refine⟨_,rfl,t,_,0,_,rfl,rfl,PV,ak (j:=0) rfl,?_⟩
  refine⟨_,rfl,t,_,2,_,rfl,rfl,PV,ak (j:=2) rfl,?_⟩
  refine⟨_,rfl,x,c.land,dx,_,_,rfl,hL.1,L.cl,L.np,rfl,_,rfl,_,rfl,t,_,1,_,rfl,rfl,PV,ak (j:=1) rfl,n,r.p,r.g,rfl,_,rfl,?_⟩
  cases ho:iO n (r.p,r.g) with
  | false =>
   have e:eY n ps r=false:=by unfold eY;rw[ho];rfl
   refine aJ ?_
   have:=q H (zf.refl H)
   rw[e]at this
   exact this
  | true =>
   refine aI ?_
   cases hc:r.c with
   | none =>
    refine⟨_,rfl,rfl,_,rfl,aI (aI ?_)⟩
    have s1:=zf.refl H
    have e1:eY n ps r=r.s.all fun k=>decide (k ∈ gy Prod.fst ps r.p):=by unfold eY;rw[ho,hc];rfl
    refine⟨_,rfl,x,dx,_,rfl,s1 _ _ hL.1,rfl,_,rfl,x,dx,lt,n,zw,ps,r.p,rfl,⟨s1 _ _ hL.1,s1 _ _ hL.2.1,zN.same s1 hL.2.2⟩,hlen,fun H2 D2 s2 AF=>?_⟩
    have s3:=(s1.trans s2).new (o := .lst (l6 Prod.fst ps r.p ps.length)) AF
    have g2:(upd H2 D2 (.lst (l6 Prod.fst ps r.p ps.length))) D2=some (.lst (l6 Prod.fst ps r.p ps.length)):=ac
    generalize upd H2 D2 (.lst (l6 Prod.fst ps r.p ps.length))=H3 at s3 g2 ⊢
    refine⟨_,rfl,t,_,3,_,rfl,rfl,zt.of (s3 _ _ hT),ak (j:=3) rfl,l,rfl,⟨_,zj.of (s3 _ _ hl)⟩,?_⟩
    refine ik (xs:=aZ r.s) (fun _=>true) (fun v=>match v with | .int i => .bl (decide (i ∈ iz (gy Prod.fst ps r.p))) | _ => .zD) (by rw[sizeLine_eq];simp only[aZ,length_map];omega) (zj.of (s3 _ _ hl)) (fun y acc N hy h=>?_) (fun D hD=>?_)
    ·obtain⟨k',_,rfl⟩:=mem_map.mp hy
     exact⟨_,rfl,_,rfl,(k':Int),D2,iz (gy Prod.fst ps r.p),rfl,by rw[← oO];exact zj.of g2,by simpa using h⟩
    ·rw[qt]
     refine⟨D,r.s.map fun k=>decide (k ∈ gy Prod.fst ps r.p),rfl,zj.of ac,?_⟩
     have:=q _ (s3.new (o := .lst ((r.s.map fun k=>decide (k ∈ gy Prod.fst ps r.p)).map V.bl)) hD)
     rw[e1]at this
     rw[u0]
     exact this
   | some k =>
    refine⟨_,rfl,rfl,_,rfl,aJ ?_⟩
    refine⟨_,rfl,_,rfl,x,dx,_,rfl,hL.1,rfl,_,rfl,x,dx,lt,n,zw,ps,r.p,rfl,hL,hlen,fun H' D s' hD=>?_⟩
    have s1:=s'.new (o := .lst (l6 Prod.snd ps r.p ps.length)) hD
    refine⟨(k:Int),D,iz (gy Prod.snd ps r.p),rfl,by rw[← oO];exact zj.of ac,_,rfl,?_⟩
    rw[oN]
    cases hk:decide (k ∈ gy Prod.snd ps r.p) with
    | false =>
     refine aJ ?_
     have e:eY n ps r=false:=by unfold eY;rw[ho,hc];dsimp only;rw[hk];rfl
     have:=q _ s1
     rw[e]at this
     exact this
    | true =>
     have e1:eY n ps r=r.s.all fun k=>decide (k ∈ gy Prod.fst ps r.p):=by unfold eY;rw[ho,hc];dsimp only;rw[hk];rfl
     refine aI ?_
     refine⟨_,rfl,x,dx,_,rfl,s1 _ _ hL.1,rfl,_,rfl,x,dx,lt,n,zw,ps,r.p,rfl,⟨s1 _ _ hL.1,s1 _ _ hL.2.1,zN.same s1 hL.2.2⟩,hlen,fun H2 D2 s2 AF=>?_⟩
     have s3:=(s1.trans s2).new (o := .lst (l6 Prod.fst ps r.p ps.length)) AF
     have g2:(upd H2 D2 (.lst (l6 Prod.fst ps r.p ps.length))) D2=some (.lst (l6 Prod.fst ps r.p ps.length)):=ac
     generalize upd H2 D2 (.lst (l6 Prod.fst ps r.p ps.length))=H3 at s3 g2 ⊢
     refine⟨_,rfl,t,_,3,_,rfl,rfl,zt.of (s3 _ _ hT),ak (j:=3) rfl,l,rfl,⟨_,zj.of (s3 _ _ hl)⟩,?_⟩
     refine ik (xs:=aZ r.s) (fun _=>true) (fun v=>match v with | .int i => .bl (decide (i ∈ iz (gy Prod.fst ps r.p))) | _ => .zD) (by rw[sizeLine_eq];simp only[aZ,length_map];omega) (zj.of (s3 _ _ hl)) (fun y acc N hy h=>?_) (fun D hD=>?_)
     ·obtain⟨k',_,rfl⟩:=mem_map.mp hy
      exact⟨_,rfl,_,rfl,(k':Int),D2,iz (gy Prod.fst ps r.p),rfl,by rw[← oO];exact zj.of g2,by simpa using h⟩
     ·rw[qt]
      refine⟨D,r.s.map fun k=>decide (k ∈ gy Prod.fst ps r.p),rfl,zj.of ac,?_⟩
      have:=q _ (s3.new (o := .lst ((r.s.map fun k=>decide (k ∈ gy Prod.fst ps r.p)).map V.bl)) hD)
      rw[e1]at this
      rw[u0]
      exact this
structure Ts where
 tab:Addr
 told:Addr
 ne:Addr
noncomputable def wE (K:Frag):Sp:=fun vs H Q _=>∃ (x C dx:Addr)(lv:V),vs=[.ref x,lv]/\H x=some (.ins C dx [])/\BL K C/\zx K C "land"/\Q .zD (upd H x (.ins C dx [("land",lv)]))
noncomputable def sh (r:Rw):V := .int (Yd.Ar r.s 0:Nat)
noncomputable def rK (P:Program)(w:World)(K:Frag)(c:Cs)(ts:Ts):Sp:=fun vs H Q E=>∃ (x dx lx zX lt p:Addr)(n:Int)(zw zA:List V)(ps:List (Int × Int))(rs:List Rw),
 vs=[.ref x, .ref lx, .ref p]/\H x=some (.ins ts.told dx [])/\eT H c lx zX lt n zw ps/\zj K H p zA/\CO H zA rs/\zA.length <= 100000/\ps.length <= 1000/\(∀ r ∈ rs,(∀ k ∈ r.s,k <= 1000)/\r.s.length <= 1000) /\
 (∀ i,dB n ps rs rs.length=some i->∀ H' d,Off x H H'->H' d=some (.xd [("row", .int i)])->E (.ref ts.ne) (some d) H') /\
 (dB n ps rs rs.length=none->∀ H' de zq,Off x H H'->H' x=some (.ins ts.told dx [("land", .ref lx),("entries", .ref de)])->Ag P w H' de zq->(∀ k,dj zq k=(dW rs k).map sh)->Q .zD H')
noncomputable def pz (P:Program)(w:World)(ts:Ts):Sp:=fun vs H Q _=>∃ (x dx de:Addr)(lv:V)(zq:List ip)(r:Rw)(m:Nat),vs=[.ref x, .int r.p, .int r.g,cV r.c]/\H x=some (.ins ts.told dx [("land",lv),("entries", .ref de)])/\Ag P w H de zq /\
 (dj zq (bq r)).getD (.int 0) = .int m/\m < 2 ^ 400/\∀ H' D,zf H H'->H' D=none->Q (.ref D) (upd H' D (.lst (Kl m)))
structure PY (K:Frag)(mg:Str->Option Value)(ts:Ts)(f1 f2:Addr)(d1 d2:FuncData):Prop where
 ct:BL K ts.tab
 nt:zx K ts.tab "land"
 cd:BL K ts.told
 Ks:zx K ts.told "land"
 N9:zx K ts.told "entries"
 mt:mg "Table" = some (.ref ts.tab)
 cm:wY K ts.tab "__init__" f1
 bt:Binds K d1 ["self", "land"] []
 mne:mg "NoEntry" = some (.ref ts.ne)
 UT:bE K ts.ne (some (.ref f2))=true
 kne:keepIn K (.ref ts.ne)=true
 CU:gs K ts.ne
 UU:findIn K (.ref ts.ne) "row" = some none
 ine:isFn K (.ref f2)=true
 Fne:zH K "__init__" "NoEntry.__init__" N8 f2 d2
 bne:Binds K d2 ["self", "row"] []
noncomputable abbrev NT:List Str:=["self", "land", "rows", "number", "row", "key"]
theorem Off.land {H H':Hp}{x C dx:Addr}(o:Off x H H')(hx:H x=some (.ins C dx [])){c:Cs}{lx zX lt:Addr}{n:Int}{zw:List V}{ps:List (Int × Int)}(h:eT H c lx zX lt n zw ps):eT H' c lx zX lt n zw ps :=
 ⟨o _ _ (b8 h.1 hx (by intro z;cases z)) h.1,o _ _ (b8 h.2.1 hx (by intro z;cases z)) h.2.1,o.Di hx h.2.2⟩
theorem PZ:ao ["self", "row"] ["self", "row"] (ah N8):=L2.zQ
theorem Kt {f:Addr}{fd:FuncData}(F:zH K "__init__" "NoEntry.__init__" N8 f fd):zg P w K mg base aD 1 f fd ["self", "row"] (qA K "row"):=by
 refine F.ok PZ (fun _ _ _ _ h=>?_) (fun _ _ _ s H _ Q E hr h=>?_)
 ·obtain⟨e,C,tt,v,rfl,_⟩:=h
  rfl
 ·obtain⟨e,C,tt,v,rfl,h1,h2,h3,q⟩:=h
  refine⟨_,ai (lq (pv 0) (pv 1) rfl),?_⟩
  exact⟨_,rfl,_,rfl,e,C,tt,rfl,h1,h2,h3,q⟩
theorem Ku:ao ["self", "land"] ["self", "land"] (ah xB):=L2.zQ
theorem yh {f:Addr}{fd:FuncData}(F:zH K "__init__" "Table.__init__" xB f fd):zg P w K mg base aD 1 f fd ["self", "land"] (wE K):=by
 refine F.ok Ku (fun _ _ _ _ h=>?_) (fun _ _ _ s H _ Q E hr h=>?_)
 ·obtain⟨x,C,dx,lv,rfl,_⟩:=h
  rfl
 ·obtain⟨x,C,dx,lv,rfl,hx,hc,hn,q⟩:=h
  refine⟨_,ai (bz (pv 0) (pv 1) rfl),?_⟩
  exact⟨_,rfl,_,rfl,x,C,dx,_,rfl,hx,hc,hn,by show 0 < 1000;decide,q⟩
theorem uV:ao ["self", "place", "goal", "came"] ["self", "place", "goal", "came"] (ah og):=L2.zQ
theorem tj {ts:Ts}{f fm f1 f2:Addr}{fd dm d1 d2:FuncData}(F:zH K "ways" "Told.ways" og f fd)(B:PY K mg ts f1 f2 d1 d2)(mm:mg "members" = some (.ref fm))(km:keepIn K (.ref fm)=true)(bm:Binds K dm ["some"] [])
  (Gm:zg P w K mg base aD 2 fm dm ["some"] wJ):zg P w K mg base aD 3 f fd ["self", "place", "goal", "came"] (pz P w ts):=by
 refine F.ok uV (fun _ _ _ _ h=>?_) (fun _ _ _ s H _ Q E hr h=>?_)
 ·obtain⟨x,dx,de,lv,zq,r,m,rfl,_⟩:=h
  rfl
 ·obtain⟨x,dx,de,lv,zq,r,m,rfl,hx,hd,hv,hm,q⟩:=h
  have hu:=wU hr
  refine⟨_,ai (ar (ay Gm hr rfl mm km bm .nil ap (aa (sR hu (al (pv 0) rfl) (aa (bS (aa (pv 1) (aa (pv 2) (aa (pv 3) ad)))) (aa aj ad))) ad))),?_⟩
  refine⟨_,rfl,x,ts.told,dx,_,_,rfl,hx,B.cd,B.N9,rfl,de,zq,rfl,hd,?_⟩
  refine⟨_,rfl,_,rfl,_,rfl,by show 3 <= sizeLine;decide,fun t ht=>?_⟩
  have s1:zf H (upd H t (.tup [.int r.p, .int r.g,cV r.c])):=(zf.refl H).new ht
  refine⟨_,_,dj zq (bq r),rfl,⟨zq,bq r,t,hd.same s1,rfl,by rw[pY];exact ac,rfl⟩,?_⟩
  rw[hv]
  exact⟨m,rfl,hm,fun D hD=>q _ D s1 hD⟩
theorem BU:ao NT ["self", "land", "rows"] (ah sm):=L2.zQ
theorem vw {c:Cs}{ts:Ts}{f ff fs f1 f2:Addr}{fd df ds d1 d2:FuncData}(F:zH K "__init__" "Told.__init__" sm f fd)(T:eW mg)(B:PY K mg ts f1 f2 d1 d2)(G1:zg P w K mg base aD 1 f1 d1 ["self", "land"] (wE K))
  (mf:mg "row_fits" = some (.ref ff)) (kf:keepIn K (.ref ff)=true) (bf:Binds K df ["land", "row"] []) (Gf:zg P w K mg base aD 4 ff df ["land", "row"] (rY c))
  (ms:mg "set_of" = some (.ref fs)) (ks:keepIn K (.ref fs)=true) (bs:Binds K ds ["numbers"] []) (Gs:zg P w K mg base aD 1 fs ds ["numbers"] (wF K)) :
  zg P w K mg base (e7 P w) 5 f fd ["self", "land", "rows"] (rK P w K c ts):=by
 have Gn:zg P w K mg base aD 1 f2 d2 ["self", "row"] (qA K "row"):=Kt B.Fne
 refine F.Ei BU (fun _ _ _ _ h=>?_) (fun _ _ _ s H _ Q E hr h=>?_)
 ·obtain⟨x,dx,lx,zX,lt,p,n,zw,zA,ps,rs,rfl,_⟩:=h
  rfl
 ·obtain⟨x,dx,lx,zX,lt,p,n,zw,zA,ps,rs,rfl,hx,hL,hp,hR,hlen,DO,UW,hE,hQ⟩:=h
  have Ah:zm 1 _:=hr.mono (by decide)
  have Ai:zm 2 _:=hr.mono (by decide)
  have hu:=wU hr
  refine⟨_,af (aN (sS (fO (v := .ref ts.tab) rfl B.mt rfl) B.cm G1 Ah B.bt .nil ap (aa (pv 0) (aa (pv 1) ad))))
   (af (bz (pv 0) (show PE _ _ (w8 P w) from vj) rfl)
   (ai (bR pK rfl (mx rfl T.enum (aa (pv 2) ad)) (eD rfl (aO (av (i:=3) BU.nd rfl (Or.inl rfl)) (aO (av (i:=4) BU.nd rfl (Or.inl rfl)) cO)))
    (af (az (i:=5) BU.nd rfl (Or.inl rfl) (bS (aa (aA aE (pv 4) aj (fun _ _=>rfl)) (aa (aA aE (pv 4) aj (fun _ _=>rfl)) (aa (aA aE (pv 4) aj (fun _ _=>rfl)) ad)))))
    (af (aM (PW.pt (hG (cr (bQ (ay Gf hr rfl mf kf bf .nil ap (aa (pv 1) (aa (pv 4) ad))))) (eA (xV (xX hu (pv 5) (al (pv 0) rfl))))))
     (ai (bJ rfl B.UT aR (jb B.UT B.ine B.kne Gn Ai B.bne rfl B.mne (aa (pv 3) ad)))) aF)
    (ai (vi hu (al (pv 0) rfl) (pv 5) (ay Gs Ah rfl ms ks bs .nil ap (aa (aA aE (pv 4) aj (fun _ _=>rfl)) ad)) rfl))))))),?_⟩
  refine⟨rfl,_,rfl,_,rfl,x,ts.told,dx,_,rfl,hx,B.cd,B.Ks,?_⟩
  refine fun de DK=>⟨_,rfl,x,ts.told,dx,[("land", .ref lx)],rfl,by rw[ae (ag ac DK)];exact ac,B.cd,B.N9,by show 1 < 1000;decide,?_⟩
  have IA:x ≠ de:=ag ac DK
  have Kv:H de=none:=by rw[ae (Ne.symm IA)]at DK;exact DK
  generalize GF:upd (upd (upd H x (.ins ts.told dx [("land", .ref lx)])) de (nv P w de [])) x (.ins ts.told dx (aK "entries" (.ref de) [("land", .ref lx)]))=H2
  have o2:Off x H H2:=fun b o hb e=>by rw[← GF,ae hb,ae (ag e Kv),ae hb];exact e
  have x2:H2 x=some (.ins ts.told dx [("land", .ref lx),("entries", .ref de)]):=by rw[← GF,ac];rfl
  have d2:Ag P w H2 de []:=⟨by rw[← GF,ae (Ne.symm IA),ac],fun y hy=>by cases hy⟩
  have hrs:zA.length=rs.length:=Paired.length hR
  refine⟨_,rfl,p,rfl,⟨_,o2.sq hx hp⟩,mP (sq:=fun H=>zj K H p) (xs:=zA) (fun i σ H3=>∃ (a b k:Option V)(zq:List ip),Off x H H3/\H3 x=some (.ins ts.told dx [("land", .ref lx),("entries", .ref de)])/\Ag P w H3 de zq/\zq.length <= i /\
    (∀ k,dj zq k=(dW (rs.take i) k).map sh)/\(∀ j,j < i->nk n ps (rs.take j) (rs.getD j ⟨0,0,none,[]⟩)=false)/\σ=[some (.ref x),some (.ref lx),some (.ref p),a,b,k])
   ⟨none,none,none,[],o2,x2,d2,Nat.le_refl _,fun k=>rfl,fun j hj=>absurd hj (Nat.not_lt_zero _),rfl⟩ (fun i σ H3 _ zk=>by obtain⟨_,_,_,_,o3,_⟩:=zk;exact o3.sq hx hp) ?_ ?_⟩
  ·rintro i v q σ H3 hv ⟨a,b,k,zq,o3,x3,d3,l3,v3,g3,rfl⟩ hq
   obtain⟨r,hri,t,l,rfl,hT⟩:=CO.get hR hv
   have hi:i < rs.length:=(gQ0 hri)
   have NB:rs.getD i ⟨0,0,none,[]⟩ = r:=by rw[getD_eq_getElem?_getD,hri];rfl
   have ED:GY H3 t l r:=⟨o3 _ _ (b8 hT.1 hx (by intro z;cases z)) hT.1,o3 _ _ (b8 hT.2 hx (by intro z;cases z)) hT.2⟩
   have DP:=o3.land hx hL
   have s4:zf H3 (upd H3 q (.tup [.int i, .ref t])):=(zf.refl H3).new hq
   refine⟨q,_,rfl,zt.of ac,rfl,_,_,rfl,_,_,rfl,rfl,?_⟩
   generalize upd H3 q (.tup [.int i, .ref t])=H4 at s4 ⊢
   have Hg:zt K H4 t [.int r.p, .int r.g,cV r.c, .ref l]:=zt.of (s4 _ _ ED.1)
   refine⟨_,rfl,t,_,0,_,rfl,rfl,Hg,ak (j:=0) rfl,_,rfl,t,_,1,_,rfl,rfl,Hg,ak (j:=1) rfl,_,rfl,t,_,2,_,rfl,rfl,Hg,ak (j:=2) rfl,by show 3 <= sizeLine;decide,fun kt hkt=>?_⟩
   have s5:zf H3 (upd H4 kt (.tup [.int r.p, .int r.g,cV r.c])):=s4.new hkt
   have k5:(upd H4 kt (.tup [.int r.p, .int r.g,cV r.c])) kt=some (.tup ((bq r).map uF)):=by rw[pY];exact ac
   generalize upd H4 kt (.tup [.int r.p, .int r.g,cV r.c])=H5 at s5 k5 ⊢
   refine⟨_,rfl,_,rfl,lx,zX,lt,t,l,n,zw,ps,r,rfl,⟨s5 _ _ DP.1,s5 _ _ DP.2.1,zN.same s5 DP.2.2⟩,ED.same s5,DO,(UW r (mem_of_getElem? hri)).2,fun H6 UX=>⟨_,rfl,?_⟩⟩
   have s6:=s5.trans UX
   have k6:=UX _ _ k5
   have x6:=s6 _ _ x3
   have d6:=d3.same s6
   have F5:nk n ps (rs.take i) r=true->∀ e tt,H6 e=none->∀ d,upd H6 e (bV e ts.ne tt none) d=none ->
     ∃ dd,(upd (upd (upd H6 e (bV e ts.ne tt none)) d (.xd [("row", .int i)])) e (bV e ts.ne tt (some d))) e=some (bV e ts.ne tt dd)/\E (.ref ts.ne) dd (uq (upd (upd (upd H6 e (bV e ts.ne tt none)) d (.xd [("row", .int i)])) e (bV e ts.ne tt (some d))) e):=by
    intro hb e tt he d hd
    obtain⟨m1,m2,m3⟩:=iB (o:=bV e ts.ne tt none) (o':=bV e ts.ne tt (some d)) (x := .xd [("row", .int i)]) he hd
    exact⟨some d,m3,hE i (ke hi g3 (by rw[NB];exact hb)) _ d (o3.same (s6.trans m1)) m2⟩
   cases hf:eY n ps r with
   | false =>
    refine aJ (aJ ⟨_,rfl,by show 1 <= sizeLine;decide,fun e tt he=>⟨e,_,tt,_,rfl,ac,B.CU,B.UU,fun d hd=>⟨rfl,?_⟩⟩⟩)
    exact F5 (by rw[im,hf];rfl) e tt he d hd
   | true =>
    refine aI ⟨_,rfl,_,rfl,x,ts.told,dx,_,_,rfl,x6,B.cd,B.N9,rfl,de,_,rfl,⟨zq,bq r,kt,d6,rfl,k6,rfl⟩,_,rfl,?_⟩
    have eS:(dj zq (bq r)).isSome=(rs.take i).any fun a=>decide (bq a=bq r):=by rw[v3,Option.isSome_map,l5]
    cases hS:(dj zq (bq r)).isSome with
    | true =>
     refine aJ ⟨_,rfl,by show 1 <= sizeLine;decide,fun e tt he=>⟨e,_,tt,_,rfl,ac,B.CU,B.UU,fun d hd=>⟨rfl,?_⟩⟩⟩
     exact F5 (by rw[im,hf,← eS,hS];rfl) e tt he d hd
    | false =>
     refine aI ?_
     have UY:=ED.same s6
     refine⟨_,rfl,t,_,3,_,rfl,rfl,zt.of UY.1,ak (j:=3) rfl,l,r.s,rfl,zj.of UY.2,(UW r (mem_of_getElem? hri)).1,?_⟩
     refine⟨_,rfl,x,ts.told,dx,_,_,rfl,x6,B.cd,B.N9,rfl,_,rfl,de,zq,bq r,kt,rfl,d6,rfl,k6,by rw[sizeLine_eq];omega,?_⟩
     have hx6:x ≠ de:=IA
     refine⟨_,_,_,i3 zq (bq r) kt (sh r),fun b' o hb e=>?_,?_,⟨ac,qG (F:=fun k a=>(upd H6 de (nv P w de (i3 zq (bq r) kt (sh r)))) a=some (.tup (k.map uF))) (fun y hy=>?_) ?_⟩,?_,fun k'=>?_,fun j hj=>?_,rfl⟩
     ·rw[ae (ag e Kv)];exact s6 _ _ (o3 _ _ hb e)
     ·rw[ae IA];exact x6
     ·rw[ae (b8 (d6.2 y hy) d6.1 (by intro z;cases z))];exact d6.2 y hy
     ·rw[ae (b8 k6 d6.1 (by intro z;cases z))];exact k6
     ·exact le_trans iN (Nat.succ_le_succ l3)
     ·rw[r8,take_succ,hri,Option.toList_some,oM,v3]
      by_cases hk:k' = bq r
      ·rw[if_pos hk,if_pos hk];rfl
      ·rw[if_neg hk,if_neg hk]
     ·rcases lt_or_ge j i with h | h
      ·exact g3 j h
      ·have:j=i:=by omega
       subst this
       rw[NB,im,hf,← eS,hS];rfl
  ·rintro σ H3 ⟨a,b,k,zq,o3,x3,d3,l3,v3,g3,rfl⟩
   rw[hrs]at g3 v3
   rw[take_length]at v3
   exact hQ (fZ g3) H3 de zq o3 x3 d3 v3
noncomputable def nV (ps:List Nat):List V:=ps.map fun q:Nat=>V.int (q:Int)
theorem i9 (ps:List Nat):(nV ps).length=ps.length:=by simp[nV]
theorem tR {ps:List Nat}{k q:Nat}(h:ps[k]? = some q):(nV ps)[k]? = some (V.int (q:Int)):=by simp[nV,h]
theorem tT (a b:List Nat):nV (a ++ b)=nV a ++ nV b:=by unfold nV;rw[map_append]
theorem tQ {ps:List Nat}{v:V}(h:v ∈ nV ps):∃ q:Nat,q ∈ ps/\v = .int (q:Int):=by
 obtain⟨q,hq,e⟩:=mem_map.mp h
 exact⟨q,hq,e.symm⟩
noncomputable def sf (c:Cs)(sel:Int × Int->Int):Sp:=fun vs H Q _=>∃ (x dx t:Addr)(n:Int)(zw:List V)(ps:List (Int × Int))(k:Nat)(pr:Int × Int),vs=[.ref x, .int k]/\eT H c x dx t n zw ps/\ps[k]? = some pr/\Q (.int (sel pr)) H
structure uE (K:Frag)(c:Cs)(f:Addr)(d:FuncData):Prop where
 m:bA K c.land "end_of" f
 b:Binds K d ["self", "lane"] []
theorem bY (a b:Int):decide (V.int a=V.int b)=decide (a=b):=by
 by_cases h:a=b
 ·rw[h];simp
 ·rw[decide_eq_false h,decide_eq_false fun z=>h (by injection z)]
theorem jg {n i:Nat}(h:i < n):vX n (i:Int)=some i:=by
 unfold vX
 rw[if_pos (by omega),if_pos (by omega),toNat_natCast]
noncomputable def mN (m:Nat):List Nat:=Yd.JE m (Builtin.Int.intBits (m:Int))
theorem Kw:ao ["self", "lane"] ["self", "lane"] (ah xO):=L2.zQ
theorem y1 {c:Cs}{f:Addr}{fd:FuncData}(F:zH K "end_of" "Land.end_of" xO f fd)(L:nu K c):zg P w K mg base aD 1 f fd ["self", "lane"] (sf c Prod.snd):=by
 refine F.ok Kw (fun _ _ _ _ h=>?_) (fun _ _ _ s H _ Q E hr h=>?_)
 ·obtain⟨x,dx,t,n,zw,ps,k,pr,rfl,_⟩:=h
  rfl
 ·obtain⟨x,dx,t,n,zw,ps,k,pr,rfl,⟨hx,ht,hl⟩,hk,q⟩:=h
  refine⟨_,ai (ar (aA aE (aA aE (al (pv 0) rfl) (pv 1) (fun _ _=>rfl)) aj (fun _ _=>rfl))),?_⟩
  obtain⟨v,hv,u,rfl,hu⟩:=zN.GX hl hk
  refine⟨_,rfl,x,c.land,dx,_,_,rfl,hx,L.cl,L.nl,rfl,_,rfl,t,_,_,_,rfl,rfl,zt.of ht,ak hv,u,_,1,_,rfl,rfl,zt.of hu,ak (j:=1) rfl,q⟩
noncomputable def isI:V->Bool
 | .int _=>true
 | _=>false
noncomputable def k9:V->Int->Int->Bool
 | .int i,a,b=>decide (a <= i/\i <= b)
 | _,_,_=>false
inductive rm:V->Prop
 | int (i:Int):rm (.int i)
 | bl (b:Bool):rm (.bl b)
 | zD:rm .zD
structure uD (K:Frag):Prop where
 ii:kitOne K (.type "int") (.type "int")=some true
 ib:kitOne K (.type "int") (.type "bool")=some false
 bi:kitOne K (.type "bool") (.type "int")=some true
 bb:kitOne K (.type "bool") (.type "bool")=some true
 ni:kitOne K (.type "NoneType") (.type "int")=some false
noncomputable def gI:Sp:=fun vs H Q _=>∃ v,vs=[v]/\rm v/\Q (.bl (isI v)) H
noncomputable def fL:Sp:=fun vs H Q _=>∃ (v:V)(a b:Int),vs=[v, .int a, .int b]/\rm v/\Q (.bl (k9 v a b)) H
noncomputable def nX (K:Frag):Sp:=fun vs H Q _=>∃ (a:Addr)(ns:List Int)(k:Nat),vs=[.ref a, .int k]/\zj K H a (ns.map V.int)/\∀ d,Q (.int d) H
theorem zN.imp {H H':Hp}(h:∀ v p,w6 H v p->w6 H' v p):∀ {vs:List V}{ps:List (Int × Int)},zN H vs ps->zN H' vs ps:=fun zk=>by
 induction zk with
 | nil=>exact .nil
 | cons z r ih=>exact .cons (h _ _ z) ih
noncomputable def hV:Option Int->V
 | none => .zD
 | some z => .int z
noncomputable abbrev Fs:=List (Str × V)
noncomputable def iQ (r b:Int)(h:V)(pa:Addr):Fs:=[("rights", .int r),("returning", .int b),("holder",h),("pieces", .ref pa)]
structure zF (H:Hp)(C x dx pa:Addr)(r b:Int)(h:Option Int)(zB:List V)(qs:List (Int × Int)):Prop where
 ins:H x=some (.ins C dx (iQ r b (hV h) pa))
 lst:H pa=some (.lst zB)
 Au:zN H zB qs
noncomputable def AD (x pa:Addr)(H H':Hp):Prop:=∀ a o,a ≠ x->a ≠ pa->H a=some o->H' a=some o
theorem AD.Di {C x dx pa:Addr}{fs:Fs}{zB:List V}{H H':Hp}(h:AD x pa H H')(hx:H x=some (.ins C dx fs))(hp:H pa=some (.lst zB)){vs:List V}{qs:List (Int × Int)}:zN H vs qs->zN H' vs qs :=
 zN.imp fun _ _ zk=>by obtain⟨t,e,q⟩:=zk;exact⟨t,e,h _ _ (b8 q hx (by intro z;cases z)) (b8 q hp (by intro z;cases z)) q⟩
theorem zF.same {H H':Hp}{C x dx pa:Addr}{r b:Int}{h:Option Int}{zB:List V}{qs:List (Int × Int)}(L:zF H C x dx pa r b h zB qs)(s:zf H H'):zF H' C x dx pa r b h zB qs:=⟨s _ _ L.ins,s _ _ L.lst,zN.same s L.Au⟩
noncomputable def bW (r:Int)(h:Option Int)(l c:Int):Bool:=if r=0 then false else if c=0 then decide (h=none) else decide (h=some l)
theorem yI (h:Option Int):decide (hV h=V.zD)=decide (h=none):=by cases h<;>rfl
theorem yJ (h:Option Int)(l:Int):decide (hV h=V.int l)=decide (h=some l):=by
 cases h with
 | none=>rfl
 | some z =>
  show decide (V.int z=V.int l)=_
  rw[bY]
  by_cases e:z=l
  ·rw[decide_eq_true e,decide_eq_true (by rw[e])]
  ·rw[decide_eq_false e,decide_eq_false fun q=>e (Option.some.inj q)]
theorem wb (h:Option Int)(l:Int):xw (hV h) (.int l)=true:=by cases h<;>rfl
structure wz (K:Frag)(C:Addr):Prop where
 cl:BL K C
 n1:zx K C "rights"
 n2:zx K C "returning"
 n3:zx K C "holder"
 n4:zx K C "pieces"
structure Kx (K:Frag)(mg:Str->Option Value)(nm:Addr):Prop where
 m:mg "NoMove" = some (.ref nm)
 x:bE K nm none=true
 k:keepIn K (.ref nm)=true
 e:PySem.W.exmOne K (.ref nm) (.ref nm)=some true
noncomputable def rR (C:Addr):Sp:=fun vs H Q _=>∃ (x dx:Addr)(room:Int),vs=[.ref x, .int room]/\H x=some (.ins C dx [])/\∀ (pa:Addr)(H':Hp),H pa=none->(∀ a o,a ≠ x->H a=some o->H' a=some o)->zF H' C x dx pa room 0 none [] []->Q .zD H'
noncomputable def kY (C:Addr):Sp:=fun vs H Q _=>∃ (x dx pa:Addr)(r b:Int)(h:Option Int)(l c:Int),vs=[.ref x, .int l, .int c]/\H x=some (.ins C dx (iQ r b (hV h) pa))/\Q (.bl (bW r h l c)) H
noncomputable def wG (C nm:Addr):Sp:=fun vs H Q E=>∃ (x dx pa:Addr)(r b:Int)(h:Option Int)(zB:List V)(qs:List (Int × Int))(l c:Int)(last:Bool),vs=[.ref x, .int l, .int c, .bl last]/\zF H C x dx pa r b h zB qs/\zB.length < 100000 /\
 (bW r h l c=false->∀ H',zf H H'->E (.ref nm) none H') /\
 (bW r h l c=true->∀ (t:Addr)(H':Hp),AD x pa H H'->zF H' C x dx pa (r - 1) b (if last then none else some l) (zB ++ [.ref t]) (qs ++ [(l,c)])->Q .zD H')
noncomputable def oR:List V->V
 | [] => .zD
 | v :: _=>v
noncomputable def iY (C:Addr):Sp:=fun vs H Q _=>∃ (x dx pa:Addr)(r b:Int)(h:Option Int)(zB:List V)(qs:List (Int × Int)),vs=[.ref x]/\zF H C x dx pa r b h zB qs/\Q (oR zB) H
noncomputable def nQ (C nm:Addr):Sp:=fun vs H Q E=>∃ (x dx pa:Addr)(r b:Int)(h:Option Int)(zB:List V)(qs:List (Int × Int)),vs=[.ref x]/\zF H C x dx pa r b h zB qs /\
 (zB=[]->∀ H',zf H H'->E (.ref nm) none H') /\
 (∀ v rest,zB=v :: rest->∀ H':Hp,AD x pa H H'->zF H' C x dx pa r (b + 1) h rest qs.tail->Q v H')
noncomputable def pF (C nm:Addr):Sp:=fun vs H Q E=>∃ (x dx pa:Addr)(r b:Int)(h:Option Int)(zB:List V)(qs:List (Int × Int)),vs=[.ref x]/\zF H C x dx pa r b h zB qs /\
 (b=0->∀ H',zf H H'->E (.ref nm) none H') /\
 (b ≠ 0->∀ H':Hp,AD x pa H H'->zF H' C x dx pa (r + 1) (b - 1) h zB qs->Q .zD H')
noncomputable def wM (C:Addr):Sp:=fun vs H Q _=>∃ (x dx pa:Addr)(r b:Int)(h:Option Int)(zB:List V)(qs:List (Int × Int)),vs=[.ref x]/\zF H C x dx pa r b h zB qs /\
 ∀ (t ql:Addr)(H':Hp),zf H H'->H ql=none->H' t=some (.tup [.int r, .int b,hV h, .ref ql])->H' ql=some (.lst zB)->Q (.ref t) H'
theorem Ky (n:Nat):seqIndex? 0 (n + 1)=some 0:=by
 unfold seqIndex?
 simp
theorem kA {f:Addr}{fd:FuncData}(F:zH K "is_whole" "is_whole" gh f fd)(T:eW mg)(Z:uD K):zg P w K mg base aD 1 f fd ["value"] gI:=by
 refine F.ok pH (fun _ _ _ _ h=>?_) (fun _ _ _ s H _ Q E hr h=>?_)
 ·obtain⟨m,rfl,_⟩:=h
  rfl
 ·obtain⟨v,rfl,hv,q⟩:=h
  refine⟨_,ai (ar (c5 (aw il rfl T.Iz PyProof.Rows.boot_isinstance (aa (pv 0) (aa (fP (v := .ty "int") rfl T.int PySem.Pv.boot_int rfl) ad)))
   (c4 (lu (aw il rfl T.Iz PyProof.Rows.boot_isinstance (aa (pv 0) (aa (fP (v := .ty "bool") rfl T.bool PySem.Pv.boot_bool rfl) ad))))))),?_⟩
  cases hv with
  | int i=>exact⟨_,rfl, .int i,_, "int",true,rfl, .int i,Z.ii,true,rfl,aJ ⟨_,rfl, .int i,_, "bool",false,rfl, .int i,Z.ib,false,rfl,q⟩⟩
  | bl b=>exact⟨_,rfl, .bl b,_, "int",true,rfl, .bl b,Z.bi,true,rfl,aJ ⟨_,rfl, .bl b,_, "bool",true,rfl, .bl b,Z.bb,true,rfl,q⟩⟩
  | zD=>exact⟨_,rfl, .zD,_, "int",false,rfl, .zD,Z.ni,false,rfl,aI q⟩
theorem oE {f fh:Addr}{fd Ca:FuncData}(F:zH K "is_within" "is_within" ja f fd)(T:eW mg)(Z:uD K)(mh:mg "is_whole" = some (.ref fh))(Fh:zH K "is_whole" "is_whole" gh fh Ca)(bh:Binds K Ca ["value"] []) :
  zg P w K mg base aD 2 f fd ["value", "least", "most"] fL:=by
 have G:zg P w K mg base aD 1 fh Ca ["value"] gI:=kA Fh T Z
 refine F.ok lR (fun _ _ _ _ h=>?_) (fun _ _ _ s H _ Q E hr h=>?_)
 ·obtain⟨i,a,b,rfl,_⟩:=h
  rfl
 ·obtain⟨v,a,b,rfl,hv,q⟩:=h
  refine⟨_,ai (ar (c5 (ay G hr rfl mh Fh.kp bh .nil ap (aa (pv 0) ad)) (c4 (mz pO pO (pv 1) (pv 0) (pv 2))))),?_⟩
  cases hv with
  | bl x=>exact⟨_,rfl,_,rfl, .bl x,false,rfl,aI q⟩
  | zD=>exact⟨_,rfl,_,rfl, .zD,false,rfl,aI q⟩
  | int i =>
   refine⟨_,rfl,_,rfl, .int i,true,rfl,aJ ?_⟩
   refine⟨_,rfl,_,rfl,_,_,rfl,rfl,_,rfl,?_⟩
   have q:Q (V.bl (decide (a <= i/\i <= b))) H:=q
   by_cases h1:a <= i
   ·rw[decide_eq_true h1]
    refine aJ ⟨_,rfl,_,_,rfl,rfl,?_⟩
    show Q (V.bl (decide (i <= b))) H
    by_cases h2:i <= b
    ·rw[decide_eq_true h2];rw[decide_eq_true ⟨h1,h2⟩]at q;exact q
    ·rw[decide_eq_false h2];rw[decide_eq_false fun z=>h2 z.2]at q;exact q
   ·rw[decide_eq_false h1]
    refine aI ?_
    rw[decide_eq_false fun z=>h1 z.1]at q;exact q
theorem x9:ao ["_law_script", "_law_k"] ["_law_script", "_law_k"] (ah sI):=L2.zQ
theorem vQ {f:Addr}{fd:FuncData}(F:zH K "_law_cell_at" "_law_cell_at" sI f fd)(T:eW mg):zg P w K mg base aD 1 f fd ["_law_script", "_law_k"] (nX K):=by
 refine F.ok x9 (fun _ _ _ _ h=>?_) (fun _ _ _ s H _ Q E hr h=>?_)
 ·obtain⟨a,ns,k,rfl,_⟩:=h
  rfl
 ·obtain⟨a,ns,k,rfl,hS,q⟩:=h
  refine⟨_,af (aM (au k8 (pv 1) (aw aq rfl T.len PySem.boot_len (aa (pv 0) ad)) (ax _))
    (ai (ar (aA aQ (pv 0) (pv 1) (fun _ _=>rfl)))) aF) (ai (ar aj)),?_⟩
  refine⟨_,rfl,_,rfl,a,_,rfl, .inl hS,_,_,rfl,rfl,_,rfl,?_⟩
  refine vY (fun h=>?_) fun _=>q _
  have h':(k:Int) < ((ns.map V.int).length:Nat):=of_decide_eq_true h
  rw[length_map]at h'
  have hk:k < ns.length:=by omega
  exact⟨_,rfl,_,rfl,a,_,k,V.int ns[k],rfl,rfl,hS,ak (by simp[hk]),q _⟩
theorem F6:ao ["_law_cell", "_law_k", "_law_number"] ["_law_cell", "_law_k"] (ah xH):=L2.zQ
theorem Kz:ao ["self", "room"] ["self", "room"] (ah xK):=L2.zQ
theorem yu {C f:Addr}{fd:FuncData}(F:zH K "__init__" "Lane.__init__" xK f fd)(L:wz K C):zg P w K mg base aD 1 f fd ["self", "room"] (rR C):=by
 refine F.ok Kz (fun _ _ _ _ h=>?_) (fun _ _ _ s H _ Q E hr h=>?_)
 ·obtain⟨x,dx,room,rfl,_⟩:=h
  rfl
 ·obtain⟨x,dx,room,rfl,hx,q⟩:=h
  refine⟨_,af (bz (pv 0) (pv 1) rfl) (af (bz (pv 0) aj rfl) (af (bz (pv 0) ce rfl) (ai (bz (pv 0) (aP ad) rfl)))),?_⟩
  refine⟨_,rfl,_,rfl,x,C,dx,_,rfl,hx,L.cl,L.n1,by show 0 < 1000;decide,?_⟩
  refine⟨_,rfl,x,C,dx,_,rfl,ac,L.cl,L.n2,by show 1 < 1000;decide,?_⟩
  refine⟨_,rfl,x,C,dx,_,rfl,ac,L.cl,L.n3,by show 2 < 1000;decide,?_⟩
  refine⟨zero_le _,fun pa Dj=>?_⟩
  have Cq:x ≠ pa:=ag ac Dj
  refine⟨_,rfl,x,C,dx,_,rfl,by rw[ae Cq];exact ac,L.cl,L.n4,by show 3 < 1000;decide,?_⟩
  have EE:H pa=none:=by
   rw[ae (Ne.symm Cq),ae (Ne.symm Cq),ae (Ne.symm Cq)]at Dj
   exact Dj
  refine q pa _ EE (fun a o ha e=>?_) ⟨ac,by rw[ae (Ne.symm Cq)];exact ac, .nil⟩
  have nap:a ≠ pa:=fun z=>by
   rw[z,EE]at e
   cases e
  rw[ae ha,ae nap,ae ha,ae ha,ae ha]
  exact e
theorem x5:ao ["self", "letter", "count"] ["self", "letter", "count"] (ah sx):=L2.zQ
theorem v9 {C f:Addr}{fd:FuncData}(F:zH K "open_to" "Lane.open_to" sx f fd)(L:wz K C):zg P w K mg base aD 1 f fd ["self", "letter", "count"] (kY C):=by
 refine F.ok x5 (fun _ _ _ _ h=>?_) (fun _ _ _ s H _ Q E hr h=>?_)
 ·obtain⟨x,dx,pa,r,b,h,l,c,rfl,_⟩:=h
  rfl
 ·obtain⟨x,dx,pa,r,b,h,l,c,rfl,hx,q⟩:=h
  refine⟨_,af (aM (au bK (al (pv 0) rfl) aj (ax _)) (ai (ar fD)) aF)
   (af (aM (au bK (pv 2) aj (ax _)) (ai (ar (cz j9 (al (pv 0) rfl) ce (ax _)))) aF)
   (ai (ar (cz bK (al (pv 0) rfl) (pv 1) (ax _))))),?_⟩
  refine⟨_,rfl,x,C,dx,_,_,rfl,hx,L.cl,L.n1,rfl,rfl,_,rfl,?_⟩
  rw[bY]
  unfold bW at q
  by_cases Dk:r=0
  ·rw[decide_eq_true Dk]
   rw[if_pos Dk]at q
   exact aJ q
  rw[decide_eq_false Dk]
  rw[if_neg Dk]at q
  refine aI ⟨_,rfl,rfl,_,rfl,?_⟩
  rw[bY]
  by_cases hc0:c=0
  ·rw[decide_eq_true hc0]
   rw[if_pos hc0]at q
   refine aJ ⟨_,rfl,x,C,dx,_,_,rfl,hx,L.cl,L.n3,rfl,rfl,?_⟩
   rw[yI]
   exact q
  ·rw[decide_eq_false hc0]
   rw[if_neg hc0]at q
   refine aI ⟨_,rfl,x,C,dx,_,_,rfl,hx,L.cl,L.n3,rfl,_,rfl,wb h l,?_⟩
   rw[yJ]
   exact q
theorem K0:ao ["self", "letter", "count", "last"] ["self", "letter", "count", "last"] (ah xF):=L2.zQ
theorem yk {C f nm fo:Addr}{fd Cb:FuncData}(F:zH K "put" "Lane.put" xF f fd)(L:wz K C)(Ex:Kx K mg nm)(mo:bA K C "open_to" fo)(bo:Binds K Cb ["self", "letter", "count"] [])(Go:zg P w K mg base aD 1 fo Cb ["self", "letter", "count"] (kY C)) :
  zg P w K mg base (e7 P w) 2 f fd ["self", "letter", "count", "last"] (wG C nm):=by
 refine F.Ei K0 (fun _ _ _ _ h=>?_) (fun _ _ _ s H _ Q E hr h=>?_)
 ·obtain⟨x,dx,pa,r,b,h,zB,qs,l,c,last,rfl,_⟩:=h
  rfl
 ·obtain⟨x,dx,pa,r,b,h,zB,qs,l,c,last,rfl,hL,hlen,h1,h2⟩:=h
  refine⟨_,af (aM (cr (bQ (aC (pv 0) L.cl mo Go hr bo .nil ap (aa (pv 1) (aa (pv 2) ad))))) (ai (bJ rfl Ex.x aR (cj Ex.x Ex.k rfl rfl Ex.m (aa bG ad)))) aF)
   (af (dO (pv 0) aj qe)
   (af (aN (cv plainAttrs_list PySem.F.slot_list_append PySem.F.type_list_append bD (al (pv 0) rfl) (aa (bS (aa (pv 1) (aa (pv 2) ad))) ad)))
   (ai (bz (pv 0) (dq (bQ (pv 3)) ce (pv 1)) rfl)))),?_⟩
  refine⟨_,rfl,x,dx,_,rfl,hL.ins,rfl,_,rfl,_,rfl,x,dx,pa,r,b,h,l,c,rfl,hL.ins,_,rfl,?_⟩
  cases ho:bW r h l c with
  | false =>
   refine aJ ⟨by show 1 <= sizeLine;decide,?_⟩
   exact h1 ho H (zf.refl H)
  | true =>
   refine aI ?_
   refine⟨_,rfl,x,C,dx,_,_,rfl,hL.ins,L.cl,L.n1,rfl,_,_,rfl,rfl,dx,_,hL.ins,by show 4 < 1000;decide,?_⟩
   have Cq:pa ≠ x:=b8 hL.lst hL.ins (by intro z;cases z)
   have AY:(upd H x (.ins C dx (aK "rights" (.int (r - 1)) (iQ r b (hV h) pa)))) x=some (.ins C dx (iQ (r - 1) b (hV h) pa)):=ac
   have zR:(upd H x (.ins C dx (aK "rights" (.int (r - 1)) (iQ r b (hV h) pa)))) pa=some (.lst zB):=by rw[ae Cq];exact hL.lst
   have o1:AD x pa H (upd H x (.ins C dx (aK "rights" (.int (r - 1)) (iQ r b (hV h) pa)))):=fun a o ha _ e=>by rw[ae ha];exact e
   show _
   generalize upd H x (.ins C dx (aK "rights" (.int (r - 1)) (iQ r b (hV h) pa)))=H1 at AY zR o1 ⊢
   refine⟨_,rfl,x,C,dx,_,_,rfl,AY,L.cl,L.n4,rfl, .inl ⟨rfl,_,zj.of zR⟩,_,rfl,_,rfl,by show 2 <= sizeLine;decide,fun t ht=>?_⟩
   have s2:=(zf.refl H1).new (o := .tup [.int l, .int c]) ht
   have gt:(upd H1 t (.tup [.int l, .int c])) t=some (.tup [.int l, .int c]):=ac
   generalize upd H1 t (.tup [.int l, .int c])=H2 at s2 gt ⊢
   refine⟨pa,zB,_,rfl,rfl,s2 _ _ zR,by rw[sizeLine_eq];omega,?_⟩
   have NC:(upd H2 pa (.lst (zB ++ [.ref t]))) x=some (.ins C dx (iQ (r - 1) b (hV h) pa)):=by rw[ae (Ne.symm Cq)];exact s2 _ _ AY
   have IB:(upd H2 pa (.lst (zB ++ [.ref t]))) pa=some (.lst (zB ++ [.ref t])):=ac
   have o3:AD x pa H (upd H2 pa (.lst (zB ++ [.ref t]))):=fun a o ha hb e=>by rw[ae hb];exact s2 _ _ (o1 a o ha hb e)
   have ntp:t ≠ pa:=b8 gt (s2 _ _ zR) (by intro z;cases z)
   have Qa:(upd H2 pa (.lst (zB ++ [.ref t]))) t=some (.tup [.int l, .int c]):=by rw[ae ntp];exact gt
   generalize upd H2 pa (.lst (zB ++ [.ref t]))=H3 at NC IB o3 Qa ⊢
   have ntx:t ≠ x:=b8 Qa NC (by intro z;cases z)
   have fin:∀ h':Option Int,zF (upd H3 x (.ins C dx (aK "holder" (hV h') (iQ (r - 1) b (hV h) pa)))) C x dx pa (r - 1) b h' (zB ++ [.ref t]) (qs ++ [(l,c)]):=fun h' =>
    ⟨ac,by rw[ae Cq];exact IB,zN.snoc ⟨t,rfl,by rw[ae ntx];exact Qa⟩ (AD.Di (fun a o ha hb e=>by rw[ae ha];exact o3 a o ha hb e) hL.ins hL.lst hL.Au)⟩
   have off:∀ o',AD x pa H (upd H3 x o'):=fun o' a o ha hb e=>by rw[ae ha];exact o3 a o ha hb e
   refine⟨_,rfl,_,rfl,?_⟩
   cases last with
   | true=>exact aJ ⟨_,rfl,x,C,dx,_,rfl,NC,L.cl,L.n3,by show 4 < 1000;decide,h2 ho t _ (off _) (fin none)⟩
   | false=>exact aI ⟨_,rfl,_,rfl,x,C,dx,_,rfl,NC,L.cl,L.n3,by show 4 < 1000;decide,h2 ho t _ (off _) (fin (some l))⟩
theorem uW:ao ["self"] ["self"] (ah ow):=L2.zQ
theorem tH {C f:Addr}{fd:FuncData}(F:zH K "front" "Lane.front" ow f fd)(L:wz K C):zg P w K mg base aD 1 f fd ["self"] (iY C):=by
 refine F.ok uW (fun _ _ _ _ h=>?_) (fun _ _ _ s H _ Q E hr h=>?_)
 ·obtain⟨x,dx,pa,r,b,h,zB,qs,rfl,_⟩:=h
  rfl
 ·obtain⟨x,dx,pa,r,b,h,zB,qs,rfl,hL,q⟩:=h
  refine⟨_,ai (ar (dq (fA (al (pv 0) rfl) (fun _=>rfl)) (aA aQ (al (pv 0) rfl) aj (fun _ _=>rfl)) ce)),?_⟩
  refine⟨_,rfl,x,C,dx,_,_,rfl,hL.ins,L.cl,L.n4,rfl,_, .inl ⟨_,zj.of hL.lst,rfl⟩,?_⟩
  cases zB with
  | nil=>exact aI q
  | cons v rest=>exact aJ ⟨_,rfl,x,C,dx,_,_,rfl,hL.ins,L.cl,L.n4,rfl,pa,_,0,v,rfl,rfl,zj.of hL.lst,ak (j:=0) rfl,q⟩
theorem xx:ao ["self"] ["self"] (ah so):=L2.zQ
theorem vy {C f nm:Addr}{fd:FuncData}(F:zH K "pull" "Lane.pull" so f fd)(L:wz K C)(Ex:Kx K mg nm):zg P w K mg base (e7 P w) 1 f fd ["self"] (nQ C nm):=by
 refine F.Ei xx (fun _ _ _ _ h=>?_) (fun _ _ _ s H _ Q E hr h=>?_)
 ·obtain⟨x,dx,pa,r,b,h,zB,qs,rfl,_⟩:=h
  rfl
 ·obtain⟨x,dx,pa,r,b,h,zB,qs,rfl,hL,h1,h2⟩:=h
  refine⟨_,af (aM (cr (fA (al (pv 0) rfl) (fun _=>rfl))) (ai (bJ rfl Ex.x aR (cj Ex.x Ex.k rfl rfl Ex.m (aa bG ad)))) aF)
   (af (dO (pv 0) aj l7)
   (ai (ar (cv plainAttrs_list PySem.F.slot_list_pop PySem.F.type_list_pop mD (al (pv 0) rfl) (aa aj ad))))),?_⟩
  refine⟨_,rfl,x,C,dx,_,_,rfl,hL.ins,L.cl,L.n4,rfl,_, .inl ⟨_,zj.of hL.lst,rfl⟩,?_⟩
  have Cq:pa ≠ x:=b8 hL.lst hL.ins (by intro z;cases z)
  cases zB with
  | nil =>
   refine aJ ⟨by show 1 <= sizeLine;decide,?_⟩
   exact h1 rfl H (zf.refl H)
  | cons v rest =>
   refine aI ?_
   refine⟨_,rfl,x,C,dx,_,_,rfl,hL.ins,L.cl,L.n2,rfl,_,_,rfl,rfl,dx,_,hL.ins,by show 4 < 1000;decide,?_⟩
   have AY:(upd H x (.ins C dx (aK "returning" (.int (b + 1)) (iQ r b (hV h) pa)))) x=some (.ins C dx (iQ r (b + 1) (hV h) pa)):=ac
   have zR:(upd H x (.ins C dx (aK "returning" (.int (b + 1)) (iQ r b (hV h) pa)))) pa=some (.lst (v :: rest)):=by rw[ae Cq];exact hL.lst
   have o1:AD x pa H (upd H x (.ins C dx (aK "returning" (.int (b + 1)) (iQ r b (hV h) pa)))):=fun a o ha _ e=>by rw[ae ha];exact e
   show _
   generalize upd H x (.ins C dx (aK "returning" (.int (b + 1)) (iQ r b (hV h) pa)))=H1 at AY zR o1 ⊢
   refine⟨_,rfl,x,C,dx,_,_,rfl,AY,L.cl,L.n4,rfl, .inl ⟨rfl,_,zj.of zR⟩,pa,v :: rest,0,0,v,rfl,rfl,zR,by decide,by decide,Ky _,rfl,?_⟩
   have o2:AD x pa H (upd H1 pa (.lst rest)):=fun a o ha hb e=>by rw[ae hb];exact o1 a o ha hb e
   refine h2 v rest rfl _ o2 ⟨by rw[ae (Ne.symm Cq)];exact AY,ac,?_⟩
   have z:=AD.Di o2 hL.ins hL.lst hL.Au
   cases z with
   | cons _ t=>exact t
theorem uX:ao ["self"] ["self"] (ah o0):=L2.zQ
theorem tL {C f nm:Addr}{fd:FuncData}(F:zH K "bring" "Lane.bring" o0 f fd)(L:wz K C)(Ex:Kx K mg nm):zg P w K mg base (e7 P w) 1 f fd ["self"] (pF C nm):=by
 refine F.Ei uX (fun _ _ _ _ h=>?_) (fun _ _ _ s H _ Q E hr h=>?_)
 ·obtain⟨x,dx,pa,r,b,h,zB,qs,rfl,_⟩:=h
  rfl
 ·obtain⟨x,dx,pa,r,b,h,zB,qs,rfl,hL,h1,h2⟩:=h
  refine⟨_,af (aM (au bK (al (pv 0) rfl) aj (ax _)) (ai (bJ rfl Ex.x aR (cj Ex.x Ex.k rfl rfl Ex.m (aa bG ad)))) aF)
   (af (dO (pv 0) aj qe) (ai (dO (pv 0) aj l7))),?_⟩
  refine⟨_,rfl,x,C,dx,_,_,rfl,hL.ins,L.cl,L.n2,rfl,rfl,_,rfl,?_⟩
  have Cq:pa ≠ x:=b8 hL.lst hL.ins (by intro z;cases z)
  rw[bY]
  by_cases F7:b=0
  ·rw[decide_eq_true F7]
   refine aJ ⟨by show 1 <= sizeLine;decide,?_⟩
   exact h1 F7 H (zf.refl H)
  ·rw[decide_eq_false F7]
   refine aI ?_
   refine⟨_,rfl,x,C,dx,_,_,rfl,hL.ins,L.cl,L.n2,rfl,_,_,rfl,rfl,dx,_,hL.ins,by show 4 < 1000;decide,?_⟩
   have AY:(upd H x (.ins C dx (aK "returning" (.int (b - 1)) (iQ r b (hV h) pa)))) x=some (.ins C dx (iQ r (b - 1) (hV h) pa)):=ac
   have o1:AD x pa H (upd H x (.ins C dx (aK "returning" (.int (b - 1)) (iQ r b (hV h) pa)))):=fun a o ha _ e=>by rw[ae ha];exact e
   have zR:(upd H x (.ins C dx (aK "returning" (.int (b - 1)) (iQ r b (hV h) pa)))) pa=some (.lst zB):=by rw[ae Cq];exact hL.lst
   show _
   generalize upd H x (.ins C dx (aK "returning" (.int (b - 1)) (iQ r b (hV h) pa)))=H1 at AY zR o1 ⊢
   refine⟨_,rfl,x,C,dx,_,_,rfl,AY,L.cl,L.n1,rfl,_,_,rfl,rfl,dx,_,AY,by show 4 < 1000;decide,?_⟩
   have o2:∀ o',AD x pa H (upd H1 x o'):=fun o' a o ha hb e=>by rw[ae ha];exact o1 a o ha hb e
   exact h2 F7 _ (o2 _) ⟨ac,by rw[ae Cq];exact zR,AD.Di (o2 _) hL.ins hL.lst hL.Au⟩
theorem K1:ao ["self"] ["self"] (ah xJ):=L2.zQ
theorem yt {C f:Addr}{fd:FuncData}(F:zH K "told" "Lane.told" xJ f fd)(T:eW mg)(L:wz K C):zg P w K mg base aD 1 f fd ["self"] (wM C):=by
 refine F.ok K1 (fun _ _ _ _ h=>?_) (fun _ _ _ s H _ Q E hr h=>?_)
 ·obtain⟨x,dx,pa,r,b,h,zB,qs,rfl,_⟩:=h
  rfl
 ·obtain⟨x,dx,pa,r,b,h,zB,qs,rfl,hL,q⟩:=h
  refine⟨_,ai (ar (bS (aa (al (pv 0) rfl) (aa (al (pv 0) rfl) (aa (al (pv 0) rfl) (aa (aY bU rfl T.list PySem.Pv.boot_list (aa (al (pv 0) rfl) ad)) ad)))))),?_⟩
  refine⟨_,rfl,x,C,dx,_,_,rfl,hL.ins,L.cl,L.n1,rfl,_,rfl,x,C,dx,_,_,rfl,hL.ins,L.cl,L.n2,rfl,_,rfl,x,C,dx,_,_,rfl,hL.ins,L.cl,L.n3,rfl,_,rfl,x,C,dx,_,_,rfl,hL.ins,L.cl,L.n4,rfl,pa,_,rfl, .inl (zj.of hL.lst),fun ql DQ=>?_⟩
  have s1:=(zf.refl H).new (o := .lst zB) DQ
  have g1:(upd H ql (.lst zB)) ql=some (.lst zB):=ac
  generalize upd H ql (.lst zB)=H1 at s1 g1 ⊢
  refine⟨by show 4 <= sizeLine;decide,fun t ht=>?_⟩
  have s2:=s1.new (o := .tup [.int r, .int b,hV h, .ref ql]) ht
  exact q t ql _ s2 DQ ac (by rw[ae (ag g1 ht)];exact g1)
noncomputable def pP (m:Nat)(zA:List V):Bool:=decide (zA.length=m) && zA.all fun v=>k9 v 1 60
noncomputable def Sq (K:Frag)(H:Hp)(a:Addr)(xs:List V):Prop:=zj K H a xs∨zt K H a xs
noncomputable def p6 (K:Frag)(c:Cs)(nr:Addr):Sp:=fun vs H Q E=>∃ (lx zX lt:Addr)(n:Int)(zw:List V)(ps:List (Int × Int))(rv:V),vs=[.ref lx,rv]/\eT H c lx zX lt n zw ps/\ps.length <= 1000 /\
 ((rv = .zD/\∀ t H',zf H H'->H' t=some (.tup (List.replicate ps.length (.int 1)))->Q (.ref t) H') ∨
  (∃ ra zA,rv = .ref ra/\Sq K H ra zA/\zA.length <= 1000/\(∀ v ∈ zA,rm v)/\(pP ps.length zA=false->∀ H',zf H H'->E (.ref nr) none H')/\(pP ps.length zA=true->∀ t H',zf H H'->zt K H' t zA->Q (.ref t) H')))
noncomputable def yH (s:Stmt):Scope:=match s with
 | .If _ (.Return (some (.Call _ [.ListComp _ _ sc _] _ _)) _ :: _) _ _=>sc
 | _=>zQ0
noncomputable def xY (s:Stmt):Scope:=match s with
 | .If (.BoolOp _ [_, .UnaryOp _ (.Call _ [.ListComp _ _ sc _] _ _) _] _) _ _ _=>sc
 | _=>zQ0
noncomputable def IC:V->Bool
 | .int i=>decide ((if i < 0 then -i else i) < 10 ^ (60:Int).toNat)
 | _=>false
noncomputable def rG:Sp:=fun vs H Q _=>∃ v,vs=[v]/\rm v/\Q (.bl (IC v)) H
noncomputable def wD (K:Frag)(f1 f2:Str):Sp:=fun vs H Q _=>∃ e C tt v1 v2,vs=[.ref e,v1,v2]/\H e=some (bV e C tt none)/\gs K C/\findIn K (.ref C) f1=some none/\findIn K (.ref C) f2=some none/\∀ d H',H d=none->(∀ b o,b ≠ e->H b=some o->H' b=some o)->H' e=some (bV e C tt (some d))->H' d=some (.xd [(f1,v1),(f2,v2)])->Q .zD H'
theorem bI {K:Frag}{H H':Hp}{a:Addr}{xs:List V}(e:zf H H')(h:zt K H a xs):zt K H' a xs:=by
 rcases h with h | h
 ·refine .inl ?_
  rcases h with h | ⟨o,h⟩
  ·exact .inl (e _ _ h)
  ·exact .inr ⟨o,e _ _ h⟩
 ·exact .inr h
theorem K2 {X:Cx}{tg it:Expr}{a b:TI}(h1:PI X tg it a)(h2:PI X tg it b):PI X tg it (fun σ H R=>a σ H R∨b σ H R):=fun pins s σ H R I h=>h.elim (h1 pins s σ H R I) (h2 pins s σ H R I)
theorem mY {J:It}{xs:List V}{g:TG}{te:TE}{σ0:St}{H:Hp}{Q:VK}(f:V->V)(hn:xs.length < sizeLine)(hgo:∀ i,i < xs.length->J.go i H)(D9:J.stop xs.length H)(hy:∀ i x H',J.E2 i H x H'->H' = H/\xs[i]? = some x)
  (hs:∀ (x:V)(N:V->Hp->Prop),x ∈ xs->N (f x) H->g x σ0 H fun σ2 H2=>te σ2 H2 N)
  (hq:∀ D,H D=none->Q (.ref D) (upd H D (.lst (xs.map f)))):c9 J g lN te σ0 Q H:=by
 refine bM xs.length hn (fun i acc H'=>H' = H/\acc=(xs.take i).map f) ⟨rfl,rfl⟩ (fun i acc H' h=>by rw[h.2,length_map];exact length_take_le _ _) (fun i acc H' hi h=>?_) (fun acc H' h=>?_)
 ·obtain⟨rfl,rfl⟩:=h
  refine⟨hgo i hi,fun v H2 y=>?_⟩
  obtain⟨e,hx⟩:=hy i v H2 y
  subst e
  exact hs v (fun y H4=>H4=H2/\(xs.take i).map f ++ [y]=(xs.take (i + 1)).map f) (mem_of_getElem? hx) ⟨rfl,by rw[take_succ,hx,map_append];rfl⟩
 ·obtain⟨rfl,rfl⟩:=h
  rw[take_length]
  exact⟨D9,hq⟩
theorem yP {K:Frag}{a:Addr}{xs:List V}{g:TG}{te:TE}{σ0:St}{H:Hp}{Q:VK}(f:V->V)(hn:xs.length < sizeLine)(ha:zj K H a xs)(hs:∀ (x:V) (N:V->Hp->Prop),x ∈ xs->N (f x) H->g x σ0 H fun σ2 H2=>te σ2 H2 N)
  (hq:∀ D,H D=none->Q (.ref D) (upd H D (.lst (xs.map f)))):c9 (rp K a) g lN te σ0 Q H :=
 mY f hn (fun i hi=>⟨xs,xs[i],ha,by simp[hi]⟩) ⟨xs,ha,Nat.le_refl _⟩ (fun i x H' y=>⟨y.1,y.2 xs ha⟩) hs hq
theorem uw {K:Frag}{a:Addr}{xs:List V}{g:TG}{te:TE}{σ0:St}{H:Hp}{Q:VK}(f:V->V)(hn:xs.length < sizeLine)(ha:zt K H a xs)(hs:∀ (x:V) (N:V->Hp->Prop),x ∈ xs->N (f x) H->g x σ0 H fun σ2 H2=>te σ2 H2 N)
  (hq:∀ D,H D=none->Q (.ref D) (upd H D (.lst (xs.map f)))):c9 (Jp K a) g lN te σ0 Q H :=
 mY f hn (fun i hi=>⟨xs,xs[i],ha,by simp[hi]⟩) ⟨xs,ha,Nat.le_refl _⟩ (fun i x H' y=>⟨y.1,y.2 xs ha⟩) hs hq
structure uK (K:Frag)(mg:Str->Option Value)(x:Str)(C:Addr):Prop where
 m:mg x=some (.ref C)
 x:bE K C none=true
 k:keepIn K (.ref C)=true
theorem Qb:ao ["land", "rooms"] ["land", "rooms"] (ah gi):=L2.zQ
theorem Qc:As ["land", "rooms"] (ah gi) (yH ((aG gi).getD 0 (.Pass ⟨0,0,0,0⟩))) [] []:=L2.Bs
theorem Qd:As ["land", "rooms"] (ah gi) (xY ((aG gi).getD 1 (.Pass ⟨0,0,0,0⟩))) [] []:=L2.Bs
theorem Qe:(["lane"]:List Str).Nodup:=by decide +kernel
theorem K3:(["room"]:List Str).Nodup:=by decide +kernel
theorem tw {c:Cs}{f fw nr:Addr}{fd dw:FuncData}{t1:Tok}(F:zH K "rooms_of" "rooms_of" gi f fd)(T:eW mg)(L:nu K c)(X:uK K mg "NoRooms" nr)
  (mw:mg "is_within" = some (.ref fw)) (kw:keepIn K (.ref fw)=true) (bw:Binds K dw ["value", "least", "most"] []) (Gw:zg P w K mg base aD 2 fw dw ["value", "least", "most"] fL) (mp:mg "MOST_ROOM" = some (.int 60 t1)) :
  zg P w K mg base (e7 P w) 3 f fd ["land", "rooms"] (p6 K c nr):=by
 refine F.Ei Qb (fun _ _ _ _ h=>?_) (fun _ _ _ s H _ Q E hr h=>?_)
 ·obtain⟨lx,zX,lt,n,zw,ps,rv,rfl,_⟩:=h
  rfl
 ·obtain⟨lx,zX,lt,n,zw,ps,rv,rfl,hL,Bj,hh⟩:=h
  refine⟨_,af (aM (au j9 (pv 1) ce (ax _)) (ai (ar (aY c7 rfl T.tuple PySem.Pv.boot_tuple (aa (aT (own:=["lane"]) (capN:=[]) (cap:=[]) Qc rfl (j7 (al (pv 0) rfl))
     (fun C s' H' fp=>⟨av (i:=0) Qe rfl (Or.inl rfl),ck,aj⟩)) ad)))) aF)
   (af (aM (jc (PW.pt (hG (au m5 (aw aq rfl T.len PySem.boot_len (aa (pv 1) ad)) (aw aq rfl T.len PySem.boot_len (aa (al (pv 0) rfl) ad)) (ax _))
     (eA (cr (bQ (aw (jR rfl) rfl T.all PyProof.Rows.boot_all (aa (aT (own:=["room"]) (capN:=[]) (cap:=[]) Qd rfl (K2 (bx (pv 1)) (j7 (pv 1)))
      (fun C s' H' fp=>⟨av (i:=0) K3 rfl (Or.inl rfl),ck,ay Gw hr rfl mw kw bw .nil ap (aa (pv 0) (aa aj (aa (fO (v := .int 60) rfl mp ⟨_,rfl⟩) ad)))⟩)) ad))))))))
    (ai (bJ rfl X.x aR (cj X.x X.k rfl rfl X.m (aa bG ad)))) aF)
   (ai (ar (aY c7 rfl T.tuple PySem.Pv.boot_tuple (aa (pv 1) ad))))),?_⟩
  have BA:zw.length=ps.length:=Paired.length hL.2.2
  refine⟨_,rfl,rfl,_,rfl,?_⟩
  rcases hh with ⟨rfl,q⟩ | ⟨ra,zA,rfl,hR,Em,Hh,qE,q⟩
  ·refine aJ ⟨_,rfl,lx,c.land,zX,_,_,rfl,hL.1,L.cl,L.nl,rfl,lt,rfl,⟨_,zt.of hL.2.1⟩,?_⟩
   refine uw (fun _ => .int 1) (by rw[sizeLine_eq];omega) (zt.of hL.2.1) (fun x N hx h=>h) (fun D hD=>?_)
   have s1:=(zf.refl H).new (o := .lst (zw.map fun _=>V.int 1)) hD
   refine⟨D,_,rfl, .inl ⟨zj.of ac,fun t ht=>q t _ (s1.new ht) ?_⟩⟩
   rw[ac,List.map_const',BA]
  ·refine aI ?_
   have len1:∀ {H:Hp},Sq K H ra zA->(zj K H ra zA∨zt K H ra zA):=fun h=>h
   refine⟨fun b H'=>zf H H'/\b = !pP ps.length zA,?_,?_⟩
   ·refine⟨_,rfl,ra,zA,rfl,hR,_,rfl,lx,c.land,zX,_,_,rfl,hL.1,L.cl,L.nl,rfl,lt,_,rfl, .inr (zt.of hL.2.1),rfl,_,rfl,?_⟩
    rw[bY,BA]
    by_cases K4:zA.length=ps.length
    rotate_left
    ·rw[decide_eq_false (show ¬ ((zA.length:Nat):Int)=(ps.length:Nat) by omega)]
     refine aJ ⟨zf.refl H,?_⟩
     unfold pP
     rw[decide_eq_false K4];rfl
    rw[decide_eq_true (show((zA.length:Nat):Int)=(ps.length:Nat) by omega)]
    have step:∀ (x:V)(N:V->Hp->Prop),x ∈ zA->N (.bl (k9 x 1 60)) H->rm x:=fun x _ hx _=>Hh x hx
    have fin:∀ D,H D=none->∃ (p:Addr)(bs:List Bool),[V.ref D]=[.ref p]/\zj K (upd H D (.lst (zA.map fun v=>V.bl (k9 v 1 60)))) p (bs.map V.bl)/\∃ cc,V.bl (bs.all id) = .bl cc/\(zf H (upd H D (.lst (zA.map fun v=>V.bl (k9 v 1 60))))/\(!cc) = !pP ps.length zA):=fun D hD=>by
     refine⟨D,zA.map fun v=>k9 v 1 60,rfl,zj.of (by rw[ac,map_map];rfl),_,rfl,(zf.refl H).new hD,?_⟩
     unfold pP
     rw[decide_eq_true K4,Bool.true_and,all_map];rfl
    refine aI ?_
    rcases hR with hR | hR
    ·refine .inl ⟨_,rfl,ra,rfl,⟨_,hR⟩,?_⟩
     exact yP (fun v => .bl (k9 v 1 60)) (by rw[sizeLine_eq];omega) hR (fun x N hx h=>⟨_,rfl,x,1,60,rfl,Hh x hx,h⟩) fin
    ·refine .inr ⟨_,rfl,ra,rfl,⟨_,hR⟩,?_⟩
     exact uw (fun v => .bl (k9 v 1 60)) (by rw[sizeLine_eq];omega) hR (fun x N hx h=>⟨_,rfl,x,1,60,rfl,Hh x hx,h⟩) fin
   rintro b H' ⟨s',rfl⟩
   cases zp:pP ps.length zA with
   | false=>exact aJ ⟨by show 1 <= sizeLine;decide,qE zp H' s'⟩
   | true =>
    refine aI ⟨_,rfl,ra,zA,rfl,?_⟩
    rcases hR with hR | hR
    ·exact .inl ⟨s'.seq hR,fun t ht=>q zp t _ (s'.new ht) (zt.of ac)⟩
    ·exact .inr ⟨bI s' hR,q zp ra _ s' (bI s' hR)⟩
theorem Qf:ao ["word"] ["word"] (ah sj):=L2.zQ
theorem vq {f fh:Addr}{fd dh:FuncData}(F:zH K "is_word" "is_word" sj f fd)(T:eW mg)(mh:mg "is_whole" = some (.ref fh))(kh:keepIn K (.ref fh)=true)(bh:Binds K dh ["value"] [])(G:zg P w K mg base aD 1 fh dh ["value"] gI) :
  zg P w K mg base aD 2 f fd ["word"] rG:=by
 refine F.ok Qf (fun _ _ _ _ h=>?_) (fun _ _ _ s H _ Q E hr h=>?_)
 ·obtain⟨v,rfl,_⟩:=h
  rfl
 ·obtain⟨v,rfl,hv,q⟩:=h
  refine⟨_,ai (ar (c5 (ay G hr rfl mh kh bh .nil ap (aa (pv 0) ad)) (c4 (cz k8 (aw uz rfl T.abs PyProof.Rows.boot_abs (aa (pv 0) ad)) (aB oC aj aj) (ax _))))),?_⟩
  cases hv with
  | int i=>exact⟨_,rfl,_,rfl, .int i,true,rfl,aJ ⟨_,rfl,i,rfl,_,_,rfl,rfl,⟨by decide,by decide,by decide⟩,_,_,rfl,rfl,q⟩⟩
  | bl b=>exact⟨_,rfl,_,rfl, .bl b,false,rfl,aI q⟩
  | zD=>exact⟨_,rfl,_,rfl, .zD,false,rfl,aI q⟩
theorem Qg:ao ["self", "start", "goal"] ["self", "start", "goal"] (ah uY):=L2.zQ
theorem K5 {f:Addr}{fd:FuncData}(F:zH K "__init__" "NoWay.__init__" uY f fd):zg P w K mg base aD 1 f fd ["self", "start", "goal"] (wD K "start" "goal"):=by
 refine F.ok Qg (fun _ _ _ _ h=>?_) (fun _ _ _ s H _ Q E hr h=>?_)
 ·obtain⟨e,C,tt,v1,v2,rfl,_⟩:=h
  rfl
 ·obtain⟨e,C,tt,v1,v2,rfl,he,hx,n1,n2,q⟩:=h
  refine⟨_,af (sP (pv 0) (pv 1) rfl) (ai (sO (pv 0) (pv 2) rfl)),?_⟩
  refine⟨_,rfl,_,rfl,e,C,tt,rfl,he,hx,n1,fun d hd=>?_⟩
  have UZ:e ≠ d:=ag he hd
  refine⟨_,rfl,_,rfl,e,C,tt,d,[("start",v1)],rfl,ac,by rw[ae (Ne.symm UZ)];exact ac,by show 1 < 1000;decide,hx,n2,?_⟩
  refine q d _ hd (fun b o nb eb=>?_) (by rw[ae UZ];exact ac) (by rw[ac];rfl)
  have Va:b ≠ d:=ag eb hd
  rw[ae Va,ae nb,ae Va]
  exact eb
noncomputable abbrev Wf:=Nat->Nat->Option Nat->List Nat
noncomputable abbrev TJ:=Hp->Addr->Nat->Wf->Prop
noncomputable def NL:HO->Prop
 | .lst _=>False
 | .ins _ _ []=>False
 | .Bb _=>False
 | _=>True
noncomputable def zG (H H':Hp):Prop:=∀ b o,H b=some o->NL o->H' b=some o
theorem zf.zC {H H':Hp}(s:zf H H'):zG H H':=fun b o e _=>s b o e
theorem zG.trans {H H1 H2:Hp}(a:zG H H1)(b:zG H1 H2):zG H H2:=fun x o e n=>b x o (a x o e n) n
theorem zG.Di {H H':Hp}(k:zG H H'){vs:List V}{ps:List (Int × Int)}(h:zN H vs ps):zN H' vs ps:=zN.imp (fun _ _ ⟨t,e,q⟩=>⟨t,e,k _ _ q True.intro⟩) h
structure An (c:Cs)(C:Addr)(J:TJ)(H:Hp)(x lx zX lt:Addr)(n:Nat)(zw:List V)(ps:List (Int × Int))(wy:Wf):Prop where
 j:J H x n wy
 i:∃ dx fs,H x=some (.ins C dx fs)/\fs.lookup ("land":Str)=some (.ref lx)/\fs.lookup ("ways":Str)=none
 l:eT H c lx zX lt (n:Int) zw ps
 K6:n <= 12
 Ao:ps.length <= 40
 ok:∀ p g k,p < n->g < n->∀ z ∈ wy p g k,z < ps.length
structure Wy (K:Frag)(C fw:Addr)(dw:FuncData)(J:TJ):Prop where
 cl:BL K C
 nl:zx K C "land"
 m:bA K C "ways" fw
 b:Binds K dw ["self", "place", "goal", "came"] []
 AA:∀ H H' x n wy,J H x n wy->zG H H'->J H' x n wy
theorem An.keep {K:Frag}{c:Cs}{C fw:Addr}{dw:FuncData}{J:TJ}{H H':Hp}{x lx zX lt:Addr}{n:Nat}{zw:List V}{ps:List (Int × Int)}{wy:Wf}(W:Wy K C fw dw J)(h:An c C J H x lx zX lt n zw ps wy)(k:zG H H'):An c C J H' x lx zX lt n zw ps wy :=
 ⟨W.AA _ _ _ _ _ h.j k,let ⟨dx,fs,h1,h2⟩:=h.i; ⟨dx,fs,k _ _ h1 (by cases fs with | nil=>cases h2.1 | cons _ _=>exact True.intro),h2⟩,⟨k _ _ h.l.1 True.intro,k _ _ h.l.2.1 True.intro,k.Di h.l.2.2⟩,h.K6,h.Ao,h.ok⟩
noncomputable def fM (J:TJ):Sp:=fun vs H Q _=>∃ (x:Addr)(n:Nat)(wy:Wf)(p g:Nat)(k:Option Nat),vs=[.ref x, .int p, .int g,cV k]/\J H x n wy/\p < n/\g < n/\∀ (D:Addr)(H':Hp),zf H H'->H D=none->H' D=some (.lst (nV (wy p g k)))->Q (.ref D) H'
structure bC where
 r:Int
 b:Int
 h:Option Int
 qs:List (Int × Int)
structure aU where
 start:Int
 goal:Int
 len:Int
 word:Int
 gone:Int
 way:List Nat
structure YS where
 rooms:List V
 lanes:List bC
 U:List aU
 lies:List (List (Int × Int))
 done:List (List V)
structure Ys where
 zi:Addr
 zI:Addr
 zh:Addr
 ex:List Addr
noncomputable def B4 (H:Hp)(C:Addr)(ex:List Addr)(v:V)(s:bC):Prop:=∃ x dx pa zB,v = .ref x/\zF H C x dx pa s.r s.b s.h zB s.qs/\pa ∉ ex
noncomputable def oJ (s:aU)(wa:Addr):Fs:=[("start", .int s.start),("goal", .int s.goal),("length", .int s.len),("word", .int s.word),("gone", .int s.gone),("way", .ref wa)]
noncomputable def BV (H:Hp)(C:Addr)(ex:List Addr)(v:V)(s:aU):Prop:=∃ x dx wa,v = .ref x/\H x=some (.ins C dx (oJ s wa))/\H wa=some (.lst (nV s.way))/\wa ∉ ex
noncomputable def AG (H:Hp)(v:V)(qs:List (Int × Int)):Prop:=∃ t vs,v = .ref t/\H t=some (.tup vs)/\zN H vs qs
noncomputable def AQ (H:Hp)(v:V)(m:List V):Prop:=∃ t,v = .ref t/\H t=some (.tup m)
theorem Paired.mono {α β:Type}{R R':α->β->Prop}(h:∀ a b,R a b->R' a b):∀ {as:List α}{bs:List β},Paired R as bs->Paired R' as bs:=fun zk=>by
 induction zk with
 | nil=>exact .nil
 | cons x r ih=>exact .cons (h _ _ x) ih
theorem Paired.snoc {α β:Type}{R:α->β->Prop}{a:α}{b:β}(h:R a b):∀ {as:List α}{bs:List β},Paired R as bs->Paired R (as ++ [a]) (bs ++ [b]):=fun zk=>by
 induction zk with
 | nil=>exact .cons h .nil
 | cons x r ih=>exact .cons x ih
theorem Paired.at {α β:Type}{R:α->β->Prop}:∀ {as:List α}{bs:List β}{i:Nat}{a:α},Paired R as bs->as[i]? = some a->∃ b,bs[i]? = some b/\R a b:=by
 intro _ _ i _ zk
 induction zk generalizing i with
 | nil=>intro h;cases h
 | cons x r ih =>
  intro h
  cases i with
  | zero=>cases h;exact⟨_,rfl,x⟩
  | succ i=>exact ih (i:=i) h
theorem Paired.at2 {α β:Type}{R:α->β->Prop}:∀ {as:List α}{bs:List β}{i:Nat}{b:β},Paired R as bs->bs[i]? = some b->∃ a,as[i]? = some a/\R a b:=by
 intro _ _ i _ zk
 induction zk generalizing i with
 | nil=>intro h;cases h
 | cons x r ih =>
  intro h
  cases i with
  | zero=>cases h;exact⟨_,rfl,x⟩
  | succ i=>exact ih (i:=i) h
noncomputable def zo (ex:List Addr)(H H':Hp):Prop:=∀ b o,b ∉ ex->H b=some o->H' b=some o
theorem zf.zS {ex:List Addr}{H H':Hp}(s:zf H H'):zo ex H H':=fun b o _ e=>s b o e
theorem zo.trans {ex:List Addr}{H H1 H2:Hp}(a:zo ex H H1)(b:zo ex H1 H2):zo ex H H2:=fun x o n e=>b x o n (a x o n e)
theorem zN.zS {ex:List Addr}{H H':Hp}(hx:∀ b ∈ ex,∃ xs,H b=some (.lst xs))(o:zo ex H H'){vs:List V}{ps:List (Int × Int)}(h:zN H vs ps):zN H' vs ps :=
 zN.imp (fun _ _ zk=>by obtain⟨t,e,q⟩:=zk;exact⟨t,e,o _ _ (fun z=>by obtain⟨xs,hz⟩:=hx _ z;rw[q]at hz;cases hz) q⟩) h
theorem zo.F8 {ex:List Addr}{H H':Hp}(hx:∀ b ∈ ex,∃ o,H b=some o/\¬ NL o)(o:zo ex H H'):zG H H':=fun b u e n=>o b u (fun z=>by obtain⟨o',hz,hn⟩:=hx _ z;rw[e]at hz;cases hz;exact hn n) e
theorem zo.zC {ex:List Addr}{H H':Hp}(hx:∀ b ∈ ex,∃ xs,H b=some (.lst xs))(o:zo ex H H'):zG H H':=o.F8 fun b hb=>let ⟨xs,hz⟩:=hx b hb; ⟨_,hz,id⟩
theorem B4.zS {ex:List Addr}{H H':Hp}{C:Addr}{v:V}{s:bC}(hx:∀ b ∈ ex,∃ xs,H b=some (.lst xs))(o:zo ex H H')(h:B4 H C ex v s):B4 H' C ex v s:=by
 obtain⟨x,dx,pa,zB,e,L,n⟩:=h
 have k:=o.zC hx
 exact⟨x,dx,pa,zB,e,⟨k _ _ L.ins True.intro,o _ _ n L.lst,zN.zS hx o L.Au⟩,n⟩
theorem BV.zS {ex:List Addr}{H H':Hp}{C:Addr}{v:V}{s:aU}(hx:∀ b ∈ ex,∃ xs,H b=some (.lst xs))(o:zo ex H H')(h:BV H C ex v s):BV H' C ex v s:=by
 obtain⟨x,dx,wa,e,h1,h2,n⟩:=h
 exact⟨x,dx,wa,e,o.zC hx _ _ h1 True.intro,o _ _ n h2,n⟩
theorem AG.keep {H H':Hp}{v:V}{qs:List (Int × Int)}(k:zG H H')(h:AG H v qs):AG H' v qs:=by
 obtain⟨t,vs,e,h1,h2⟩:=h
 exact⟨t,vs,e,k _ _ h1 True.intro,k.Di h2⟩
theorem AQ.keep {H H':Hp}{v:V}{m:List V}(k:zG H H')(h:AQ H v m):AQ H' v m:=by
 obtain⟨t,e,h1⟩:=h
 exact⟨t,e,k _ _ h1 True.intro⟩
noncomputable def ND (tb ro la le li dn:Addr):Fs:=[("table", .ref tb),("rooms", .ref ro),("lanes", .ref la),("letters", .ref le),("lies", .ref li),("done", .ref dn)]
structure zu (K:Frag)(ys:Ys)(H:Hp)(y dy tb ro la le li dn:Addr)(s:YS):Prop where
 ins:H y=some (.ins ys.zi dy (ND tb ro la le li dn))
 ID:zt K H ro s.rooms
 Ap:∃ vs,H la=some (.lst vs)/\Paired (B4 H ys.zI (la :: le :: li :: dn :: ys.ex)) vs s.lanes
 hle:∃ vs,H le=some (.lst vs)/\Paired (BV H ys.zh (la :: le :: li :: dn :: ys.ex)) vs s.U
 BE:∃ vs,H li=some (.lst vs)/\Paired (AG H) vs s.lies
 AR:∃ vs,H dn=some (.lst vs)/\Paired (AQ H) vs s.done
 ne:[la,le,li,dn].Nodup
 hex:∀ b ∈ ys.ex,∃ xs,H b=some (.lst xs)
theorem zu.AS {K:Frag}{ys:Ys}{H:Hp}{y dy tb ro la le li dn:Addr}{s:YS}(h:zu K ys H y dy tb ro la le li dn s):∀ b ∈ [la,le,li,dn],∃ xs,H b=some (.lst xs):=by
 intro b hb
 obtain⟨v1,h1,_⟩:=h.Ap
 obtain⟨v2,h2,_⟩:=h.hle
 obtain⟨v3,h3,_⟩:=h.BE
 obtain⟨v4,h4,_⟩:=h.AR
 simp only[mem_cons,not_mem_nil,or_false]at hb
 rcases hb with rfl | rfl | rfl | rfl
 ·exact⟨_,h1⟩
 ·exact⟨_,h2⟩
 ·exact⟨_,h3⟩
 ·exact⟨_,h4⟩
theorem zu.CP {K:Frag}{ys:Ys}{H:Hp}{y dy tb ro la le li dn:Addr}{s:YS}(h:zu K ys H y dy tb ro la le li dn s):∀ b ∈ la :: le :: li :: dn :: ys.ex,∃ xs,H b=some (.lst xs):=by
 intro b hb
 have e:la :: le :: li :: dn :: ys.ex=[la,le,li,dn] ++ ys.ex:=rfl
 rw[e]at hb
 rcases mem_append.mp hb with hb | hb
 ·exact h.AS b hb
 ·exact h.hex b hb
theorem zu.same {K:Frag}{ys:Ys}{H H':Hp}{y dy tb ro la le li dn:Addr}{s:YS}(h:zu K ys H y dy tb ro la le li dn s)(e:zf H H'):zu K ys H' y dy tb ro la le li dn s:=by
 have hx:=h.CP
 obtain⟨v1,h1,p1⟩:=h.Ap
 obtain⟨v2,h2,p2⟩:=h.hle
 obtain⟨v3,h3,p3⟩:=h.BE
 obtain⟨v4,h4,p4⟩:=h.AR
 have o:zo (la :: le :: li :: dn :: ys.ex) H H':=zf.zS e
 exact⟨e _ _ h.ins,bI e h.ID,⟨v1,e _ _ h1,Paired.mono (fun _ _ z=>z.zS hx o) p1⟩,⟨v2,e _ _ h2,Paired.mono (fun _ _ z=>z.zS hx o) p2⟩,⟨v3,e _ _ h3,Paired.mono (fun _ _ z=>z.keep (zf.zC e)) p3⟩,⟨v4,e _ _ h4,Paired.mono (fun _ _ z=>z.keep (zf.zC e)) p4⟩,h.ne,fun b hb=>let ⟨xs,hz⟩:=h.hex b hb; ⟨xs,e _ _ hz⟩⟩
structure fU (K:Frag)(ys:Ys):Prop where
 cl:BL K ys.zi
 n1:zx K ys.zi "table"
 n2:zx K ys.zi "rooms"
 n3:zx K ys.zi "lanes"
 n4:zx K ys.zi "letters"
 n5:zx K ys.zi "lies"
 n6:zx K ys.zi "done"
 ct:BL K ys.zh
 t1:zx K ys.zh "start"
 t2:zx K ys.zh "goal"
 t3:zx K ys.zh "length"
 t4:zx K ys.zh "word"
 t5:zx K ys.zh "gone"
 t6:zx K ys.zh "way"
 L:wz K ys.zI
noncomputable def rQ (C:Addr):Sp:=fun vs H Q _=>∃ (x dx:Addr)(a b l u:Int),vs=[.ref x, .int a, .int b, .int l, .int u]/\H x=some (.ins C dx [])/\∀ (wa:Addr)(H':Hp),H wa=none->(∀ z o,z ≠ x->H z=some o->H' z=some o)->H' x=some (.ins C dx (oJ ⟨a,b,l,u,0,[]⟩ wa))->H' wa=some (.lst (nV []))->Q .zD H'
theorem K7:ao ["self", "start", "goal", "length", "word"] ["self", "start", "goal", "length", "word"] (ah sF):=L2.zQ
theorem yq {ys:Ys}{f:Addr}{fd:FuncData}(F:zH K "__init__" "Letter.__init__" sF f fd)(Y:fU K ys):zg P w K mg base aD 1 f fd ["self", "start", "goal", "length", "word"] (rQ ys.zh):=by
 refine F.ok K7 (fun _ _ _ _ h=>?_) (fun _ _ _ s H _ Q E hr h=>?_)
 ·obtain⟨x,dx,a,b,l,u,rfl,_⟩:=h
  rfl
 ·obtain⟨x,dx,a,b,l,u,rfl,hx,q⟩:=h
  refine⟨_,af (bz (pv 0) (pv 1) rfl) (af (bz (pv 0) (pv 2) rfl) (af (bz (pv 0) (pv 3) rfl) (af (bz (pv 0) (pv 4) rfl) (af (bz (pv 0) aj rfl) (ai (bz (pv 0) (aP ad) rfl)))))),?_⟩
  refine⟨_,rfl,_,rfl,x,ys.zh,dx,_,rfl,hx,Y.ct,Y.t1,by show 0 < 1000;decide,?_⟩
  refine⟨_,rfl,_,rfl,x,ys.zh,dx,_,rfl,ac,Y.ct,Y.t2,by show 1 < 1000;decide,?_⟩
  refine⟨_,rfl,_,rfl,x,ys.zh,dx,_,rfl,ac,Y.ct,Y.t3,by show 2 < 1000;decide,?_⟩
  refine⟨_,rfl,_,rfl,x,ys.zh,dx,_,rfl,ac,Y.ct,Y.t4,by show 3 < 1000;decide,?_⟩
  refine⟨_,rfl,x,ys.zh,dx,_,rfl,ac,Y.ct,Y.t5,by show 4 < 1000;decide,?_⟩
  refine⟨zero_le _,fun wa Dn=>?_⟩
  have EF:x ≠ wa:=ag ac Dn
  refine⟨_,rfl,x,ys.zh,dx,_,rfl,by rw[ae EF];exact ac,Y.ct,Y.t6,by show 5 < 1000;decide,?_⟩
  have K8:H wa=none:=by
   rw[ae (Ne.symm EF),ae (Ne.symm EF),ae (Ne.symm EF),ae (Ne.symm EF),ae (Ne.symm EF)]at Dn
   exact Dn
  refine q wa _ K8 (fun z o nz e=>?_) ac (by rw[ae (Ne.symm EF)];exact ac)
  have nzw:z ≠ wa:=ag e K8
  rw[ae nz,ae nzw,ae nz,ae nz,ae nz,ae nz,ae nz]
  exact e
noncomputable def vI:V->Int
 | .int i=>i
 | _=>0
noncomputable def n8 (v:V):bC:=⟨vI v,0,none,[]⟩
noncomputable def Y0 (rooms:List V)(n:Nat):YS:=⟨rooms,rooms.map n8,[],List.replicate n [],[]⟩
noncomputable def Bm (H0 H:Hp)(C:Addr)(v:V)(s:bC):Prop:=∃ x dx pa,v = .ref x/\zF H C x dx pa s.r s.b s.h [] []/\s.qs=[]/\H0 x=none/\H0 pa=none
theorem Bm.same {H0 H H':Hp}{C:Addr}{v:V}{s:bC}(h:Bm H0 H C v s)(e:zf H H'):Bm H0 H' C v s:=by
 obtain⟨x,dx,pa,h1,h2,h3⟩:=h
 exact⟨x,dx,pa,h1,h2.same e,h3⟩
noncomputable def zY (y:Addr)(ex:List Addr)(H:Hp)(C:Addr)(v:V)(s:bC):Prop:=∃ x dx pa,v = .ref x/\zF H C x dx pa s.r s.b s.h [] []/\s.qs=[]/\x ≠ y/\pa ≠ y/\pa ∉ ex
theorem Bm.KA {H0 H:Hp}{C y:Addr}{v:V}{s:bC}{u:HO}(h:Bm H0 H C v s){ex:List Addr}(hy:H0 y=some u)(hx:∀ b ∈ ex,∃ o,H0 b=some o):zY y ex H C v s:=by
 obtain⟨x,dx,pa,h1,h2,h3,h4,h5⟩:=h
 exact⟨x,dx,pa,h1,h2,h3,(fun z=>by rw[z,hy]at h4;cases h4),(fun z=>by rw[z,hy]at h5;cases h5),fun z=>by obtain⟨o,ho⟩:=hx _ z;rw[h5]at ho;cases ho⟩
theorem zY.same {y:Addr}{ex:List Addr}{H H':Hp}{C:Addr}{v:V}{s:bC}(h:zY y ex H C v s)(e:zf H H'):zY y ex H' C v s:=by
 obtain⟨x,dx,pa,h1,h2,h3⟩:=h
 exact⟨x,dx,pa,h1,h2.same e,h3⟩
theorem zY.upd {y:Addr}{ex:List Addr}{H:Hp}{C:Addr}{v:V}{s:bC}{o:HO}(h:zY y ex H C v s):zY y ex (upd H y o) C v s:=by
 obtain⟨x,dx,pa,h1,h2,h3,h4,h5,h6⟩:=h
 exact⟨x,dx,pa,h1,⟨by rw[ae h4];exact h2.ins,by rw[ae h5];exact h2.lst, .nil⟩,h3,h4,h5,h6⟩
theorem zY.new {y a:Addr}{ex:List Addr}{H:Hp}{C:Addr}{v:V}{s:bC}{o:HO}(h:zY y ex H C v s)(ha:H a=none):zY y (a :: ex) (L2.upd H a o) C v s:=by
 obtain⟨x,dx,pa,h1,h2,h3,h4,h5,h6⟩:=h
 exact⟨x,dx,pa,h1,h2.same ((zf.refl H).new ha),h3,h4,h5,fun z=>(mem_cons.mp z).elim (fun z=>by rw[z]at h2;rw[h2.lst]at ha;cases ha) h6⟩
theorem zY.KC {y:Addr}{ex Ii:List Addr}{H:Hp}{C:Addr}{v:V}{s:bC}(h:zY y ex H C v s)(hs:∀ a ∈ Ii,a ∈ ex):B4 H C Ii v s:=by
 obtain⟨x,dx,pa,h1,h2,h3,h4,h5,h6⟩:=h
 exact⟨x,dx,pa,[],h1,by rw[h3];exact h2,fun z=>h6 (hs _ z)⟩
theorem oW {K:Frag}{ro C:Addr}{zA:List V}{g:TG}{te:TE}{σ0:St}{H:Hp}{Q:VK}(hn:zA.length < sizeLine)(ha:zt K H ro zA)(hint:∀ v ∈ zA,∃ r,v = .int r)
  (hs:∀ (r:Int)(H1:Hp)(N:V->Hp->Prop),zf H H1->(∀ x dx pa H2,H1 x=none->H1 pa=none->zf H1 H2->zF H2 C x dx pa r 0 none [] []->N (.ref x) H2)->g (.int r) σ0 H1 fun σ2 H2=>te σ2 H2 N)
  (hq:∀ D vs H1,zf H H1->H1 D=none->Paired (Bm H H1 C) vs (zA.map n8)->Q (.ref D) (upd H1 D (.lst vs))):c9 (Jp K ro) g lN te σ0 Q H:=by
 refine bM zA.length hn (fun i acc H'=>zf H H'/\Paired (Bm H H' C) acc ((zA.take i).map n8)) ⟨zf.refl _, .nil⟩ (fun i acc H' h=>by have:=Paired.length h.2;rw[this,length_map];exact length_take_le _ _) (fun i acc H' hi h=>?_) (fun acc H' h=>?_)
 ·obtain⟨s,hL⟩:=h
  refine⟨⟨zA,zA[i],bI s ha,by simp[hi]⟩,fun v H2 y=>?_⟩
  obtain⟨e,y⟩:=y
  subst e
  have hv:=y _ (bI s ha)
  obtain⟨r,rfl⟩:=hint v (mem_of_getElem? hv)
  refine hs r H2 (fun y H4=>zf H H4/\Paired (Bm H H4 C) (acc ++ [y]) ((zA.take (i + 1)).map n8)) s fun x dx pa H3 nx EG s3 DP=>⟨s.trans s3,?_⟩
  rw[take_succ,hv,Option.toList_some,map_append]
  exact Paired.snoc (b:=n8 (.int r)) ⟨x,dx,pa,rfl,DP,rfl,s.free nx,s.free EG⟩ (Paired.mono (fun _ _ z=>z.same s3) hL)
 ·obtain⟨s,hL⟩:=h
  rw[take_length]at hL
  exact⟨⟨zA,bI s ha,Nat.le_refl _⟩,fun D hD=>hq D acc H' s hD hL⟩
theorem rk {n:Nat}{g:TG}{te:TE}{σ0:St}{H:Hp}{Q:VK}(hn:n <= 1000)
  (hs:∀ (i:Nat)(H1:Hp)(N:V->Hp->Prop),zf H H1->(∀ t,H1 t=none->N (.ref t) (upd H1 t (.tup [])))->g (.int (0 + i)) σ0 H1 fun σ2 H2=>te σ2 H2 N)
  (hq:∀ D vs H1,zf H H1->H1 D=none->Paired (AG H1) vs (List.replicate n [])->Q (.ref D) (upd H1 D (.lst vs))):c9 (uJ 0 n) g lN te σ0 Q H:=by
 refine bM n (by rw[sizeLine_eq];omega) (fun i acc H'=>zf H H'/\Paired (AG H') acc (List.replicate i [])) ⟨zf.refl _, .nil⟩ (fun i acc H' h=>by have:=Paired.length h.2;rw[this,length_replicate];exact Nat.le_refl _) (fun i acc H' hi h=>?_) (fun acc H' h=>?_)
 ·obtain⟨s,hL⟩:=h
  refine⟨hi,fun v H2 y=>?_⟩
  obtain⟨e1,e2⟩:=y
  subst e1 e2
  refine hs i H2 (fun y H4=>zf H H4/\Paired (AG H4) (acc ++ [y]) (List.replicate (i + 1) [])) s fun t ht=>⟨s.new ht,?_⟩
  rw[List.replicate_succ']
  exact Paired.snoc ⟨t,[],rfl,ac, .nil⟩ (Paired.mono (fun _ _ z=>z.keep (zf.zC ((zf.refl H2).new ht))) hL)
 ·obtain⟨s,hL⟩:=h
  exact⟨Nat.le_refl n,fun D hD=>hq D acc H' s hD hL⟩
theorem fK {K:Frag}{H:Hp}{a y C d:Addr}{fs:Fs}{o:HO}{xs:List V}(hy:H y=some (.ins C d fs))(h:zt K H a xs):zt K (upd H y o) a xs:=by
 rcases h with h | h
 ·refine .inl ?_
  rcases h with h | ⟨u,h⟩
  ·exact .inl (by rw[ae (b8 h hy (by intro z;cases z))];exact h)
  ·exact .inr ⟨u,by rw[ae (b8 h hy (by intro z;cases z))];exact h⟩
 ·exact .inr h
theorem uP {K:Frag}{H:Hp}{a y C d:Addr}{fs:Fs}{o:HO}{xs:List V}(hy:H y=some (.ins C d fs))(h:zj K H a xs):zj K (upd H y o) a xs:=by
 rcases h with h | h
 ·refine .inl ?_
  rcases h with h | ⟨u,h⟩
  ·exact .inl (by rw[ae (b8 h hy (by intro z;cases z))];exact h)
  ·exact .inr ⟨u,by rw[ae (b8 h hy (by intro z;cases z))];exact h⟩
 ·exact .inr h
noncomputable def lP (K:Frag)(c:Cs)(TC:Addr)(J:TJ)(ys:Ys)(nr:Addr):Sp:=fun vs H Q E=>∃ (y dy tb lx zX lt:Addr)(n:Nat)(zw:List V)(ps:List (Int × Int))(wy:Wf)(rv:V)(zA:List V),vs=[.ref y, .ref tb,rv]/\H y=some (.ins ys.zi dy [])/\An c TC J H tb lx zX lt n zw ps wy/\(∀ b ∈ ys.ex,∃ xs,H b=some (.lst xs)) /\
 ((rv = .zD/\zA=List.replicate ps.length (.int 1))∨(∃ ra,rv = .ref ra/\Sq K H ra zA/\zA.length <= 1000/\(∀ v ∈ zA,rm v)/\(pP ps.length zA=false->∀ H',zo [y] H H'->E (.ref nr) none H'))) /\
 (pP ps.length zA=true->∀ (ro la le li dn:Addr)(H':Hp),zo [y] H H'->H la=none->H le=none->H li=none->H dn=none->zu K ys H' y dy tb ro la le li dn (Y0 zA n)->Q .zD H')
noncomputable def KD (s:Stmt):Scope:=match s with
 | .Assign _ (.ListComp _ _ sc _) _=>sc
 | _=>zQ0
theorem je {v:V}{a b:Int}(h:k9 v a b=true):∃ r,v = .int r:=by
 cases v<;>first | exact⟨_,rfl⟩ | cases h
theorem Qh:ao ["self", "table", "rooms"] ["self", "table", "rooms"] (ah iu):=L2.zQ
theorem KG:As ["self", "table", "rooms"] (ah iu) (KD ((aG iu).getD 2 (.Pass ⟨0,0,0,0⟩))) [] []:=L2.Bs
theorem KH:As ["self", "table", "rooms"] (ah iu) (KD ((aG iu).getD 4 (.Pass ⟨0,0,0,0⟩))) [] []:=L2.Bs
theorem KI:(["place"]:List Str).Nodup:=by decide +kernel
theorem yf {c:Cs}{ys:Ys}{J:TJ}{TC f NG fr fl nr:Addr}{fd NH dr dl:FuncData}(F:Dh K "__init__" "Yard.__init__" iu f fd)(T:eW mg)(L:nu K c)(Y:fU K ys)(W:Wy K TC NG NH J)
  (mr:mg "rooms_of" = some (.ref fr)) (kr:keepIn K (.ref fr)=true) (br:Binds K dr ["land", "rooms"] []) (Gr:zg P w K mg base (e7 P w) 3 fr dr ["land", "rooms"] (p6 K c nr))
  (ml:mg "Lane" = some (.ref ys.zI)) (Ml:Mk K ys.zI fl) (bl:Binds K dl ["self", "room"] []) (Gl:zg P w K mg base aD 1 fl dl ["self", "room"] (rR ys.zI)) :
  zg P w K mg base (e7 P w) 4 f fd ["self", "table", "rooms"] (lP K c TC J ys nr):=by
 refine F.Ei Qh (fun _ _ _ _ h=>?_) (fun _ _ _ s H _ Q E hr h=>?_)
 ·obtain⟨y,dy,tb,lx,zX,lt,n,zw,ps,wy,rv,zA,rfl,_⟩:=h
  rfl
 ·obtain⟨y,dy,tb,lx,zX,lt,n,zw,ps,wy,rv,zA,rfl,hy,hT,hex,hrv,q⟩:=h
  have F9:∀ b ∈ ys.ex,b ∉ [y]:=fun b hb z=>by obtain⟨xs,hz⟩:=hex b hb;rw[mem_singleton.mp z,hy]at hz;cases hz
  have Ai:zm 2 _:=hr.mono (by decide)
  refine⟨_,af (bz (pv 0) (pv 1) rfl)
   (af (bz (pv 0) (ls (ay Gr hr rfl mr kr br .nil (Bk.passes aR rfl) (aa (al (pv 1) rfl) (aa (pv 2) ad)))) rfl)
   (af (bz (pv 0) (aT (own:=["room"]) (capN:=[]) (cap:=[]) KG rfl (j7 (al (pv 0) rfl)) (fun C s' H' fp=>⟨av (i:=0) K3 rfl (Or.inl rfl),ck,eE Ml Gl Ai rfl ml bl .nil ap (aa (pv 0) ad)⟩)) rfl)
   (af (bz (pv 0) (aP ad) rfl)
   (af (bz (pv 0) (aT (own:=["place"]) (capN:=[]) (cap:=[]) KH rfl (aX rfl T.range (aa (al (al (pv 1) rfl) rfl) ad)) (fun C s' H' fp=>⟨av (i:=0) KI rfl (Or.inl rfl),ck,bS ad⟩)) rfl)
   (ai (bz (pv 0) (aP ad) rfl)))))),?_⟩
  have hm40:=hT.Ao
  have Qi:=hT.K6
  obtain⟨Bf,fst,AJ,zM,_⟩:=hT.i
  have kp:∀ {H':Hp},zo [y] H H'->zG H H':=fun o=>o.F8 fun b hb=>by rw[mem_singleton.mp hb];exact⟨_,hy,id⟩
  have Qj:tb ≠ y:=b8 AJ hy (fun z=>by injection z with _ _ z3;rw[z3]at zM;cases zM)
  refine⟨_,rfl,_,rfl,y,ys.zi,dy,_,rfl,hy,Y.cl,Y.n1,by show 0 < 1000;decide,?_⟩
  have o1:zo [y] H (upd H y (.ins ys.zi dy (aK "table" (.ref tb) []))):=fun b o nb e=>by rw[ae (fun z=>nb (by rw[z];exact mem_singleton.mpr rfl))];exact e
  have g1:(upd H y (.ins ys.zi dy (aK "table" (.ref tb) []))) y=some (.ins ys.zi dy [("table", .ref tb)]):=ac
  have Vb:∀ ra,Sq K H ra zA->Sq K (upd H y (.ins ys.zi dy (aK "table" (.ref tb) []))) ra zA:=fun ra h=>h.elim (fun h => .inl (uP hy h)) fun h => .inr (fK hy h)
  show _
  generalize upd H y (.ins ys.zi dy (aK "table" (.ref tb) []))=A1 at o1 g1 Vb ⊢
  have hT1:=hT.keep W (kp o1)
  have IE:∀ {Ha Hb:Hp}{o:HO},zo [y] Ha Hb->zo [y] Ha (upd Hb y o):=fun {Ha Hb o} h b u nb e=>by rw[ae (fun z=>nb (by rw[z];exact mem_singleton.mpr rfl))];exact h b u nb e
  refine⟨fun v A2=>∃ ro,v = .ref ro/\zf A1 A2/\zt K A2 ro zA/\pP ps.length zA=true,?_,?_⟩
  ·refine⟨_,rfl,tb,TC,Bf,fst,_,rfl,o1 _ _ (fun z=>Qj (mem_singleton.mp z)) AJ,W.cl,W.nl,zM,_,rfl,lx,zX,lt,(n:Int),zw,ps,rv,rfl,hT1.l,by omega,?_⟩
   rcases hrv with ⟨rfl,rfl⟩ | ⟨ra,rfl,hR,Em,Hh,qE⟩
   ·refine .inl ⟨rfl,fun t A2 s2 ht=>⟨t,rfl,s2,zt.of ht,?_⟩⟩
    unfold pP
    rw[length_replicate,decide_eq_true rfl,Bool.true_and,all_eq_true]
    intro v hv
    rw[eq_of_mem_replicate hv];rfl
   ·have hR1:Sq K A1 ra zA:=Vb ra hR
    exact .inr ⟨ra,zA,rfl,hR1,Em,Hh,fun zp A2 s2=>qE zp A2 (o1.trans (zf.zS s2)),fun zp t A2 s2 ht=>⟨t,rfl,s2,ht,zp⟩⟩
  rintro v A2 ⟨ro,rfl,s2,ID,zp⟩
  have Ci:zA.length=ps.length/\∀ v ∈ zA,∃ r,v = .int r:=by
   unfold pP at zp
   rw[Bool.and_eq_true,decide_eq_true_eq,all_eq_true]at zp
   exact⟨zp.1,fun v hv=>je (zp.2 v hv)⟩
  have o2:zo [y] H A2:=o1.trans (zf.zS s2)
  have g2:=s2 _ _ g1
  refine⟨_,rfl,y,ys.zi,dy,_,rfl,g2,Y.cl,Y.n2,by show 1 < 1000;decide,?_⟩
  have o3:=IE (o := .ins ys.zi dy (aK "rooms" (.ref ro) [("table", .ref tb)])) o2
  have g3:(upd A2 y (.ins ys.zi dy (aK "rooms" (.ref ro) [("table", .ref tb)]))) y=some (.ins ys.zi dy [("table", .ref tb),("rooms", .ref ro)]):=ac
  have EH:zt K (upd A2 y (.ins ys.zi dy (aK "rooms" (.ref ro) [("table", .ref tb)]))) ro zA:=fK g2 ID
  show _
  generalize upd A2 y (.ins ys.zi dy (aK "rooms" (.ref ro) [("table", .ref tb)]))=A3 at o3 g3 EH ⊢
  have Qk:∀ b ∈ ys.ex,∃ o,A3 b=some o:=fun b hb=>let ⟨xs,hz⟩:=hex b hb; ⟨_,o3 b _ (F9 b hb) hz⟩
  refine⟨_,rfl,y,ys.zi,dy,_,_,rfl,g3,Y.cl,Y.n2,rfl,ro,rfl,⟨_,EH⟩,?_⟩
  refine oW (C:=ys.zI) (by rw[sizeLine_eq];omega) EH Ci.2 (fun r B N sB hN=>?_) (fun la zv A4 s4 Ap EI=>?_)
  ·refine⟨_,rfl,fun x dx nx KJ F9=>⟨x,dx,r,rfl,ac,fun pa B2 Dj off hL=>⟨rfl,?_⟩⟩⟩
   have Cq:B pa=none:=by
    by_cases e1:pa=x
    ·rw[e1,ac]at Dj;cases Dj
    ·by_cases e2:pa=dx
     ·rw[e2,ae F9,ac]at Dj;cases Dj
     ·rw[ae e1,ae e2]at Dj;exact Dj
   refine hN x dx pa B2 nx Cq (fun b o e=>off b o (ag e nx) ?_) hL
   rw[ae (ag e nx),ae (ag e KJ)]
   exact e
  have o4:zo [y] H A4:=o3.trans (zf.zS s4)
  have g4:=s4 _ _ g3
  have FA:la ≠ y:=Ne.symm (ag g4 Ap)
  have la0:H la=none:=by
   cases e:H la with
   | none=>rfl
   | some u=>rw[o4 _ _ (fun z=>FA (mem_singleton.mp z)) e]at Ap;cases Ap
  have Vc:Paired (zY y (la :: ys.ex) (upd A4 la (.lst zv)) ys.zI) zv (zA.map n8):=Paired.mono (fun _ _ z=>(z.KA g3 Qk).new Ap) EI
  have o5:zo [y] H (upd A4 la (.lst zv)):=o4.trans (zf.zS ((zf.refl A4).new Ap))
  have g5:(upd A4 la (.lst zv)) y=some (.ins ys.zi dy [("table", .ref tb),("rooms", .ref ro)]):=by rw[ae (Ne.symm FA)];exact g4
  have KL:(upd A4 la (.lst zv)) la=some (.lst zv):=ac
  have KN:zt K (upd A4 la (.lst zv)) ro zA:=bI ((zf.refl A4).new Ap) (bI s4 EH)
  refine⟨_,rfl,y,ys.zi,dy,_,rfl,g5,Y.cl,Y.n3,by show 2 < 1000;decide,?_⟩
  generalize upd A4 la (.lst zv)=A5 at Vc o5 g5 KL KN ⊢
  have Vd:Paired (zY y (la :: ys.ex) (upd A5 y (.ins ys.zi dy (aK "lanes" (.ref la) [("table", .ref tb),("rooms", .ref ro)]))) ys.zI) zv (zA.map n8):=Paired.mono (fun _ _ z=>z.upd) Vc
  have o6:=IE (o := .ins ys.zi dy (aK "lanes" (.ref la) [("table", .ref tb),("rooms", .ref ro)])) o5
  have g6:(upd A5 y (.ins ys.zi dy (aK "lanes" (.ref la) [("table", .ref tb),("rooms", .ref ro)]))) y=some (.ins ys.zi dy [("table", .ref tb),("rooms", .ref ro),("lanes", .ref la)]):=ac
  have Hi:(upd A5 y (.ins ys.zi dy (aK "lanes" (.ref la) [("table", .ref tb),("rooms", .ref ro)]))) la=some (.lst zv):=by rw[ae FA];exact KL
  have KO:=fK (o := .ins ys.zi dy (aK "lanes" (.ref la) [("table", .ref tb),("rooms", .ref ro)])) g5 KN
  generalize upd A5 y (.ins ys.zi dy (aK "lanes" (.ref la) [("table", .ref tb),("rooms", .ref ro)]))=A6 at Vd o6 g6 Hi KO ⊢
  refine⟨zero_le _,fun le hle=>?_⟩
  have Hj:le ≠ y:=Ne.symm (ag g6 hle)
  have FC:la ≠ le:=ag Hi hle
  have le0:H le=none:=by
   cases e:H le with
   | none=>rfl
   | some u=>rw[o6 _ _ (fun z=>Hj (mem_singleton.mp z)) e]at hle;cases hle
  have Ve:Paired (zY y (le :: la :: ys.ex) (upd A6 le (.lst [])) ys.zI) zv (zA.map n8):=Paired.mono (fun _ _ z=>z.new hle) Vd
  have o7:zo [y] H (upd A6 le (.lst [])):=o6.trans (zf.zS ((zf.refl A6).new hle))
  have g7:(upd A6 le (.lst [])) y=some (.ins ys.zi dy [("table", .ref tb),("rooms", .ref ro),("lanes", .ref la)]):=by rw[ae (Ne.symm Hj)];exact g6
  have KP:(upd A6 le (.lst [])) la=some (.lst zv):=by rw[ae FC];exact Hi
  have KQ:(upd A6 le (.lst [])) le=some (.lst []):=ac
  have KR:zt K (upd A6 le (.lst [])) ro zA:=bI ((zf.refl A6).new hle) KO
  refine⟨_,rfl,y,ys.zi,dy,_,rfl,g7,Y.cl,Y.n4,by show 3 < 1000;decide,?_⟩
  generalize upd A6 le (.lst [])=A7 at Ve o7 g7 KP KQ KR ⊢
  have Vf:Paired (zY y (le :: la :: ys.ex) (upd A7 y (.ins ys.zi dy (aK "letters" (.ref le) [("table", .ref tb),("rooms", .ref ro),("lanes", .ref la)]))) ys.zI) zv (zA.map n8):=Paired.mono (fun _ _ z=>z.upd) Ve
  have o8:=IE (o := .ins ys.zi dy (aK "letters" (.ref le) [("table", .ref tb),("rooms", .ref ro),("lanes", .ref la)])) o7
  have g8:(upd A7 y (.ins ys.zi dy (aK "letters" (.ref le) [("table", .ref tb),("rooms", .ref ro),("lanes", .ref la)]))) y=some (.ins ys.zi dy [("table", .ref tb),("rooms", .ref ro),("lanes", .ref la),("letters", .ref le)]):=ac
  have Hk:(upd A7 y (.ins ys.zi dy (aK "letters" (.ref le) [("table", .ref tb),("rooms", .ref ro),("lanes", .ref la)]))) la=some (.lst zv):=by rw[ae FA];exact KP
  have Hl:(upd A7 y (.ins ys.zi dy (aK "letters" (.ref le) [("table", .ref tb),("rooms", .ref ro),("lanes", .ref la)]))) le=some (.lst []):=by rw[ae Hj];exact KQ
  have KS:=fK (o := .ins ys.zi dy (aK "letters" (.ref le) [("table", .ref tb),("rooms", .ref ro),("lanes", .ref la)])) g7 KR
  generalize upd A7 y (.ins ys.zi dy (aK "letters" (.ref le) [("table", .ref tb),("rooms", .ref ro),("lanes", .ref la)]))=A8 at Vf o8 g8 Hk Hl KS ⊢
  have hT8:=hT.keep W (kp o8)
  refine⟨_,rfl,tb,TC,Bf,fst,_,rfl,o8 _ _ (fun z=>Qj (mem_singleton.mp z)) AJ,W.cl,W.nl,zM,lx,c.land,zX,_,_,rfl,hT8.l.1,L.cl,L.np,rfl,(n:Int),rfl,by omega,by omega,?_⟩
  rw[toNat_natCast]
  refine rk (by omega) (fun i B N sB hN=>⟨zero_le _,fun t ht=>hN t ht⟩) (fun li Dp A9 s9 BE hLi=>?_)
  have g9:=s9 _ _ g8
  have o9:zo [y] H A9:=o8.trans (zf.zS s9)
  have KU:li ≠ y:=Ne.symm (ag g9 BE)
  have KW:la ≠ li:=ag (s9 _ _ Hk) BE
  have KY:le ≠ li:=ag (s9 _ _ Hl) BE
  have li0:H li=none:=by
   cases e:H li with
   | none=>rfl
   | some u=>rw[o9 _ _ (fun z=>KU (mem_singleton.mp z)) e]at BE;cases BE
  have IF:=(zf.refl A9).new (o := .lst Dp) BE
  have KZ:Paired (zY y (li :: le :: la :: ys.ex) (upd A9 li (.lst Dp)) ys.zI) zv (zA.map n8):=Paired.mono (fun _ _ z=>(z.same s9).new BE) Vf
  have FD:Paired (AG (upd A9 li (.lst Dp))) Dp (List.replicate n []):=Paired.mono (fun _ _ z=>z.keep (zf.zC IF)) hLi
  have FE:(upd A9 li (.lst Dp)) li=some (.lst Dp):=ac
  have Vg:zo [y] H (upd A9 li (.lst Dp)):=o9.trans (zf.zS IF)
  have NJ:=IF _ _ g9
  have FF:=IF _ _ (s9 _ _ Hk)
  have FG:=IF _ _ (s9 _ _ Hl)
  have FH:=bI IF (bI s9 KS)
  refine⟨_,rfl,y,ys.zi,dy,_,rfl,NJ,Y.cl,Y.n5,by show 4 < 1000;decide,?_⟩
  generalize upd A9 li (.lst Dp)=Hm at KZ FD FE Vg NJ FF FG FH ⊢
  have La:∀ {B:Hp}{o:HO}{C d:Addr}{fs:Fs}{v:V}{qs:List (Int × Int)},B y=some (.ins C d fs)->AG B v qs->AG (upd B y o) v qs:=fun {B o C d fs v qs} hB h=>by
   obtain⟨t,ws,e,h1,h2⟩:=h
   exact⟨t,ws,e,by rw[ae (b8 h1 hB (by intro z;cases z))];exact h1,zN.imp (fun _ _ zk=>by obtain⟨t',e',q'⟩:=zk;exact⟨t',e',by rw[ae (b8 q' hB (by intro z;cases z))];exact q'⟩) h2⟩
  have Lb:Paired (zY y (li :: le :: la :: ys.ex) (upd Hm y (.ins ys.zi dy (aK "lies" (.ref li) [("table", .ref tb),("rooms", .ref ro),("lanes", .ref la),("letters", .ref le)]))) ys.zI) zv (zA.map n8):=Paired.mono (fun _ _ z=>z.upd) KZ
  have FI:Paired (AG (upd Hm y (.ins ys.zi dy (aK "lies" (.ref li) [("table", .ref tb),("rooms", .ref ro),("lanes", .ref la),("letters", .ref le)])))) Dp (List.replicate n []):=Paired.mono (fun _ _ z=>La NJ z) FD
  have NK:=IE (o := .ins ys.zi dy (aK "lies" (.ref li) [("table", .ref tb),("rooms", .ref ro),("lanes", .ref la),("letters", .ref le)])) Vg
  have Ql:(upd Hm y (.ins ys.zi dy (aK "lies" (.ref li) [("table", .ref tb),("rooms", .ref ro),("lanes", .ref la),("letters", .ref le)]))) y=some (.ins ys.zi dy [("table", .ref tb),("rooms", .ref ro),("lanes", .ref la),("letters", .ref le),("lies", .ref li)]):=ac
  have DR:(upd Hm y (.ins ys.zi dy (aK "lies" (.ref li) [("table", .ref tb),("rooms", .ref ro),("lanes", .ref la),("letters", .ref le)]))) la=some (.lst zv):=by rw[ae FA];exact FF
  have DS:(upd Hm y (.ins ys.zi dy (aK "lies" (.ref li) [("table", .ref tb),("rooms", .ref ro),("lanes", .ref la),("letters", .ref le)]))) le=some (.lst []):=by rw[ae Hj];exact FG
  have DT:(upd Hm y (.ins ys.zi dy (aK "lies" (.ref li) [("table", .ref tb),("rooms", .ref ro),("lanes", .ref la),("letters", .ref le)]))) li=some (.lst Dp):=by rw[ae KU];exact FE
  have FJ:=fK (o := .ins ys.zi dy (aK "lies" (.ref li) [("table", .ref tb),("rooms", .ref ro),("lanes", .ref la),("letters", .ref le)])) NJ FH
  generalize upd Hm y (.ins ys.zi dy (aK "lies" (.ref li) [("table", .ref tb),("rooms", .ref ro),("lanes", .ref la),("letters", .ref le)]))=A11 at Lb FI NK Ql DR DS DT FJ ⊢
  refine⟨zero_le _,fun dn AR=>?_⟩
  have NM:dn ≠ y:=Ne.symm (ag Ql AR)
  have Lc:la ≠ dn:=ag DR AR
  have Ld:le ≠ dn:=ag DS AR
  have Le:li ≠ dn:=ag DT AR
  have dn0:H dn=none:=by
   cases e:H dn with
   | none=>rfl
   | some u=>rw[NK _ _ (fun z=>NM (mem_singleton.mp z)) e]at AR;cases AR
  have FK:=(zf.refl A11).new (o := .lst []) AR
  have Qm:=FK _ _ Ql
  refine⟨_,rfl,y,ys.zi,dy,_,rfl,Qm,Y.cl,Y.n6,by show 5 < 1000;decide,?_⟩
  refine q zp ro la le li dn _ (IE (NK.trans (zf.zS FK))) la0 le0 li0 dn0 ⟨ac,fK Qm (bI FK FJ),⟨zv,by rw[ae FA];exact FK _ _ DR,?_⟩,⟨[],by rw[ae Hj];exact FK _ _ DS, .nil⟩,⟨Dp,by rw[ae KU];exact FK _ _ DT,Paired.mono (fun _ _ z=>La Qm (z.keep (zf.zC FK))) FI⟩,⟨[],by rw[ae NM];exact ac, .nil⟩,?_,(fun b hb=>let ⟨xs,hz⟩:=hex b hb; ⟨xs,(IE (NK.trans (zf.zS FK))) b _ (F9 b hb) hz⟩)⟩
  ·refine Paired.mono (fun _ _ z=>((z.new AR).upd).KC fun a ha=>?_) Lb
   simp only[mem_cons]at ha ⊢
   rcases ha with rfl | rfl | rfl | rfl | h
   ·exact .inr (.inr (.inr (.inl rfl)))
   ·exact .inr (.inr (.inl rfl))
   ·exact .inr (.inl rfl)
   ·exact .inl rfl
   ·exact .inr (.inr (.inr (.inr h)))
  ·simp only[nodup_cons,mem_cons,not_mem_nil,or_false,not_or,not_false_eq_true,and_true,nodup_nil]
   exact⟨⟨FC,KW,Lc⟩,⟨KY,Ld⟩,Le⟩
theorem zu.off {K:Frag}{ys:Ys}{H H':Hp}{y dy tb ro la le li dn:Addr}{s:YS}(h:zu K ys H y dy tb ro la le li dn s)(o:zo (la :: le :: li :: dn :: ys.ex) H H'):H' y=some (.ins ys.zi dy (ND tb ro la le li dn))/\zt K H' ro s.rooms/\(∀ vs ss,Paired (B4 H ys.zI (la :: le :: li :: dn :: ys.ex)) vs ss->Paired (B4 H' ys.zI (la :: le :: li :: dn :: ys.ex)) vs ss)/\(∀ vs ss,Paired (BV H ys.zh (la :: le :: li :: dn :: ys.ex)) vs ss->Paired (BV H' ys.zh (la :: le :: li :: dn :: ys.ex)) vs ss)/\(∀ vs ss,Paired (AG H) vs ss->Paired (AG H') vs ss)/\∀ vs ss,Paired (AQ H) vs ss->Paired (AQ H') vs ss:=by
 have hx:=h.CP
 have k:=o.zC hx
 refine⟨k _ _ h.ins True.intro,?_,fun vs ss=>Paired.mono fun _ _ z=>z.zS hx o,fun vs ss=>Paired.mono fun _ _ z=>z.zS hx o,fun vs ss=>Paired.mono fun _ _ z=>z.keep k,fun vs ss=>Paired.mono fun _ _ z=>z.keep k⟩
 rcases h.ID with r | r
 ·refine .inl ?_
  rcases r with r | ⟨u,r⟩
  ·exact .inl (k _ _ r True.intro)
  ·exact .inr ⟨u,k _ _ r True.intro⟩
 ·exact .inr r
theorem c6 {ex:List Addr}{a:Addr}{H:Hp}{o:HO}(ha:a ∈ ex):zo ex H (upd H a o):=fun b u nb e=>by rw[ae (fun z=>nb (by rw[z];exact ha))];exact e
theorem qh {H:Hp}{x b:Addr}{zs:List V}(h:∃ xs,H b=some (.lst xs)):∃ xs,(upd H x (.lst zs)) b=some (.lst xs):=by
 by_cases e:b=x
 ·exact⟨zs,by rw[e,ac]⟩
 ·obtain⟨xs,hz⟩:=h
  exact⟨xs,by rw[ae e];exact hz⟩
theorem zu.Lf {K:Frag}{ys:Ys}{H:Hp}{y dy tb ro la le li dn:Addr}{s:YS}(h:zu K ys H y dy tb ro la le li dn s){vs:List V}{v:V}{t:aU}(hv:H le=some (.lst vs))(hL:BV H ys.zh (la :: le :: li :: dn :: ys.ex) v t):zu K ys (upd H le (.lst (vs ++ [v]))) y dy tb ro la le li dn { s with U:=s.U ++ [t] }:=by
 obtain⟨h1,h2,f1,f2,f3,f4⟩:=h.off (c6 (a:=le) (o := .lst (vs ++ [v])) (by simp))
 obtain⟨v1,a1,p1⟩:=h.Ap
 obtain⟨v2,a2,p2⟩:=h.hle
 obtain⟨v3,a3,p3⟩:=h.BE
 obtain⟨v4,a4,p4⟩:=h.AR
 rw[hv]at a2
 cases a2
 have ne:=h.ne
 simp only[nodup_cons,mem_cons,not_mem_nil,or_false,not_or,not_false_eq_true,and_true,nodup_nil]at ne
 have Qn:Paired (BV (upd H le (.lst (vs ++ [v]))) ys.zh (la :: le :: li :: dn :: ys.ex)) [v] [t]:=f2 [v] [t] (.cons hL .nil)
 exact⟨h1,h2,⟨v1,by rw[ae ne.1.1];exact a1,f1 _ _ p1⟩,⟨vs ++ [v],ac,Paired.snoc (by cases Qn with | cons z _=>exact z) (f2 _ _ p2)⟩,⟨v3,by rw[ae (Ne.symm ne.2.1.1)];exact a3,f3 _ _ p3⟩,⟨v4,by rw[ae (Ne.symm ne.2.1.2)];exact a4,f4 _ _ p4⟩,h.ne,fun b hb=>qh (h.hex b hb)⟩
theorem zu.FL {K:Frag}{ys:Ys}{H:Hp}{y dy tb ro la le li dn:Addr}{s:YS}(h:zu K ys H y dy tb ro la le li dn s){vs:List V}{v:V}{t:List V}(hv:H dn=some (.lst vs))(hL:AQ H v t):zu K ys (upd H dn (.lst (vs ++ [v]))) y dy tb ro la le li dn { s with done:=s.done ++ [t] }:=by
 obtain⟨h1,h2,f1,f2,f3,f4⟩:=h.off (c6 (a:=dn) (o := .lst (vs ++ [v])) (by simp))
 obtain⟨v1,a1,p1⟩:=h.Ap
 obtain⟨v2,a2,p2⟩:=h.hle
 obtain⟨v3,a3,p3⟩:=h.BE
 obtain⟨v4,a4,p4⟩:=h.AR
 rw[hv]at a4
 cases a4
 have ne:=h.ne
 simp only[nodup_cons,mem_cons,not_mem_nil,or_false,not_or,not_false_eq_true,and_true,nodup_nil]at ne
 have Qn:Paired (AQ (upd H dn (.lst (vs ++ [v])))) [v] [t]:=f4 [v] [t] (.cons hL .nil)
 exact⟨h1,h2,⟨v1,by rw[ae ne.1.2.2];exact a1,f1 _ _ p1⟩,⟨v2,by rw[ae ne.2.1.2];exact a2,f2 _ _ p2⟩,⟨v3,by rw[ae ne.2.2];exact a3,f3 _ _ p3⟩,⟨vs ++ [v],ac,Paired.snoc (by cases Qn with | cons z _=>exact z) (f4 _ _ p4)⟩,h.ne,fun b hb=>qh (h.hex b hb)⟩
inductive Pd
 | place | length | word | way | full | good
noncomputable def lw (n:Nat)(wy:Wf)(m:Nat)(sv gv lv wv:V):Pd :=
 if (k9 sv 0 ((n:Int) - 1) && k9 gv 0 ((n:Int) - 1))=false then .place else if k9 lv 1 60=false then .length else if IC wv=false then .word
 else if vI sv=vI gv∨wy (vI sv).toNat (vI gv).toNat none=[] then .way else if 60 <= m then .full else .good
structure Xs where
 place:Addr
 length:Addr
 word:Addr
 way:Addr
 full:Addr
noncomputable def dP (s:YS)(a b l u:Int):YS:={ s with U:=s.U ++ [⟨a,b,l,u,0,[]⟩],done:=s.done ++ [[.str "post", .int a, .int b, .int l, .int u]] }
noncomputable def nR (K:Frag)(c:Cs)(TC:Addr)(J:TJ)(ys:Ys)(x:Xs):Sp:=fun vs H Q E=>∃ (y dy tb ro la le li dn lx zX lt:Addr)(n:Nat)(zw:List V)(ps:List (Int × Int))(wy:Wf)(s:YS)(sv gv lv wv:V),vs=[.ref y,sv,gv,lv,wv]/\zu K ys H y dy tb ro la le li dn s/\An c TC J H tb lx zX lt n zw ps wy/\rm sv/\rm gv/\rm lv/\rm wv/\s.U.length <= 900/\s.done.length <= 10000 /\
 (lw n wy s.U.length sv gv lv wv = .place->∀ H',zf H H'->E (.ref x.place) none H') /\
 (lw n wy s.U.length sv gv lv wv = .length->∀ H',zf H H'->E (.ref x.length) none H') /\
 (lw n wy s.U.length sv gv lv wv = .word->∀ H',zf H H'->E (.ref x.word) none H') /\
 (lw n wy s.U.length sv gv lv wv = .way->∀ H' d,zf H H'->H' d=some (.xd [("start",sv),("goal",gv)])->E (.ref x.way) (some d) H') /\
 (lw n wy s.U.length sv gv lv wv = .full->∀ H',zf H H'->E (.ref x.full) none H') /\
 (lw n wy s.U.length sv gv lv wv = .good->∀ H',zo [le,dn] H H'->zu K ys H' y dy tb ro la le li dn (dP s (vI sv) (vI gv) (vI lv) (vI wv))->Q (.int s.U.length) H')
structure Vh (K:Frag)(mg:Str->Option Value)(C f:Addr)(d:FuncData):Prop where
 m:mg "NoWay" = some (.ref C)
 x:bE K C (some (.ref f))=true
 k:keepIn K (.ref C)=true
 c:gs K C
 n1:findIn K (.ref C) "start" = some none
 n2:findIn K (.ref C) "goal" = some none
 i:isFn K (.ref f)=true
 F:zH K "__init__" "NoWay.__init__" uY f d
 b:Binds K d ["self", "start", "goal"] []
noncomputable abbrev NPo:List Str:=["self", "start", "goal", "length", "word", "last_place"]
noncomputable abbrev Lg:List Str:=["self", "start", "goal", "length", "word"]
theorem Lh:ao NPo Lg (ah gX):=L2.zQ
theorem v5 {c:Cs}{ys:Ys}{x:Xs}{J:TJ}{TC f NG fw Qo fl Vi:Addr}{fd NH dw Vj dl Vk:FuncData}{t1 t2:Tok}(F:Dh K "post" "Yard.post" gX f fd)(T:eW mg)(L:nu K c)(Y:fU K ys)(W:Wy K TC NG NH J)(Hn:zg P w K mg base aD 3 NG NH ["self", "place", "goal", "came"] (fM J))
  (mw:mg "is_within" = some (.ref fw)) (kw:keepIn K (.ref fw)=true) (bw:Binds K dw ["value", "least", "most"] []) (Gw:zg P w K mg base aD 2 fw dw ["value", "least", "most"] fL)
  (mwo:mg "is_word" = some (.ref Qo)) (kwo:keepIn K (.ref Qo)=true) (bwo:Binds K Vj ["word"] []) (Qp:zg P w K mg base aD 2 Qo Vj ["word"] rG)
  (ml:mg "Letter" = some (.ref ys.zh)) (Ml:Mk K ys.zh fl) (bl:Binds K dl ["self", "start", "goal", "length", "word"] []) (Gl:zg P w K mg base aD 1 fl dl ["self", "start", "goal", "length", "word"] (rQ ys.zh))
  (mL:mg "MOST_LENGTH" = some (.int 60 t1)) (mM:mg "MOST_LETTERS" = some (.int 60 t2)) (X1:uK K mg "NoPlace" x.place) (X2:uK K mg "NoLength" x.length) (X3:uK K mg "NoWord" x.word) (X4:Vh K mg x.way Vi Vk) (X5:uK K mg "Full" x.full) :
  zg P w K mg base (e7 P w) 4 f fd Lg (nR K c TC J ys x):=by
 have Gnw:zg P w K mg base aD 1 Vi Vk ["self", "start", "goal"] (wD K "start" "goal"):=K5 X4.F
 refine F.Ei Lh (fun _ _ _ _ h=>?_) (fun _ _ _ s H _ Q E hr h=>?_)
 ·obtain⟨y,dy,tb,ro,la,le,li,dn,lx,zX,lt,n,zw,ps,wy,s,sv,gv,lv,wv,rfl,_⟩:=h
  rfl
 ·obtain⟨y,dy,tb,ro,la,le,li,dn,lx,zX,lt,n,zw,ps,wy,st,sv,gv,lv,wv,rfl,hY,hT,cs,cg,cl,cw,hl9,hd9,e1,e2,e3,e4,e5,q⟩:=h
  have Ai:zm 2 _:=hr.mono (by decide)
  refine⟨_,af (az (i:=5) Lh.nd rfl (Or.inl rfl) (aB eG (al (al (al (pv 0) rfl) rfl) rfl) aj))
   (af (aM (PW.pt (hG (cr (bQ (ay Gw Ai rfl mw kw bw .nil ap (aa (pv 1) (aa aj (aa (pv 5) ad)))))) (eA (cr (bQ (ay Gw Ai rfl mw kw bw .nil ap (aa (pv 2) (aa aj (aa (pv 5) ad)))))))))
    (ai (bJ rfl X1.x aR (cj X1.x X1.k rfl rfl X1.m (aa bG ad)))) aF)
   (af (aM (cr (bQ (ay Gw Ai rfl mw kw bw .nil ap (aa (pv 3) (aa aj (aa (fO (v := .int 60) rfl mL ⟨_,rfl⟩) ad))))))
    (ai (bJ rfl X2.x aR (cj X2.x X2.k rfl rfl X2.m (aa bG ad)))) aF)
   (af (aM (cr (bQ (ay Qp Ai rfl mwo kwo bwo .nil ap (aa (pv 4) ad))))
    (ai (bJ rfl X3.x aR (cj X3.x X3.k rfl rfl X3.m (aa bG ad)))) aF)
   (af (aM (jc (PW.pt (hG (au bK (pv 1) (pv 2) (ax _)) (eA (cr (fA (aC (al (pv 0) rfl) W.cl W.m Hn hr W.b .nil ap (aa (pv 1) (aa (pv 2) (aa ce ad)))) (fun _=>rfl)))))))
    (ai (bJ rfl X4.x aR (jb X4.x X4.i X4.k Gnw Ai X4.b rfl X4.m (aa (pv 1) (aa (pv 2) ad))))) aF)
   (af (aM (au wP (aw aq rfl T.len PySem.boot_len (aa (al (pv 0) rfl) ad)) (fO (v := .int 60) rfl mM ⟨_,rfl⟩) (ax _))
    (ai (bJ rfl X5.x aR (cj X5.x X5.k rfl rfl X5.m (aa bG ad)))) aF)
   (af (aN (cv plainAttrs_list PySem.F.slot_list_append PySem.F.type_list_append bD (al (pv 0) rfl) (aa (eE Ml Gl Ai rfl ml bl .nil ap (aa (pv 1) (aa (pv 2) (aa (pv 3) (aa (pv 4) ad))))) ad)))
   (af (aN (cv plainAttrs_list PySem.F.slot_list_append PySem.F.type_list_append bD (al (pv 0) rfl) (aa (bS (aa bG (aa (pv 1) (aa (pv 2) (aa (pv 3) (aa (pv 4) ad)))))) ad)))
   (ai (ar (aB eG (aw aq rfl T.len PySem.boot_len (aa (al (pv 0) rfl) ad)) aj)))))))))),?_⟩
  obtain⟨Bf,fst,AJ,zM,Af⟩:=hT.i
  unfold lw at e1 e2 e3 e4 e5 q
  refine⟨_,rfl,y,ys.zi,dy,_,_,rfl,hY.ins,Y.cl,Y.n1,rfl,tb,TC,Bf,fst,_,rfl,AJ,W.cl,W.nl,zM,lx,c.land,zX,_,_,rfl,hT.l.1,L.cl,L.np,rfl,_,_,rfl,rfl,?_⟩
  refine⟨_,rfl,_,rfl,sv,0,(n:Int) - 1,rfl,cs,_,rfl,?_⟩
  cases h1:k9 sv 0 ((n:Int) - 1) with
  | false =>
   refine aJ (aJ ⟨by show 1 <= sizeLine;decide,?_⟩)
   exact e1 (by rw[h1,Bool.false_and,if_pos rfl]) H (zf.refl H)
  | true =>
  refine aI ⟨_,rfl,_,rfl,gv,0,(n:Int) - 1,rfl,cg,_,rfl,?_⟩
  cases h2:k9 gv 0 ((n:Int) - 1) with
  | false =>
   refine aJ ⟨by show 1 <= sizeLine;decide,?_⟩
   exact e1 (by rw[h1,h2,Bool.and_false,if_pos rfl]) H (zf.refl H)
  | true =>
  rw[h1,h2,Bool.true_and,if_neg (by decide)]at e2 e3 e4 e5 q
  refine aI ⟨_,rfl,lv,1,60,rfl,cl,_,rfl,?_⟩
  cases h3:k9 lv 1 60 with
  | false =>
   refine aJ ⟨by show 1 <= sizeLine;decide,?_⟩
   exact e2 (by rw[h3,if_pos rfl]) H (zf.refl H)
  | true =>
  rw[h3,if_neg (by decide)]at e3 e4 e5 q
  refine aI ⟨_,rfl,wv,rfl,cw,_,rfl,?_⟩
  cases h4:IC wv with
  | false =>
   refine aJ ⟨by show 1 <= sizeLine;decide,?_⟩
   exact e3 (by rw[h4,if_pos rfl]) H (zf.refl H)
  | true =>
  rw[h4,if_neg (by decide)]at e4 e5 q
  refine aI ?_
  obtain⟨a,rfl⟩:=je h1
  obtain⟨b,rfl⟩:=je h2
  obtain⟨l,rfl⟩:=je h3
  obtain⟨u,rfl⟩:∃ u,wv = .int u:=by
   cases wv<;>first | exact⟨_,rfl⟩ | cases h4
  have ha:0 <= a/\a <= (n:Int) - 1:=of_decide_eq_true h1
  have hb:0 <= b/\b <= (n:Int) - 1:=of_decide_eq_true h2
  obtain⟨a',rfl⟩:∃ a':Nat,a=(a':Int):=⟨a.toNat,by omega⟩
  obtain⟨b',rfl⟩:∃ b':Nat,b=(b':Int):=⟨b.toNat,by omega⟩
  have ev:∀ z:Int,vI (.int z)=z:=fun _=>rfl
  rw[ev,ev,toNat_natCast,toNat_natCast]at e4 e5 q
  refine⟨fun k H1=>zf H H1/\k=decide ((a':Int)=(b':Int)∨wy a' b' none=[]),?_,?_⟩
  ·refine⟨_,rfl,_,rfl,rfl,_,rfl,?_⟩
   rw[bY]
   by_cases Ho:(a':Int)=(b':Int)
   ·rw[decide_eq_true Ho]
    exact aJ ⟨zf.refl H,by rw[decide_eq_true (Or.inl Ho)]⟩
   ·rw[decide_eq_false Ho]
    refine aI ⟨_,rfl,y,ys.zi,dy,_,_,rfl,hY.ins,Y.cl,Y.n1,rfl,tb,Bf,fst,rfl,AJ,Af,_,rfl,_,rfl,tb,n,wy,a',b',none,rfl,hT.j,by omega,by omega,fun D H1 s1 hD gD=>⟨_, .inl ⟨_,zj.of gD,rfl⟩,s1,?_⟩⟩
    cases hw:wy a' b' none with
    | nil=>rw[decide_eq_true (Or.inr rfl)];rfl
    | cons z zs=>rw[decide_eq_false (fun z=>z.elim Ho fun z=>by cases z)];rfl
  rintro k H1 ⟨s1,rfl⟩
  have Bg:=hY.same s1
  by_cases EJ:(a':Int)=(b':Int)∨wy a' b' none=[]
  ·rw[decide_eq_true EJ]
   refine aJ ⟨_,rfl,_,rfl,by show 2 <= sizeLine;decide,fun e tt he=>⟨e,_,tt,_,_,rfl,ac,X4.c,X4.n1,X4.n2,fun d H2 hd off Ej hd2=>⟨rfl,some d,Ej,?_⟩⟩⟩
   have IA:d ≠ e:=fun z=>by rw[z,ac]at hd;cases hd
   refine e4 (by rw[if_pos EJ]) _ d (fun z o ez=>?_) (by rw[dG IA];exact hd2)
   have Qq:z ≠ e:=ag (s1 _ _ ez) he
   rw[dG Qq]
   exact off z o Qq (by rw[ae Qq];exact s1 _ _ ez)
  rw[decide_eq_false EJ]
  rw[if_neg EJ]at e5 q
  refine aI ?_
  obtain⟨Dq,Av,pl⟩:=Bg.hle
  have BA:Dq.length=st.U.length:=Paired.length pl
  refine⟨_,rfl,y,ys.zi,dy,_,_,rfl,Bg.ins,Y.cl,Y.n4,rfl,le,_,rfl, .inl (zj.of Av),_,_,rfl,rfl,_,rfl,?_⟩
  by_cases FN:60 <= st.U.length
  ·rw[decide_eq_true (show (60:Int) <= (Dq.length:Nat) by omega)]
   refine aJ ⟨by show 1 <= sizeLine;decide,?_⟩
   exact e5 (by rw[if_pos FN]) H1 s1
  rw[decide_eq_false (show ¬ (60:Int) <= (Dq.length:Nat) by omega)]
  rw[if_neg FN]at q
  refine aI ?_
  refine⟨_,rfl,y,ys.zi,dy,_,_,rfl,Bg.ins,Y.cl,Y.n4,rfl, .inl ⟨rfl,_,zj.of Av⟩,_,rfl,_,rfl,_,rfl,_,rfl,fun xl By nx KJ F9=>⟨xl,By,(a':Int),(b':Int),l,u,rfl,ac,fun wa H2 Dn off El FO=>⟨rfl,?_⟩⟩⟩
  have IG:zf H1 H2:=fun z o ez=>off z o (ag ez nx) (by rw[ae (ag ez nx),ae (ag ez KJ)];exact ez)
  have Qr:H1 wa=none:=by
   by_cases z1:wa=xl
   ·rw[z1,ac]at Dn;cases Dn
   ·by_cases z2:wa=By
    ·rw[z2,ae F9,ac]at Dn;cases Dn
    ·rw[ae z1,ae z2]at Dn;exact Dn
  have BF:=Bg.same IG
  have Li:=IG _ _ Av
  have hlv:BV H2 ys.zh (la :: le :: li :: dn :: ys.ex) (.ref xl) ⟨(a':Int),(b':Int),l,u,0,[]⟩:=⟨xl,By,wa,rfl,El,FO,fun z=>by obtain⟨xs,hz⟩:=Bg.CP wa z;rw[Qr]at hz;cases hz⟩
  refine⟨le,_,_,rfl,rfl,Li,by rw[sizeLine_eq];omega,?_⟩
  have B5:=BF.Lf Li hlv
  have o3:zo [le,dn] H (upd H2 le (.lst (Dq ++ [.ref xl]))):=(zf.zS (s1.trans IG)).trans (c6 (by simp))
  generalize upd H2 le (.lst (Dq ++ [.ref xl]))=H3 at B5 o3 ⊢
  obtain⟨zP,IH,pd⟩:=B5.AR
  have Cu:zP.length=st.done.length:=Paired.length pd
  refine⟨_,rfl,y,ys.zi,dy,_,_,rfl,B5.ins,Y.cl,Y.n6,rfl, .inl ⟨rfl,_,zj.of IH⟩,_,rfl,_,rfl,_,rfl,_,rfl,by show 5 <= sizeLine;decide,fun t ht=>?_⟩
  have NN:=(zf.refl H3).new (o := .tup [.str "post", .int (a':Int), .int (b':Int), .int l, .int u]) ht
  have Vl:(upd H3 t (.tup [.str "post", .int (a':Int), .int (b':Int), .int l, .int u])) t=some (.tup [.str "post", .int (a':Int), .int (b':Int), .int l, .int u]):=ac
  generalize upd H3 t (.tup [.str "post", .int (a':Int), .int (b':Int), .int l, .int u])=H4 at NN Vl ⊢
  have Lj:=B5.same NN
  have Lk:=NN _ _ IH
  refine⟨dn,_,_,rfl,rfl,Lk,by rw[sizeLine_eq];omega,?_⟩
  have En:=Lj.FL Lk ⟨t,rfl,Vl⟩
  have o5:zo [le,dn] H (upd H4 dn (.lst (zP ++ [.ref t]))):=(o3.trans (zf.zS NN)).trans (c6 (by simp))
  generalize upd H4 dn (.lst (zP ++ [.ref t]))=H5 at En o5 ⊢
  obtain⟨Vm,Qs,pl5⟩:=En.hle
  have hl5:Vm.length=st.U.length + 1:=by rw[Paired.length pl5,length_append];rfl
  refine⟨_,rfl,y,ys.zi,dy,_,_,rfl,En.ins,Y.cl,Y.n4,rfl,le,_,rfl, .inl (zj.of Qs),_,_,rfl,rfl,?_⟩
  have er:((Vm.length:Nat):Int) - 1=(st.U.length:Int):=by omega
  dsimp only
  rw[er]
  exact q rfl H5 o5 En
theorem kK {K:Frag}{a:Addr}{xs:List V}{g:TG}{te:TE}{σ0:St}{H:Hp}{Q:VK}(f:Nat->V)(hn:xs.length < sizeLine)(ha:zj K H a xs)
  (hs:∀ (i:Nat)(x:V)(N:V->Hp->Prop),xs[i]? = some x->N (f i) H->g x σ0 H fun σ2 H2=>te σ2 H2 N)
  (hq:∀ D,H D=none->Q (.ref D) (upd H D (.lst ((List.range xs.length).map f)))):c9 (rp K a) g lN te σ0 Q H:=by
 refine bM xs.length hn (fun i acc H'=>H' = H/\acc=(List.range i).map f) ⟨rfl,rfl⟩ (fun i acc H' h=>by rw[h.2,length_map,length_range];exact Nat.le_refl _) (fun i acc H' hi h=>?_) (fun acc H' h=>?_)
 ·obtain⟨rfl,rfl⟩:=h
  refine⟨⟨xs,xs[i],ha,by simp[hi]⟩,fun v H2 y=>?_⟩
  obtain⟨e,y⟩:=y
  subst e
  exact hs i v (fun y H4=>H4=H2/\(List.range i).map f ++ [y]=(List.range (i + 1)).map f) (y xs ha) ⟨rfl,by rw[range_succ,map_append];rfl⟩
 ·obtain⟨rfl,rfl⟩:=h
  exact⟨⟨xs,ha,Nat.le_refl _⟩,hq⟩
theorem j4 {α β:Type}(xs:List α)(d:α)(f:α->β):(List.range xs.length).map (fun i=>f (xs.getD i d))=xs.map f:=by
 refine List.ext_getElem (by simp) fun i h1 h2=>?_
 simp only[getElem_map,List.getElem_range]
 rw[getD_eq_getElem?_getD,getElem?_eq_getElem (by simpa using h2)];rfl
noncomputable def Qt (K:Frag):List V->Hp->VK->Prop:=fun xs H Q=>∃ (p:Addr)(ys:List V),xs=[.ref p]/\(zj K H p ys∨zt K H p ys)/\Q (.int (ys.length:Nat)) H
noncomputable def gL (K:Frag)(ys:Ys):Sp:=fun vs H Q _=>∃ (y dy tb ro la le li dn:Addr)(s:YS)(k:Nat)(ln:bC),vs=[.ref y, .int k]/\zu K ys H y dy tb ro la le li dn s/\s.lanes[k]? = some ln/\∀ (t ql:Addr)(zB:List V)(H':Hp),zf H H'->H ql=none->H' t=some (.tup [.int ln.r, .int ln.b,hV ln.h, .ref ql])->H' ql=some (.lst zB)->zN H' zB ln.qs->Q (.ref t) H'
noncomputable def lb (K:Frag)(ys:Ys):Sp:=fun vs H Q _=>∃ (y dy tb ro la le li dn:Addr)(s:YS)(k:Nat)(lt:aU),vs=[.ref y, .int k]/\zu K ys H y dy tb ro la le li dn s/\s.U[k]? = some lt/\∀ (t:Addr)(H':Hp),zf H H'->H' t=some (.tup [.int lt.start, .int lt.goal, .int lt.len, .int lt.word])->Q (.ref t) H'
noncomputable def rH (K:Frag)(ys:Ys):Sp:=fun vs H Q _=>∃ (y dy tb ro la le li dn:Addr)(s:YS)(k:Nat)(lt:aU),vs=[.ref y, .int k]/\zu K ys H y dy tb ro la le li dn s/\s.U[k]? = some lt/\∀ (t:Addr)(H':Hp),zf H H'->H t=none->H' t=some (.lst (nV lt.way))->Q (.ref t) H'
noncomputable def jp (K:Frag)(ys:Ys):Sp:=fun vs H Q _=>∃ (y dy tb ro la le li dn:Addr)(s:YS),vs=[.ref y]/\zu K ys H y dy tb ro la le li dn s/\Q (.int s.U.length) H
theorem Qu:ao ["self", "lane"] ["self", "lane"] (ah ot):=L2.zQ
theorem tG {ys:Ys}{f ft:Addr}{fd dt:FuncData}(F:zH K "lane_told" "Yard.lane_told" ot f fd)(Y:fU K ys)(mt:bA K ys.zI "told" ft)(bt:Binds K dt ["self"] [])(Gt:zg P w K mg base aD 1 ft dt ["self"] (wM ys.zI)) :
  zg P w K mg base aD 2 f fd ["self", "lane"] (gL K ys):=by
 refine F.ok Qu (fun _ _ _ _ h=>?_) (fun _ _ _ s H _ Q E hr h=>?_)
 ·obtain⟨y,dy,tb,ro,la,le,li,dn,st,k,ln,rfl,_⟩:=h
  rfl
 ·obtain⟨y,dy,tb,ro,la,le,li,dn,st,k,ln,rfl,hY,hk,q⟩:=h
  refine⟨_,ai (ar (b7 (aA aQ (al (pv 0) rfl) (pv 1) (fun _ _=>rfl)) Y.L.cl mt Gt hr bt .nil ap)),?_⟩
  obtain⟨zv,Ac,pl⟩:=hY.Ap
  obtain⟨v,hv,x,dx,pa,zB,rfl,hL,_⟩:=Paired.at2 pl hk
  refine⟨_,rfl,y,ys.zi,dy,_,_,rfl,hY.ins,Y.cl,Y.n3,rfl,_,rfl,la,zv,(k:Int),_,rfl,rfl,zj.of Ac,ak hv,x,dx,_,rfl,hL.ins,rfl,?_⟩
  exact⟨x,dx,pa,ln.r,ln.b,ln.h,zB,ln.qs,rfl,hL,fun t ql H' s' DQ gt Eo=>q t ql zB H' s' DQ gt Eo (zN.same s' hL.Au)⟩
theorem Ll:ao ["self", "number", "letter"] ["self", "number"] (ah sE):=L2.zQ
theorem vH {ys:Ys}{f:Addr}{fd:FuncData}(F:zH K "letter_told" "Yard.letter_told" sE f fd)(Y:fU K ys):zg P w K mg base aD 1 f fd ["self", "number"] (lb K ys):=by
 refine F.ok Ll (fun _ _ _ _ h=>?_) (fun _ _ _ s H _ Q E hr h=>?_)
 ·obtain⟨y,dy,tb,ro,la,le,li,dn,st,k,ln,rfl,_⟩:=h
  rfl
 ·obtain⟨y,dy,tb,ro,la,le,li,dn,st,k,lt,rfl,hY,hk,q⟩:=h
  refine⟨_,af (az (i:=2) Ll.nd rfl (Or.inl rfl) (aA aQ (al (pv 0) rfl) (pv 1) (fun _ _=>rfl))) (ai (ar (bS (aa (al (pv 2) rfl) (aa (al (pv 2) rfl) (aa (al (pv 2) rfl) (aa (al (pv 2) rfl) ad))))))),?_⟩
  obtain⟨zw,Av,pl⟩:=hY.hle
  obtain⟨v,hv,x,dx,wa,rfl,hx,_⟩:=Paired.at2 pl hk
  refine⟨_,rfl,y,ys.zi,dy,_,_,rfl,hY.ins,Y.cl,Y.n4,rfl,_,rfl,le,zw,(k:Int),_,rfl,rfl,zj.of Av,ak hv,?_⟩
  refine⟨_,rfl,x,ys.zh,dx,_,_,rfl,hx,Y.ct,Y.t1,rfl,_,rfl,x,ys.zh,dx,_,_,rfl,hx,Y.ct,Y.t2,rfl,_,rfl,x,ys.zh,dx,_,_,rfl,hx,Y.ct,Y.t3,rfl,_,rfl,x,ys.zh,dx,_,_,rfl,hx,Y.ct,Y.t4,rfl,by show 4 <= sizeLine;decide,fun t ht=>?_⟩
  exact q t _ ((zf.refl H).new ht) ac
theorem Qv:ao ["self", "number"] ["self", "number"] (ah sk):=L2.zQ
theorem vt {ys:Ys}{f:Addr}{fd:FuncData}(F:zH K "way_told" "Yard.way_told" sk f fd)(T:eW mg)(Y:fU K ys):zg P w K mg base aD 1 f fd ["self", "number"] (rH K ys):=by
 refine F.ok Qv (fun _ _ _ _ h=>?_) (fun _ _ _ s H _ Q E hr h=>?_)
 ·obtain⟨y,dy,tb,ro,la,le,li,dn,st,k,ln,rfl,_⟩:=h
  rfl
 ·obtain⟨y,dy,tb,ro,la,le,li,dn,st,k,lt,rfl,hY,hk,q⟩:=h
  refine⟨_,ai (ar (aY bU rfl T.list PySem.Pv.boot_list (aa (al (aA aQ (al (pv 0) rfl) (pv 1) (fun _ _=>rfl)) rfl) ad))),?_⟩
  obtain⟨zw,Av,pl⟩:=hY.hle
  obtain⟨v,hv,x,dx,wa,rfl,hx,hw,_⟩:=Paired.at2 pl hk
  refine⟨_,rfl,y,ys.zi,dy,_,_,rfl,hY.ins,Y.cl,Y.n4,rfl,_,rfl,le,zw,(k:Int),_,rfl,rfl,zj.of Av,ak hv,x,ys.zh,dx,_,_,rfl,hx,Y.ct,Y.t6,rfl,wa,_,rfl, .inl (zj.of hw),fun t ht=>?_⟩
  exact q t _ ((zf.refl H).new ht) ht ac
theorem Qw:ao ["self"] ["self"] (ah ll):=L2.zQ
theorem qP {ys:Ys}{f:Addr}{fd:FuncData}(F:zH K "posted" "Yard.posted" ll f fd)(T:eW mg)(Y:fU K ys):zg P w K mg base aD 1 f fd ["self"] (jp K ys):=by
 refine F.ok Qw (fun _ _ _ _ h=>?_) (fun _ _ _ s H _ Q E hr h=>?_)
 ·obtain⟨y,dy,tb,ro,la,le,li,dn,st,rfl,_⟩:=h
  rfl
 ·obtain⟨y,dy,tb,ro,la,le,li,dn,st,rfl,hY,q⟩:=h
  refine⟨_,ai (ar (aw aq rfl T.len PySem.boot_len (aa (al (pv 0) rfl) ad))),?_⟩
  obtain⟨zw,Av,pl⟩:=hY.hle
  refine⟨_,rfl,y,ys.zi,dy,_,_,rfl,hY.ins,Y.cl,Y.n4,rfl,le,_,rfl, .inl (zj.of Av),?_⟩
  rw[Paired.length pl]
  exact q
theorem oY {K:Frag}{T:Addr}{o:Obj}{n:Nat}{kV doc pm cdv ct:Value}{an:Option Addr}(ho:K.lookup T=some o)(hs:o.data = .seq #[Value.none] n) :
  Binds K (fnOf "__init__" "Yard.__init__" (bB iu) (aG iu) (ah iu) (.ref T) kV doc pm an cdv ct) ["self", "table", "rooms"] []:=fun s us BY hl=>by
 have hl:us.length=3:=by rw[append_nil]at hl;exact hl
 obtain⟨a,us0,rfl,NO⟩:=L2.Fi hl
 obtain⟨b,us1,rfl,II⟩:=L2.Fi NO
 obtain⟨c,us2,rfl,DE⟩:=L2.Fi II
 obtain rfl:=List.eq_nil_of_length_eq_zero DE
 exact BindsTo.of_defaults rfl (BY _ _ ho) hs rfl rfl
theorem nj {K:Frag}{T:Addr}{o:Obj}{n:Nat}{tk:Tok}{kV doc pm cdv ct:Value}{an:Option Addr}(ho:K.lookup T=some o)(hs:o.data = .seq #[Value.int 0 tk] n) :
  Binds K (fnOf "post" "Yard.post" (bB gX) (aG gX) (ah gX) (.ref T) kV doc pm an cdv ct) Lg []:=fun s us BY hl=>by
 have hl:us.length=5:=by rw[append_nil]at hl;exact hl
 obtain⟨a,us0,rfl,NO⟩:=L2.Fi hl
 obtain⟨b,us1,rfl,II⟩:=L2.Fi NO
 obtain⟨c,us2,rfl,DE⟩:=L2.Fi II
 obtain⟨d,us3,rfl,hl3⟩:=L2.Fi DE
 obtain⟨e,us4,rfl,NP⟩:=L2.Fi hl3
 obtain rfl:=List.eq_nil_of_length_eq_zero NP
 exact BindsTo.of_defaults rfl (BY _ _ ho) hs rfl rfl
noncomputable def wL (C:Addr):Sp:=fun vs H Q _=>∃ (x dx pa:Addr)(r b:Int)(h:Option Int)(zB:List V)(qs:List (Int × Int)),vs=[.ref x]/\zF H C x dx pa r b h zB qs/\∀ (x' CY D3:Addr)(H':Hp),zf H H'->H x' = none->H D3 = none->zF H' C x' CY D3 r b h zB qs->Q (.ref x') H'
noncomputable def wK (C:Addr):Sp:=fun vs H Q _=>∃ (x dx wa:Addr)(s:aU),vs=[.ref x]/\H x=some (.ins C dx (oJ s wa))/\H wa=some (.lst (nV s.way))/\∀ (x' CY CQ:Addr)(H':Hp),zf H H'->H x' = none->H CQ = none->H' x' = some (.ins C CY (oJ s CQ))->H' CQ = some (.lst (nV s.way))->Q (.ref x') H'
theorem FP:ao ["self", "other"] ["self"] (ah xI):=L2.zQ
theorem yr {C f fl:Addr}{fd dl:FuncData}(F:zH K "twin" "Lane.twin" xI f fd)(T:eW mg)(L:wz K C)(ml:mg "Lane" = some (.ref C))(Ml:Mk K C fl)(bl:Binds K dl ["self", "room"] [])(Gl:zg P w K mg base aD 1 fl dl ["self", "room"] (rR C)) :
  zg P w K mg base aD 3 f fd ["self"] (wL C):=by
 refine F.ok FP (fun _ _ _ _ h=>?_) (fun _ _ _ s H _ Q E hr h=>?_)
 ·obtain⟨x,dx,pa,r,b,h,zB,qs,rfl,_⟩:=h
  rfl
 ·obtain⟨x,dx,pa,r,b,h,zB,qs,rfl,hL,q⟩:=h
  refine⟨_,af (az (i:=1) FP.nd rfl (Or.inl rfl) (eE Ml Gl hr rfl ml bl .nil ap (aa (al (pv 0) rfl) ad)))
   (af (bz (pv 1) (al (pv 0) rfl) rfl)
   (af (bz (pv 1) (al (pv 0) rfl) rfl)
   (af (bz (pv 1) (aY bU rfl T.list PySem.Pv.boot_list (aa (al (pv 0) rfl) ad)) rfl)
   (ai (ar (pv 1)))))),?_⟩
  refine⟨_,rfl,x,C,dx,_,_,rfl,hL.ins,L.cl,L.n1,rfl,fun x' d' nx nd ne=>⟨x',d',r,rfl,ac,fun Hq H1 EE off Hr=>⟨rfl,?_⟩⟩⟩
  have s1:zf H H1:=fun z o ez=>off z o (ag ez nx) (by rw[ae (ag ez nx),ae (ag ez nd)];exact ez)
  have hi1:=Hr.ins
  clear EE off Hr
  refine⟨_,rfl,x,C,dx,_,_,rfl,s1 _ _ hL.ins,L.cl,L.n2,rfl,_,rfl,x',C,d',_,rfl,hi1,L.cl,L.n2,by show 4 < 1000;decide,?_⟩
  have o2:∀ o',zf H (upd H1 x' o'):=fun o' z o ez=>by rw[ae (ag ez nx)];exact s1 _ _ ez
  refine⟨_,rfl,x,C,dx,_,_,rfl,o2 _ _ _ hL.ins,L.cl,L.n3,rfl,_,rfl,x',C,d',_,rfl,ac,L.cl,L.n3,by show 4 < 1000;decide,?_⟩
  have o3:∀ o' Vn,zf H (upd (upd H1 x' o') x' Vn):=fun o' Vn z o ez=>by rw[ae (ag ez nx)];exact o2 _ _ _ ez
  have s3:=o3 (.ins C d' (aK "returning" (.int b) (iQ r 0 (hV none) Hq))) (.ins C d' (aK "holder" (hV h) (aK "returning" (.int b) (iQ r 0 (hV none) Hq))))
  have Hs:(upd (upd H1 x' (.ins C d' (aK "returning" (.int b) (iQ r 0 (hV none) Hq)))) x' (.ins C d' (aK "holder" (hV h) (aK "returning" (.int b) (iQ r 0 (hV none) Hq))))) x' = some (.ins C d' (iQ r b (hV h) Hq)):=ac
  generalize upd (upd H1 x' (.ins C d' (aK "returning" (.int b) (iQ r 0 (hV none) Hq)))) x' (.ins C d' (aK "holder" (hV h) (aK "returning" (.int b) (iQ r 0 (hV none) Hq))))=H3 at s3 Hs ⊢
  refine⟨_,rfl,x,C,dx,_,_,rfl,s3 _ _ hL.ins,L.cl,L.n4,rfl,pa,_,rfl, .inl (zj.of (s3 _ _ hL.lst)),fun D3 Ht=>?_⟩
  have Dj:H D3 = none:=by
   cases e:H D3 with
   | none=>rfl
   | some o=>rw[s3 _ _ e]at Ht;cases Ht
  have Lm:x' ≠ D3:=ag Hs Ht
  refine⟨_,rfl,x',C,d',_,rfl,by rw[ae Lm];exact Hs,L.cl,L.n4,by show 4 < 1000;decide,_,rfl,?_⟩
  have s4:∀ o',zf H (upd (upd H3 D3 (.lst zB)) x' o'):=fun o' z o ez=>by rw[ae (ag ez nx),ae (ag ez Dj)];exact s3 _ _ ez
  exact q x' d' D3 _ (s4 _) nx Dj ⟨ac,by rw[ae (Ne.symm Lm)];exact ac,zN.same (s4 _) hL.Au⟩
theorem FQ:ao ["self", "other"] ["self"] (ah sD):=L2.zQ
theorem yp {ys:Ys}{f fl:Addr}{fd dl:FuncData}(F:zH K "twin" "Letter.twin" sD f fd)(T:eW mg)(Y:fU K ys)(ml:mg "Letter" = some (.ref ys.zh))(Ml:Mk K ys.zh fl)(bl:Binds K dl ["self", "start", "goal", "length", "word"] [])(Gl:zg P w K mg base aD 1 fl dl ["self", "start", "goal", "length", "word"] (rQ ys.zh)) :
  zg P w K mg base aD 3 f fd ["self"] (wK ys.zh):=by
 refine F.ok FQ (fun _ _ _ _ h=>?_) (fun _ _ _ s H _ Q E hr h=>?_)
 ·obtain⟨x,dx,wa,s,rfl,_⟩:=h
  rfl
 ·obtain⟨x,dx,wa,t,rfl,hx,hw,q⟩:=h
  refine⟨_,af (az (i:=1) FQ.nd rfl (Or.inl rfl) (eE Ml Gl hr rfl ml bl .nil ap (aa (al (pv 0) rfl) (aa (al (pv 0) rfl) (aa (al (pv 0) rfl) (aa (al (pv 0) rfl) ad))))))
   (af (bz (pv 1) (al (pv 0) rfl) rfl)
   (af (bz (pv 1) (aY bU rfl T.list PySem.Pv.boot_list (aa (al (pv 0) rfl) ad)) rfl)
   (ai (ar (pv 1))))),?_⟩
  refine⟨_,rfl,x,ys.zh,dx,_,_,rfl,hx,Y.ct,Y.t1,rfl,_,rfl,x,ys.zh,dx,_,_,rfl,hx,Y.ct,Y.t2,rfl,_,rfl,x,ys.zh,dx,_,_,rfl,hx,Y.ct,Y.t3,rfl,_,rfl,x,ys.zh,dx,_,_,rfl,hx,Y.ct,Y.t4,rfl,fun x' d' nx nd ne=>⟨x',d',t.start,t.goal,t.len,t.word,rfl,ac,fun w0 H1 hw0 off AY hw1=>⟨rfl,?_⟩⟩⟩
  have s1:zf H H1:=fun z o ez=>off z o (ag ez nx) (by rw[ae (ag ez nx),ae (ag ez nd)];exact ez)
  clear hw0 off hw1
  refine⟨_,rfl,x,ys.zh,dx,_,_,rfl,s1 _ _ hx,Y.ct,Y.t5,rfl,_,rfl,x',ys.zh,d',_,rfl,AY,Y.ct,Y.t5,by show 6 < 1000;decide,?_⟩
  have s3:zf H (upd H1 x' (.ins ys.zh d' (aK "gone" (.int t.gone) (oJ ⟨t.start,t.goal,t.len,t.word,0,[]⟩ w0)))):=fun z o ez=>by rw[ae (ag ez nx)];exact s1 _ _ ez
  have Hs:(upd H1 x' (.ins ys.zh d' (aK "gone" (.int t.gone) (oJ ⟨t.start,t.goal,t.len,t.word,0,[]⟩ w0)))) x' = some (.ins ys.zh d' (oJ ⟨t.start,t.goal,t.len,t.word,t.gone,[]⟩ w0)):=ac
  show _
  generalize upd H1 x' (.ins ys.zh d' (aK "gone" (.int t.gone) (oJ ⟨t.start,t.goal,t.len,t.word,0,[]⟩ w0)))=H3 at s3 Hs ⊢
  refine⟨_,rfl,x,ys.zh,dx,_,_,rfl,s3 _ _ hx,Y.ct,Y.t6,rfl,wa,_,rfl, .inl (zj.of (s3 _ _ hw)),fun CQ Hu=>?_⟩
  have Dn:H CQ = none:=by
   cases e:H CQ with
   | none=>rfl
   | some o=>rw[s3 _ _ e]at Hu;cases Hu
  have Lm:x' ≠ CQ:=ag Hs Hu
  refine⟨_,rfl,x',ys.zh,d',_,rfl,by rw[ae Lm];exact Hs,Y.ct,Y.t6,by show 6 < 1000;decide,_,rfl,?_⟩
  have s4:∀ o',zf H (upd (upd H3 CQ (.lst (nV t.way))) x' o'):=fun o' z o ez=>by rw[ae (ag ez nx),ae (ag ez Dn)];exact s3 _ _ ez
  exact q x' d' CQ _ (s4 _) nx Dn ac (by rw[ae (Ne.symm Lm)];exact ac)
structure YA where
 y:Addr
 dy:Addr
 tb:Addr
 ro:Addr
 la:Addr
 le:Addr
 li:Addr
 dn:Addr
 lx:Addr
 zX:Addr
 lt:Addr
 n:Nat
 zw:List V
 ps:List (Int × Int)
 wy:Wf
noncomputable abbrev zW (K:Frag)(ys:Ys)(H:Hp)(a:YA)(s:YS):Prop:=zu K ys H a.y a.dy a.tb a.ro a.la a.le a.li a.dn s
noncomputable abbrev zc (c:Cs)(TC:Addr)(J:TJ)(H:Hp)(a:YA):Prop:=An c TC J H a.tb a.lx a.zX a.lt a.n a.zw a.ps a.wy
noncomputable abbrev YA.four (a:YA):List Addr:=[a.la,a.le,a.li,a.dn]
theorem Paired.set {α β:Type}{R:α->β->Prop}{v:α}{r:β}(h:R v r):∀ {vs:List α}{rs:List β}(i:Nat),Paired R vs rs->Paired R (vs.set i v) (rs.set i r)
 | _,_,_, .nil => .nil
 | _,_,0, .cons _ t => .cons h t
 | _,_,i + 1, .cons x t => .cons x (Paired.set h i t)
theorem zo.mono {ex Ii:List Addr}{H H':Hp}(h:∀ b ∈ ex,b ∈ Ii)(o:zo ex H H'):zo Ii H H':=fun b u nb e=>o b u (fun z=>nb (h b z)) e
theorem tO {K:Frag}{ys:Ys}{H:Hp}{a:YA}{s:YS}(h:zW K ys H a s){p:Addr}(hp:H p=none):p ∉ a.four:=fun z=>by obtain⟨xs,hz⟩:=h.AS p z;rw[hp]at hz;cases hz
theorem kC {K:Frag}{ys:Ys}{H:Hp}{a:YA}{s:YS}(h:zW K ys H a s){p:Addr}(hp:H p=none):p ∉ a.la :: a.le :: a.li :: a.dn :: ys.ex:=fun z=>by obtain⟨xs,hz⟩:=zu.CP h p z;rw[hp]at hz;cases hz
theorem lA {H H2:Hp}{x b:Addr}{zs:List V}(o:zo [x] H H2)(hx:H2 x=some (.lst zs))(h:∃ xs,H b=some (.lst xs)):∃ xs,H2 b=some (.lst xs):=by
 by_cases e:b=x
 ·exact⟨zs,by rw[e];exact hx⟩
 ·obtain⟨xs,hz⟩:=h
  exact⟨xs,o _ _ (by simpa using e) hz⟩
theorem zW.BW {K:Frag}{ys:Ys}{H H2:Hp}{a:YA}{s:YS}(h:zW K ys H a s){vs:List V}(hv:H a.la=some (.lst vs))(o:zo [a.la] H H2){k:Nat}{x dx pa:Addr}(hl:H2 a.la=some (.lst (vs.set k (.ref x)))){ln:bC}{zB:List V}
  (L:zF H2 ys.zI x dx pa ln.r ln.b ln.h zB ln.qs) (np:H pa=none):zW K ys H2 a { s with lanes:=s.lanes.set k ln }:=by
 obtain⟨h1,h2,f1,f2,f3,f4⟩:=zu.off h (o.mono (by simp))
 obtain⟨v1,a1,p1⟩:=h.Ap
 obtain⟨v2,a2,p2⟩:=h.hle
 obtain⟨v3,a3,p3⟩:=h.BE
 obtain⟨v4,a4,p4⟩:=h.AR
 rw[hv]at a1
 cases a1
 have ne:=h.ne
 simp only[nodup_cons,mem_cons,not_mem_nil,or_false,not_or,not_false_eq_true,and_true,nodup_nil]at ne
 exact⟨h1,h2,⟨_,hl,Paired.set ⟨x,dx,pa,zB,rfl,L,kC h np⟩ k (f1 _ _ p1)⟩,⟨v2,o _ _ (by simp;exact Ne.symm ne.1.1) a2,f2 _ _ p2⟩,⟨v3,o _ _ (by simp;exact Ne.symm ne.1.2.1) a3,f3 _ _ p3⟩,⟨v4,o _ _ (by simp;exact Ne.symm ne.1.2.2) a4,f4 _ _ p4⟩,h.ne,fun b hb=>lA o hl (h.hex b hb)⟩
theorem zW.DU {K:Frag}{ys:Ys}{H H2:Hp}{a:YA}{s:YS}(h:zW K ys H a s){vs:List V}(hv:H a.le=some (.lst vs))(o:zo [a.le] H H2){k:Nat}{x dx wa:Addr}(hl:H2 a.le=some (.lst (vs.set k (.ref x)))){t:aU}
  (hx:H2 x=some (.ins ys.zh dx (oJ t wa))) (hw:H2 wa=some (.lst (nV t.way))) (np:H wa=none):zW K ys H2 a { s with U:=s.U.set k t }:=by
 obtain⟨h1,h2,f1,f2,f3,f4⟩:=zu.off h (o.mono (by simp))
 obtain⟨v1,a1,p1⟩:=h.Ap
 obtain⟨v2,a2,p2⟩:=h.hle
 obtain⟨v3,a3,p3⟩:=h.BE
 obtain⟨v4,a4,p4⟩:=h.AR
 rw[hv]at a2
 cases a2
 have ne:=h.ne
 simp only[nodup_cons,mem_cons,not_mem_nil,or_false,not_or,not_false_eq_true,and_true,nodup_nil]at ne
 exact⟨h1,h2,⟨v1,o _ _ (by simp;exact ne.1.1) a1,f1 _ _ p1⟩,⟨_,hl,Paired.set ⟨x,dx,wa,rfl,hx,hw,kC h np⟩ k (f2 _ _ p2)⟩,⟨v3,o _ _ (by simp;exact Ne.symm ne.2.1.1) a3,f3 _ _ p3⟩,⟨v4,o _ _ (by simp;exact Ne.symm ne.2.1.2) a4,f4 _ _ p4⟩,h.ne,fun b hb=>lA o hl (h.hex b hb)⟩
theorem zW.Hv {K:Frag}{ys:Ys}{H H2:Hp}{a:YA}{s:YS}(h:zW K ys H a s){vs:List V}(hv:H a.li=some (.lst vs))(o:zo [a.li] H H2){k:Nat}{v:V}(hl:H2 a.li=some (.lst (vs.set k v))){qs:List (Int × Int)}
  (L:AG H2 v qs):zW K ys H2 a { s with lies:=s.lies.set k qs }:=by
 obtain⟨h1,h2,f1,f2,f3,f4⟩:=zu.off h (o.mono (by simp))
 obtain⟨v1,a1,p1⟩:=h.Ap
 obtain⟨v2,a2,p2⟩:=h.hle
 obtain⟨v3,a3,p3⟩:=h.BE
 obtain⟨v4,a4,p4⟩:=h.AR
 rw[hv]at a3
 cases a3
 have ne:=h.ne
 simp only[nodup_cons,mem_cons,not_mem_nil,or_false,not_or,not_false_eq_true,and_true,nodup_nil]at ne
 exact⟨h1,h2,⟨v1,o _ _ (by simp;exact ne.1.2.1) a1,f1 _ _ p1⟩,⟨v2,o _ _ (by simp;exact ne.2.1.1) a2,f2 _ _ p2⟩,⟨_,hl,Paired.set L k (f3 _ _ p3)⟩,⟨v4,o _ _ (by simp;exact Ne.symm ne.2.2) a4,f4 _ _ p4⟩,h.ne,fun b hb=>lA o hl (h.hex b hb)⟩
noncomputable def rO (K:Frag)(ys:Ys):Sp:=fun vs H Q _=>∃ (a:YA)(s:YS)(k:Nat)(ln:bC)(zv:List V),vs=[.ref a.y, .int k]/\zW K ys H a s/\s.lanes[k]? = some ln/\H a.la=some (.lst zv) /\
 ∀ (x dx pa:Addr)(zB:List V)(H':Hp),zo [a.la] H H'->H x=none->H pa=none->H' a.la=some (.lst (zv.set k (.ref x)))->zF H' ys.zI x dx pa ln.r ln.b ln.h zB ln.qs->Q (.ref x) H'
noncomputable def rN (K:Frag)(ys:Ys):Sp:=fun vs H Q _=>∃ (a:YA)(s:YS)(k:Nat)(t:aU)(zw:List V),vs=[.ref a.y, .int k]/\zW K ys H a s/\s.U[k]? = some t/\H a.le=some (.lst zw) /\
 ∀ (x dx wa:Addr)(H':Hp),zo [a.le] H H'->H x=none->H wa=none->H' a.le=some (.lst (zw.set k (.ref x)))->H' x=some (.ins ys.zh dx (oJ t wa))->H' wa=some (.lst (nV t.way))->Q (.ref x) H'
noncomputable def wN (K:Frag)(ys:Ys):Sp:=fun vs H Q _=>∃ (a:YA)(s:YS)(v:V)(q:Int × Int)(p:Nat)(qs:List (Int × Int)),vs=[.ref a.y,v, .int p]/\zW K ys H a s/\w6 H v q/\s.lies[p]? = some qs/\qs.length <= 100000 /\
 ∀ H',zo [a.li] H H'->zW K ys H' a { s with lies:=s.lies.set p (qs ++ [q]) }->Q .zD H'
noncomputable def pA (K:Frag)(ys:Ys):Sp:=fun vs H Q _=>∃ (a:YA)(s:YS)(p:Nat)(qs:List (Int × Int)),vs=[.ref a.y, .int p]/\zW K ys H a s/\s.lies[p]? = some qs /\
 ∀ (D:Addr)(zB:List V)(H':Hp),zf H H'->H D=none->H' D=some (.lst zB)->zN H' zB qs->Q (.ref D) H'
theorem xz:ao ["self", "lane"] ["self", "lane"] (ah su):=L2.zQ
theorem v8 {ys:Ys}{f ft:Addr}{fd dt:FuncData}(F:zH K "own_lane" "Yard.own_lane" su f fd)(Y:fU K ys)(mt:bA K ys.zI "twin" ft)(bt:Binds K dt ["self"] [])(Gt:zg P w K mg base aD 3 ft dt ["self"] (wL ys.zI)) :
  zg P w K mg base aD 4 f fd ["self", "lane"] (rO K ys):=by
 refine F.ok xz (fun _ _ _ _ h=>?_) (fun _ _ _ s H _ Q E hr h=>?_)
 ·obtain⟨a,s,k,ln,zv,rfl,_⟩:=h
  rfl
 ·obtain⟨a,st,k,ln,zv,rfl,hY,hk,Ac,q⟩:=h
  refine⟨_,af (i4 (b7 (aA aQ (al (pv 0) rfl) (pv 1) (fun _ _=>rfl)) Y.L.cl mt Gt hr bt .nil ap) (oB (al (pv 0) rfl) (pv 1) jt))
   (ai (ar (aA aQ (al (pv 0) rfl) (pv 1) (fun _ _=>rfl)))),?_⟩
  obtain⟨Hw,DV,pl⟩:=hY.Ap
  rw[Ac]at DV
  cases DV
  obtain⟨v,hv,x,dx,pa,zB,rfl,hL,_⟩:=Paired.at2 pl hk
  have AZ:k < zv.length:=(gQ0 hv)
  refine⟨_,rfl,a.y,ys.zi,a.dy,_,_,rfl,hY.ins,Y.cl,Y.n3,rfl,_,rfl,a.la,zv,(k:Int),_,rfl,rfl,zj.of Ac,ak hv,x,dx,_,rfl,hL.ins,rfl,?_⟩
  refine⟨x,dx,pa,ln.r,ln.b,ln.h,zB,ln.qs,rfl,hL,fun x' CY D3 H1 s1 nx EG Hr=>?_⟩
  refine⟨_,rfl,a.y,ys.zi,a.dy,_,_,rfl,s1 _ _ hY.ins,Y.cl,Y.n3,rfl,_,rfl,a.la,zv,(k:Int),k,rfl,rfl,s1 _ _ Ac,jg AZ,?_⟩
  have o1:zo [a.la] H (upd H1 a.la (.lst (zv.set k (.ref x')))):=(zf.zS s1).trans (c6 (by simp))
  have g1:(upd H1 a.la (.lst (zv.set k (.ref x')))) a.la=some (.lst (zv.set k (.ref x'))):=ac
  have BG:zF (upd H1 a.la (.lst (zv.set k (.ref x')))) ys.zI x' CY D3 ln.r ln.b ln.h zB ln.qs:=by
   have n1:x' ≠ a.la:=b8 Hr.ins (s1 _ _ Ac) (by intro z;cases z)
   have n2:D3 ≠ a.la:=fun z=>by rw[z,Ac]at EG;cases EG
   exact⟨by rw[ae n1];exact Hr.ins,by rw[ae n2];exact Hr.lst,zN.zS (ex:=[a.la]) (fun b hb=>by simp at hb;subst hb;exact⟨_,s1 _ _ Ac⟩) (c6 (by simp)) Hr.Au⟩
  generalize upd H1 a.la (.lst (zv.set k (.ref x')))=H2 at o1 g1 BG ⊢
  have Qx:H2 a.y=some (.ins ys.zi a.dy (ND a.tb a.ro a.la a.le a.li a.dn)):=o1 _ _ (by simp;exact b8 hY.ins Ac (by intro z;cases z)) hY.ins
  exact⟨_,rfl,a.y,ys.zi,a.dy,_,_,rfl,Qx,Y.cl,Y.n3,rfl,_,rfl,a.la,_,(k:Int), .ref x',rfl,rfl,zj.of g1,ak (by simp[AZ]),q x' CY D3 zB H2 o1 nx EG g1 BG⟩
theorem xy:ao ["self", "number"] ["self", "number"] (ah sr):=L2.zQ
theorem v7 {ys:Ys}{f ft:Addr}{fd dt:FuncData}(F:zH K "own_letter" "Yard.own_letter" sr f fd)(Y:fU K ys)(mt:bA K ys.zh "twin" ft)(bt:Binds K dt ["self"] [])(Gt:zg P w K mg base aD 3 ft dt ["self"] (wK ys.zh)) :
  zg P w K mg base aD 4 f fd ["self", "number"] (rN K ys):=by
 refine F.ok xy (fun _ _ _ _ h=>?_) (fun _ _ _ s H _ Q E hr h=>?_)
 ·obtain⟨a,s,k,ln,zv,rfl,_⟩:=h
  rfl
 ·obtain⟨a,st,k,t,zw,rfl,hY,hk,Av,q⟩:=h
  refine⟨_,af (i4 (b7 (aA aQ (al (pv 0) rfl) (pv 1) (fun _ _=>rfl)) Y.ct mt Gt hr bt .nil ap) (oB (al (pv 0) rfl) (pv 1) jt))
   (ai (ar (aA aQ (al (pv 0) rfl) (pv 1) (fun _ _=>rfl)))),?_⟩
  obtain⟨Dq,Ln,pl⟩:=hY.hle
  rw[Av]at Ln
  cases Ln
  obtain⟨v,hv,x,dx,wa,rfl,hx,hw,_⟩:=Paired.at2 pl hk
  have AZ:k < zw.length:=(gQ0 hv)
  refine⟨_,rfl,a.y,ys.zi,a.dy,_,_,rfl,hY.ins,Y.cl,Y.n4,rfl,_,rfl,a.le,zw,(k:Int),_,rfl,rfl,zj.of Av,ak hv,x,dx,_,rfl,hx,rfl,?_⟩
  refine⟨x,dx,wa,t,rfl,hx,hw,fun x' CY CQ H1 s1 nx EG AY hw1=>?_⟩
  refine⟨_,rfl,a.y,ys.zi,a.dy,_,_,rfl,s1 _ _ hY.ins,Y.cl,Y.n4,rfl,_,rfl,a.le,zw,(k:Int),k,rfl,rfl,s1 _ _ Av,jg AZ,?_⟩
  have o1:zo [a.le] H (upd H1 a.le (.lst (zw.set k (.ref x')))):=(zf.zS s1).trans (c6 (by simp))
  have g1:(upd H1 a.le (.lst (zw.set k (.ref x')))) a.le=some (.lst (zw.set k (.ref x'))):=ac
  have n1:x' ≠ a.le:=b8 AY (s1 _ _ Av) (by intro z;cases z)
  have n2:CQ ≠ a.le:=fun z=>by rw[z,Av]at EG;cases EG
  have El:(upd H1 a.le (.lst (zw.set k (.ref x')))) x' = some (.ins ys.zh CY (oJ t CQ)):=by rw[ae n1];exact AY
  have FO:(upd H1 a.le (.lst (zw.set k (.ref x')))) CQ = some (.lst (nV t.way)):=by rw[ae n2];exact hw1
  generalize upd H1 a.le (.lst (zw.set k (.ref x')))=H2 at o1 g1 El FO ⊢
  have Qx:H2 a.y=some (.ins ys.zi a.dy (ND a.tb a.ro a.la a.le a.li a.dn)):=o1 _ _ (by simp;exact b8 hY.ins Av (by intro z;cases z)) hY.ins
  exact⟨_,rfl,a.y,ys.zi,a.dy,_,_,rfl,Qx,Y.cl,Y.n4,rfl,_,rfl,a.le,_,(k:Int), .ref x',rfl,rfl,zj.of g1,ak (by simp[AZ]),q x' CY CQ H2 o1 nx EG g1 El FO⟩
theorem Lo:ao ["self", "piece", "place"] ["self", "piece", "place"] (ah xL):=L2.zQ
theorem yw {ys:Ys}{f:Addr}{fd:FuncData}(F:zH K "lay" "Yard.lay" xL f fd)(Y:fU K ys):zg P w K mg base aD 1 f fd ["self", "piece", "place"] (wN K ys):=by
 refine F.ok Lo (fun _ _ _ _ h=>?_) (fun _ _ _ s H _ Q E hr h=>?_)
 ·obtain⟨a,s,v,q,p,qs,rfl,_⟩:=h
  rfl
 ·obtain⟨a,st,v,qp,p,qs,rfl,hY,hv,hp,hlen,q⟩:=h
  refine⟨_,ai (i4 (aB vo (aA aQ (al (pv 0) rfl) (pv 2) (fun _ _=>rfl)) (bS (aa (pv 1) ad))) (oB (al (pv 0) rfl) (pv 2) jt)),?_⟩
  obtain⟨zv,DW,pl⟩:=hY.BE
  obtain⟨v0,hv0,t0,DX,rfl,FR,Lp⟩:=Paired.at2 pl hp
  have AZ:p < zv.length:=(gQ0 hv0)
  have NO:DX.length=qs.length:=Paired.length Lp
  refine⟨_,rfl,a.y,ys.zi,a.dy,_,_,rfl,hY.ins,Y.cl,Y.n5,rfl,_,rfl,a.li,zv,(p:Int),_,rfl,rfl,zj.of DW,ak hv0,_,rfl,by show 1 <= sizeLine;decide,fun t ht=>?_⟩
  have s1:=(zf.refl H).new (o := .tup [v]) ht
  have g1:(upd H t (.tup [v])) t=some (.tup [v]):=ac
  generalize upd H t (.tup [v])=H1 at s1 g1 ⊢
  have fin:∀ (z:Addr)(H2:Hp),zf H H2->AG H2 (.ref z) (qs ++ [qp])->Q .zD (upd H2 a.li (.lst (zv.set p (.ref z)))):=fun z H2 s2 hz=>by
   have o2:zo [a.li] H (upd H2 a.li (.lst (zv.set p (.ref z)))):=(zf.zS s2).trans (c6 (by simp))
   refine q _ o2 (zW.Hv hY DW o2 ac ?_)
   obtain⟨tz,vz,ez,Vo,hz2⟩:=hz
   cases ez
   have nz:z ≠ a.li:=b8 Vo (s2 _ _ DW) (by intro y;cases y)
   exact⟨z,vz,rfl,by rw[ae nz];exact Vo,zN.zS (ex:=[a.li]) (fun b hb=>by simp at hb;subst hb;exact⟨_,s2 _ _ DW⟩) (c6 (by simp)) hz2⟩
  refine⟨t0,t,DX,[v],rfl,rfl,zt.of (s1 _ _ FR),zt.of g1,by simp,by rw[sizeLine_eq];simp;omega,fun e0=>?_,fun e0 p2 Hx=>?_⟩
  ·subst e0
   cases Lp
   refine⟨_,rfl,a.y,ys.zi,a.dy,_,_,rfl,s1 _ _ hY.ins,Y.cl,Y.n5,rfl,_,rfl,a.li,zv,(p:Int),p,rfl,rfl,s1 _ _ DW,jg AZ,?_⟩
   exact fin t H1 s1 ⟨t,[v],rfl,g1, .cons (let ⟨u,e,hu⟩:=hv; ⟨u,e,s1 _ _ hu⟩) .nil⟩
  ·have s2:=s1.new (o := .tup (DX ++ [v])) Hx
   have g2:(upd H1 p2 (.tup (DX ++ [v]))) p2=some (.tup (DX ++ [v])):=ac
   generalize upd H1 p2 (.tup (DX ++ [v]))=H2 at s2 g2 ⊢
   refine⟨_,rfl,a.y,ys.zi,a.dy,_,_,rfl,s2 _ _ hY.ins,Y.cl,Y.n5,rfl,_,rfl,a.li,zv,(p:Int),p,rfl,rfl,s2 _ _ DW,jg AZ,?_⟩
   exact fin p2 H2 s2 ⟨p2,_,rfl,g2,zN.snoc (let ⟨u,e,hu⟩:=hv; ⟨u,e,s2 _ _ hu⟩) (zN.same s2 Lp)⟩
theorem Lq:ao ["self", "place"] ["self", "place"] (ah om):=L2.zQ
theorem tD {ys:Ys}{f:Addr}{fd:FuncData}(F:zH K "lying" "Yard.lying" om f fd)(T:eW mg)(Y:fU K ys):zg P w K mg base aD 1 f fd ["self", "place"] (pA K ys):=by
 refine F.ok Lq (fun _ _ _ _ h=>?_) (fun _ _ _ s H _ Q E hr h=>?_)
 ·obtain⟨a,s,p,qs,rfl,_⟩:=h
  rfl
 ·obtain⟨a,st,p,qs,rfl,hY,hp,q⟩:=h
  refine⟨_,ai (ar (aY bU rfl T.list PySem.Pv.boot_list (aa (aA aQ (al (pv 0) rfl) (pv 1) (fun _ _=>rfl)) ad))),?_⟩
  obtain⟨zv,DW,pl⟩:=hY.BE
  obtain⟨v0,hv0,t0,DX,rfl,FR,Lp⟩:=Paired.at2 pl hp
  refine⟨_,rfl,a.y,ys.zi,a.dy,_,_,rfl,hY.ins,Y.cl,Y.n5,rfl,_,rfl,a.li,zv,(p:Int),_,rfl,rfl,zj.of DW,ak hv0,t0,_,rfl, .inr (zt.of FR),fun D hD=>?_⟩
  have s1:=(zf.refl H).new (o := .lst DX) hD
  exact q D DX _ s1 hD ac (zN.same s1 Lp)
noncomputable def eL (ln:bC)(m c len:Int):bC:={ ln with r:=ln.r - 1,h:=if decide (c=len - 1)=true then none else some m,qs:=ln.qs ++ [(m,c)] }
noncomputable def cf (s:YS)(m:Nat)(c:Int)(l:Nat)(t:aU)(ln:bC):YS:={ s with U:=if c=0 then s.U.set m { t with way:=t.way ++ [l] } else s.U,lanes:=s.lanes.set l (eL ln m c t.len) }
noncomputable def ld (K:Frag)(ys:Ys):Sp:=fun vs H Q _=>∃ (a:YA)(s:YS)(v:V)(m:Nat)(c:Int)(l:Nat)(t:aU)(ln:bC),vs=[.ref a.y,v, .int l]/\zW K ys H a s/\w6 H v ((m:Int),c)/\s.U[m]? = some t/\s.lanes[l]? = some ln/\bW ln.r ln.h m c=true/\t.way.length <= 1000/\ln.qs.length < 100000 /\
 ∀ H',zo [a.la,a.le] H H'->zW K ys H' a (cf s m c l t ln)->Q .zD H'
noncomputable def cx (s:YS)(m:Nat)(t:aU):YS:={ s with U:=s.U.set m { t with gone:=t.gone + 1 } }
noncomputable def rX (K:Frag)(ys:Ys):Sp:=fun vs H Q _=>∃ (a:YA)(s:YS)(m l:Nat)(t:aU)(ln:bC),vs=[.ref a.y, .int m, .int l]/\zW K ys H a s/\s.U[m]? = some t/\s.lanes[l]? = some ln/\bW ln.r ln.h m t.gone=true/\t.way.length <= 1000/\ln.qs.length < 100000 /\
 ∀ H',zo [a.la,a.le] H H'->zW K ys H' a (cf (cx s m t) m t.gone l { t with gone:=t.gone + 1 } ln)->Q .zD H'
structure Own (P:Program)(w:World)(K:Frag)(mg:Str->Option Value)(base:Heap)(ys:Ys)(nm:Addr)(fl ft fp:Addr)(dl dt dp:FuncData):Prop where
 ml:bA K ys.zi "own_lane" fl
 bl:Binds K dl ["self", "lane"] []
 Gl:zg P w K mg base aD 4 fl dl ["self", "lane"] (rO K ys)
 mt:bA K ys.zi "own_letter" ft
 bt:Binds K dt ["self", "number"] []
 Gt:zg P w K mg base aD 4 ft dt ["self", "number"] (rN K ys)
 mp:bA K ys.zI "put" fp
 bp:Binds K dp ["self", "letter", "count", "last"] []
 Gp:zg P w K mg base (e7 P w) 2 fp dp ["self", "letter", "count", "last"] (wG ys.zI nm)
noncomputable abbrev Vp:List Str:=["self", "piece", "lane", "last"]
noncomputable abbrev NGi:List Str:=["self", "number", "lane", "letter"]
theorem Lr:ao Vp ["self", "piece", "lane"] (ah oy):=L2.zQ
theorem tI {ys:Ys}{nm f fl ft fp:Addr}{fd dl dt dp:FuncData}(F:zH K "enter" "Yard.enter" oy f fd)(Y:fU K ys)(O:Own P w K mg base ys nm fl ft fp dl dt dp) :
  zg P w K mg base aD 5 f fd ["self", "piece", "lane"] (ld K ys):=by
 refine F.ok Lr (fun _ _ _ _ h=>?_) (fun _ _ _ s H _ Q E hr h=>?_)
 ·obtain⟨a,s,v,m,c,l,t,ln,rfl,_⟩:=h
  rfl
 ·obtain⟨a,st,v,m,c,l,t,ln,rfl,hY,⟨pt,rfl,CB⟩,hm,hl,Ae,C4,DQ,q⟩:=h
  have Ai:zm 2 _:=hr.mono (by decide)
  refine⟨_,af (hU (aM (au bK (aA aE (pv 1) aj (fun _ _=>rfl)) aj (ax _))
    (ai (aN (cv plainAttrs_list PySem.F.slot_list_append PySem.F.type_list_append bD (al (aC (pv 0) Y.cl O.mt O.Gt hr O.bt .nil ap (aa (aA aE (pv 1) aj (fun _ _=>rfl)) ad)) rfl) (aa (pv 2) ad)))) aF))
   (af (az (i:=3) Lr.nd rfl (Or.inl rfl) (cz bK (aA aE (pv 1) aj (fun _ _=>rfl)) (aB eG (al (aA aQ (al (pv 0) rfl) (aA aE (pv 1) aj (fun _ _=>rfl)) (fun _ _=>rfl)) rfl) aj) (ax _)))
   (ai (aN (aC (aC (pv 0) Y.cl O.ml O.Gl hr O.bl .nil ap (aa (pv 2) ad)) Y.L.cl O.mp O.Gp Ai O.bp .nil i5 (aa (aA aE (pv 1) aj (fun _ _=>rfl)) (aa (aA aE (pv 1) aj (fun _ _=>rfl)) (aa (pv 3) ad))))))),?_⟩
  refine⟨fun σ' H'=>σ' = start Vp [.ref a.y, .ref pt, .int l]/\zo [a.le] H H'/\∃ t1:aU,t1.len=t.len/\zW K ys H' a { st with U:=if c=0 then st.U.set m { t with way:=t.way ++ [l] } else st.U }/\(if c=0 then st.U.set m { t with way:=t.way ++ [l] } else st.U)[m]? = some t1,?_,?_⟩
  ·refine⟨_,rfl,pt,_,1,_,rfl,rfl,zt.of CB,ak (j:=1) rfl,rfl,_,rfl,?_⟩
   rw[bY]
   by_cases hc:c=0
   ·rw[decide_eq_true hc]
    obtain⟨zw,Av,pl⟩:=hY.hle
    refine aJ ⟨_,rfl,a.y,a.dy,_,rfl,hY.ins,rfl,_,rfl,pt,_,0,_,rfl,rfl,zt.of CB,ak (j:=0) rfl,a,st,m,t,zw,rfl,hY,hm,Av,fun x dx wa H1 o1 nx nw g1 AY hw1=>?_⟩
    refine⟨x,ys.zh,dx,_,_,rfl,AY,Y.ct,Y.t6,rfl, .inl ⟨rfl,_,zj.of hw1⟩,_,rfl,wa,_,_,rfl,rfl,hw1,by rw[i9,sizeLine_eq];omega,?_⟩
    have nxw:x ≠ wa:=b8 AY hw1 (by intro z;cases z)
    have nlw:a.le ≠ wa:=ag Av nw
    have o2:zo [a.le] H (upd H1 wa (.lst (nV t.way ++ [.int l]))):=fun b o nb e=>by rw[ae (ag e nw)];exact o1 b o nb e
    have BF:=zW.DU hY Av o2 (k:=m) (x:=x) (dx:=dx) (wa:=wa) (by rw[ae nlw];exact g1) (t:={ t with way:=t.way ++ [l] }) (by rw[ae nxw];exact AY) (by rw[ac,tT];rfl) nw
    have Hy:m < st.U.length:=(gQ0 hm)
    refine⟨rfl,o2,{ t with way:=t.way ++ [l] },rfl,?_,?_⟩
    ·rw[if_pos hc];exact BF
    ·rw[if_pos hc];simp[Hy]
   ·rw[decide_eq_false hc]
    refine aI ⟨rfl,zf.zS (zf.refl H),t,rfl,?_,?_⟩
    ·rw[if_neg hc];exact hY
    ·rw[if_neg hc];exact hm
  ·rintro σ' H1 ⟨rfl,o1,t1,hlen,Bg,hm1⟩
   have EK:H1 pt=some (.tup [.int m, .int c]):=by
    obtain⟨zw,Av,_⟩:=hY.hle
    exact o1 _ _ (by simp;exact b8 CB Av (by intro z;cases z)) CB
   obtain⟨Qy,Qz,Q0⟩:=Bg.hle
   obtain⟨v1,hv1,x1,dx1,wa1,rfl,AY,_⟩:=Paired.at2 Q0 hm1
   refine⟨_,rfl,pt,_,1,_,rfl,rfl,zt.of EK,ak (j:=1) rfl,_,rfl,a.y,ys.zi,a.dy,_,_,rfl,Bg.ins,Y.cl,Y.n4,rfl,_,rfl,pt,_,0,_,rfl,rfl,zt.of EK,ak (j:=0) rfl,a.le,Qy,(m:Int),_,rfl,rfl,zj.of Qz,ak hv1,x1,ys.zh,dx1,_,_,rfl,AY,Y.ct,Y.t3,rfl,_,_,rfl,rfl,rfl,?_⟩
   obtain⟨zv,Ac,D4⟩:=Bg.Ap
   refine⟨_,rfl,a.y,a.dy,_,rfl,Bg.ins,rfl,_,rfl,a,_,l,ln,zv,rfl,Bg,hl,Ac,fun x dx pa zB H2 o2 nx np g2 BG=>?_⟩
   have DY:H2 pt=some (.tup [.int m, .int c]):=o2 _ _ (by simp;exact b8 EK Ac (by intro z;cases z)) EK
   have Bj:zB.length=ln.qs.length:=Paired.length BG.Au
   refine⟨x,dx,_,rfl,BG.ins,rfl,_,rfl,pt,_,0,_,rfl,rfl,zt.of DY,ak (j:=0) rfl,_,rfl,pt,_,1,_,rfl,rfl,zt.of DY,ak (j:=1) rfl,_,rfl,x,dx,pa,ln.r,ln.b,ln.h,zB,ln.qs,(m:Int),c,decide (c=t.len - 1),?_,BG,by omega,(fun ho=>by rw[Ae]at ho;cases ho),fun _ t3 H3 o3 DP=>?_⟩
   ·rw[bY,hlen];rfl
   have nxl:a.la ≠ x:=ag Ac nx
   have Vq:a.la ≠ pa:=ag Ac np
   have o4:zo [a.la] H1 H3:=fun b o nb e=>o3 b o (ag e nx) (ag e np) (o2 b o nb e)
   have B5:=zW.BW Bg Ac o4 (k:=l) (x:=x) (dx:=dx) (pa:=pa) (o3 _ _ nxl Vq g2) (ln:=eL ln m c t.len) DP np
   exact q H3 ((o1.mono (by simp)).trans (o4.mono (by simp))) B5
theorem Ls:ao NGi ["self", "number", "lane"] (ah sG):=L2.zQ
theorem vM {ys:Ys}{nm f fl ft fp fe:Addr}{fd dl dt dp de:FuncData}(F:zH K "go_in" "Yard.go_in" sG f fd)(Y:fU K ys)(O:Own P w K mg base ys nm fl ft fp dl dt dp)(me:bA K ys.zi "enter" fe)(be:Binds K de ["self", "piece", "lane"] [])(Ge:zg P w K mg base aD 5 fe de ["self", "piece", "lane"] (ld K ys)) :
  zg P w K mg base aD 6 f fd ["self", "number", "lane"] (rX K ys):=by
 refine F.ok Ls (fun _ _ _ _ h=>?_) (fun _ _ _ s H _ Q E hr h=>?_)
 ·obtain⟨a,s,m,l,t,ln,rfl,_⟩:=h
  rfl
 ·obtain⟨a,st,m,l,t,ln,rfl,hY,hm,hl,Ae,C4,DQ,q⟩:=h
  have C9:zm 4 _:=hr.mono (by decide)
  refine⟨_,af (az (i:=3) Ls.nd rfl (Or.inl rfl) (aC (pv 0) Y.cl O.mt O.Gt C9 O.bt .nil ap (aa (pv 1) ad)))
   (af (dO (pv 3) aj l7)
   (ai (aN (aC (pv 0) Y.cl me Ge hr be .nil ap (aa (bS (aa (pv 1) (aa (aB eG (al (pv 3) rfl) aj) ad))) (aa (pv 2) ad)))))),?_⟩
  obtain⟨zw,Av,pl⟩:=hY.hle
  refine⟨_,rfl,a.y,a.dy,_,rfl,hY.ins,rfl,_,rfl,a,st,m,t,zw,rfl,hY,hm,Av,fun x dx wa H1 o1 nx nw g1 AY hw1=>?_⟩
  refine⟨_,rfl,x,ys.zh,dx,_,_,rfl,AY,Y.ct,Y.t5,rfl,_,_,rfl,rfl,dx,_,AY,by show 6 < 1000;decide,?_⟩
  have nlx:a.le ≠ x:=ag Av nx
  have EF:wa ≠ x:=b8 hw1 AY (by intro z;cases z)
  have o2:zo [a.le] H (upd H1 x (.ins ys.zh dx (aK "gone" (.int (t.gone + 1)) (oJ t wa)))):=fun b o nb e=>by rw[ae (ag e nx)];exact o1 b o nb e
  have El:(upd H1 x (.ins ys.zh dx (aK "gone" (.int (t.gone + 1)) (oJ t wa)))) x=some (.ins ys.zh dx (oJ { t with gone:=t.gone + 1 } wa)):=ac
  have BF:=zW.DU hY Av o2 (k:=m) (x:=x) (dx:=dx) (wa:=wa) (by rw[ae nlx];exact g1) (t:={ t with gone:=t.gone + 1 }) El (by rw[ae EF];exact hw1) nw
  show _
  generalize upd H1 x (.ins ys.zh dx (aK "gone" (.int (t.gone + 1)) (oJ t wa)))=H2 at o2 El BF ⊢
  refine⟨_,rfl,a.y,a.dy,_,rfl,BF.ins,rfl,_,rfl,_,rfl,x,ys.zh,dx,_,_,rfl,El,Y.ct,Y.t5,rfl,_,_,rfl,rfl,by show 2 <= sizeLine;decide,fun pt CB=>?_⟩
  have eg:t.gone + 1 - 1=t.gone:=by omega
  have s3:=(zf.refl H2).new (o := .tup [.int m, .int t.gone]) CB
  have g3:(upd H2 pt (.tup [.int m, .int t.gone])) pt=some (.tup [.int m, .int t.gone]):=ac
  dsimp only
  rw[eg]
  generalize upd H2 pt (.tup [.int m, .int t.gone])=H3 at s3 g3 ⊢
  have Hy:m < st.U.length:=(gQ0 hm)
  refine⟨_,rfl,a,cx st m t,_,m,t.gone,l,{ t with gone:=t.gone + 1 },ln,rfl,zu.same BF s3,⟨pt,rfl,g3⟩,by unfold cx;simp[Hy],hl,Ae,C4,DQ,fun H' o' EL=>?_⟩
  exact q H' ((o2.mono (by simp)).trans ((zf.zS s3).trans o')) EL
theorem oU (us:List Nat)(i:Nat):iH (nV us) none (some (i:Int))=nV (us.take i):=by
 unfold iH
 have e0:HT.B8 (nV us).length 0 none=0:=rfl
 rw[e0,show HT.B8 (nV us).length (nV us).length (some (i:Int))=min i (nV us).length from HT.AN _ _ i,List.drop_zero,Nat.sub_zero]
 unfold nV
 rw[map_take,length_map]
 refine ext_getElem? fun j=>?_
 simp only[List.getElem?_take,getElem?_map]
 by_cases h1:j < i
 ·by_cases h2:j < us.length
  ·rw[if_pos (by omega),if_pos h1]
  ·rw[if_neg (by omega),if_pos h1,List.getElem?_eq_none (by omega)];rfl
 ·rw[if_neg (by omega),if_neg h1]
theorem wm (us:List Nat)(i:Nat):iH (nV us) (some (i:Int)) (some ((i:Int) + 1))=nV ((us.drop i).take 1):=by
 unfold iH
 rw[show HT.B8 (nV us).length 0 (some (i:Int))=min i (nV us).length from HT.AN _ _ i,show((i:Int) + 1)=((i + 1:Nat):Int) by omega,show HT.B8 (nV us).length (nV us).length (some ((i + 1:Nat):Int))=min (i + 1) (nV us).length from HT.AN _ _ (i + 1),i9]
 by_cases h:i < us.length
 ·rw[Nat.min_eq_left (by omega),Nat.min_eq_left (by omega),show i + 1 - i=1 by omega]
  unfold nV
  rw[map_take,List.map_drop]
 ·rw[Nat.min_eq_right (by omega),Nat.min_eq_right (by omega),Nat.sub_self,List.take_zero,List.drop_eq_nil_of_le (by omega)];rfl
theorem pS (us:List Nat):nV us=(iz us).map V.int:=(yF us).symm
theorem uc (k:Nat):∀ us:List Nat,(iz us).idxOf (k:Int)=us.idxOf k
 | []=>rfl
 | u :: us=>by
  have ih:=uc k us
  unfold iz at ih ⊢
  rw[map_cons,List.idxOf_cons,List.idxOf_cons,ih]
  by_cases h:u=k
  ·subst h;simp
  ·have h':((u:Int) == (k:Int))=false:=by simp;omega
   have h2:(u == k)=false:=by simp;exact h
   rw[h',h2]
inductive Mv
 | AU (k l:Nat) | on (k l:Nat) | AK (k:Nat) | back (k:Nat)
noncomputable def fW:Mv->List V
 | .AU k l=>[.str "in", .int k, .int l]
 | .on k l=>[.str "on", .int k, .int l]
 | .AK k=>[.str "lie", .int k]
 | .back k=>[.str "back", .int k]
noncomputable def cI (s:YS)(l:Nat)(m c:Int):Bool:=match s.lanes[l]? with
 | some ln=>bW ln.r ln.h m c
 | none=>false
noncomputable def aL (s:YS)(k:Nat):Option (Int × Int):=match s.lanes[k]? with
 | some ln=>ln.qs.head?
 | none=>none
noncomputable def n0 (a:YA)(l g:Nat):List Nat:=if (a.ps.getD l (0,0)).2=(g:Int) then [] else a.wy (a.ps.getD l (0,0)).2.toNat g (some l)
noncomputable def bj (a:YA)(s:YS)(k:Nat):List Nat:=match aL s k with
 | none=>[]
 | some q=>match s.U[q.1.toNat]? with
  | none=>[]
  | some t=>if q.2=0 then (n0 a k t.goal.toNat).filter fun l=>!decide (l ∈ t.way) else (t.way.drop (t.way.idxOf k + 1)).take 1
noncomputable def aV (a:YA)(t:aU):List Nat:=if t.gone=0 then a.wy t.start.toNat t.goal.toNat none else t.way.take 1
noncomputable def ia (a:YA)(s:YS)(k:Nat):List Mv:=match s.U[k]? with
 | none=>[]
 | some t=>if t.gone=t.len then [] else ((aV a t).filter fun l=>cI s l k t.gone).map (Mv.AU k)
noncomputable def iA (a:YA)(s:YS)(k:Nat):List Mv:=match aL s k with
 | none=>[]
 | some q=>((bj a s k).filter fun l=>cI s l q.1 q.2).map (Mv.on k)
noncomputable def eV (a:YA)(s:YS)(k:Nat):List Mv:=match aL s k with
 | none=>[]
 | some q=>match s.U[q.1.toNat]? with
  | none=>[]
  | some t=>if t.goal=(a.ps.getD k (0,0)).2 then [.AK k] else []
noncomputable def dA (s:YS)(k:Nat):List Mv:=match s.lanes[k]? with
 | some ln=>if 0 < ln.b then [.back k] else []
 | none=>[]
structure Lu (a:YA):Prop where
 ends:∀ (l:Nat)(pr:Int × Int),a.ps[l]? = some pr->∃ e:Nat,pr.2=(e:Int)/\e < a.n
 Ao:∀ p g k,(a.wy p g k).length <= 400
structure Q2 (a:YA)(s:YS):Prop where
 lanes:s.lanes.length=a.ps.length
 lies:s.lies.length=a.n
 lets:∀ (m:Nat)(t:aU),s.U[m]? = some t->∃ x y:Nat,t.start=(x:Int)/\t.goal=(y:Int)/\x < a.n/\y < a.n
 Ad:∀ (m:Nat)(t:aU),s.U[m]? = some t->(∀ l ∈ t.way,l < a.ps.length)/\t.way.length <= 1000
 Au:∀ (k:Nat)(ln:bC),s.lanes[k]? = some ln->∀ q ∈ ln.qs,∃ (m:Nat)(t:aU),q.1=(m:Int)/\s.U[m]? = some t/\k ∈ t.way
 Ao:s.U.length <= 60
structure B6 (K:Frag)(c:Cs)(TC:Addr)(J:TJ)(ys:Ys)(H:Hp)(a:YA)(s:YS):Prop where
 Y:zW K ys H a s
 T:zc c TC J H a
 O:Lu a
 G:Q2 a s
theorem B6.same {K:Frag}{c:Cs}{TC fw:Addr}{dw:FuncData}{J:TJ}{ys:Ys}{H H':Hp}{a:YA}{s:YS}(W:Wy K TC fw dw J)(h:B6 K c TC J ys H a s)(e:zf H H'):B6 K c TC J ys H' a s:=⟨zu.same h.Y e,An.keep W h.T (zf.zC e),h.O,h.G⟩
noncomputable abbrev p7 (K:Frag)(c:Cs)(TC:Addr)(J:TJ)(ys:Ys)(f:YA->YS->Nat->List Mv)(len:YS->Nat):Sp:=fun vs H Q _=>∃ (a:YA)(s:YS)(k:Nat),vs=[.ref a.y, .int k]/\B6 K c TC J ys H a s/\k < len s /\
 ∀ (D:Addr)(zK:List V)(H':Hp),zf H H'->H D=none->H' D=some (.lst zK)->Paired (AQ H') zK ((f a s k).map fW)->Q (.ref D) H'
noncomputable def nU (K:Frag)(c:Cs)(TC:Addr)(J:TJ)(ys:Ys):Sp:=p7 K c TC J ys ia (fun s=>s.U.length)
noncomputable def nT (K:Frag)(c:Cs)(TC:Addr)(J:TJ)(ys:Ys):Sp:=p7 K c TC J ys iA (fun s=>s.lanes.length)
noncomputable def p8 (K:Frag)(c:Cs)(TC:Addr)(J:TJ)(ys:Ys):Sp:=p7 K c TC J ys eV (fun s=>s.lanes.length)
noncomputable def jq (K:Frag)(c:Cs)(TC:Addr)(J:TJ)(ys:Ys):Sp:=p7 K c TC J ys (fun _ s k=>dA s k) (fun s=>s.lanes.length)
noncomputable def gJ (K:Frag)(c:Cs)(TC:Addr)(J:TJ)(ys:Ys):Sp:=fun vs H Q _=>∃ (a:YA)(s:YS)(k:Nat),vs=[.ref a.y, .int k]/\B6 K c TC J ys H a s/\k < s.lanes.length /\
 ∀ (D:Addr)(H':Hp),zf H H'->H D=none->H' D=some (.lst (nV (bj a s k)))->Q (.ref D) H'
noncomputable def wI (c:Cs)(C:Addr)(J:TJ):Sp:=fun vs H Q _=>∃ (a:YA)(l g:Nat),vs=[.ref a.tb, .int l, .int g]/\zc c C J H a/\Lu a/\l < a.ps.length/\g < a.n /\
 ∀ (D:Addr)(H':Hp),zf H H'->H D=none->H' D=some (.lst (nV (n0 a l g)))->Q (.ref D) H'
theorem lF {K:Frag}{p:Addr}{us:List Nat}{g:TG}{tt:TT}{te:TE}{σ0:St}{H:Hp}{Q:VK}(b:Nat->Bool)(f:Nat->Mv)(hn:us.length < sizeLine)(ha:H p=some (.lst (nV us)))
  (hs:∀ (u:Nat)(H1:Hp)(acc:List V)(N:List V->Hp->Prop),u ∈ us->zf H H1->(b u=true->∀ v H2,zf H1 H2->AQ H2 v (fW (f u))->N (acc ++ [v]) H2)->(b u=false->N acc H1) ->
   g (.int u) σ0 H1 fun σ2 H2=>tt σ2 H2 fun b H3=>if b=true then te σ2 H3 fun y H4=>N (acc ++ [y]) H4 else N acc H3)
  (hq:∀ D vs H1,zf H H1->H1 D=none->Paired (AQ H1) vs (((us.filter b).map f).map fW)->Q (.ref D) (upd H1 D (.lst vs))):c9 (rp K p) g tt te σ0 Q H:=by
 refine bM us.length hn (fun i acc H'=>zf H H'/\Paired (AQ H') acc ((((us.take i).filter b).map f).map fW)) ⟨zf.refl _, .nil⟩ (fun i acc H' h=>by
   rw[Paired.length h.2,length_map,length_map]
   have h1:=length_filter_le b (us.take i)
   have h2:=length_take_le i us
   omega) (fun i acc H' hi h=>?_) (fun acc H' h=>?_)
 ·obtain⟨s,hL⟩:=h
  have hu:us[i]? = some us[i]:=getElem?_eq_getElem hi
  refine⟨⟨_,_,zj.of (s _ _ ha),tR hu⟩,fun v H2 y=>?_⟩
  obtain⟨rfl,y⟩:=y
  have hv:=y _ (zj.of (s _ _ ha))
  rw[tR hu]at hv
  cases hv
  refine hs us[i] H2 acc (fun Aa H4=>zf H H4/\Paired (AQ H4) Aa ((((us.take (i + 1)).filter b).map f).map fW)) (getElem_mem hi) s (fun hb v H3 s3 hv=>⟨s.trans s3,?_⟩) (fun hb=>⟨s,?_⟩)
  ·rw[take_succ,hu,filter_append]
   have e:(some us[i]).toList.filter b=[us[i]]:=by simp[hb]
   rw[e,map_append,map_append]
   exact Paired.snoc hv (Paired.mono (fun _ _ z=>z.keep (zf.zC s3)) hL)
  ·rw[take_succ,hu,filter_append]
   have e:(some us[i]).toList.filter b=[]:=by simp[hb]
   rw[e,append_nil]
   exact hL
 ·obtain⟨s,hL⟩:=h
  rw[take_length]at hL
  exact⟨⟨_,zj.of (s _ _ ha),by rw[i9];exact Nat.le_refl _⟩,fun D hD=>hq D acc H' s hD hL⟩
noncomputable def xQ (s:Stmt):Scope:=match s with
 | .Return (some (.ListComp _ _ sc _)) _=>sc
 | _=>zQ0
noncomputable def yG (s:Stmt):Scope:=match s with
 | .If _ [s'] _ _=>xQ s'
 | _=>zQ0
noncomputable abbrev Vr:List Str:=["self", "number", "letter", "wanted"]
noncomputable abbrev Vs:List Str:=["self", "lane", "piece", "letter", "behind"]
noncomputable abbrev Vt:List Str:=["self", "lane", "piece", "wanted"]
theorem Hz:ao Vr ["self", "number"] (ah lT):=L2.zQ
theorem Q3:As Vr (ah lT) (xQ ((aG lT).getD 3 (.Pass ⟨0,0,0,0⟩))) ["self", "number", "letter"] [0,1,2]:=L2.Bs
theorem Q4:(["lane", "self", "number", "letter"]:List Str).Nodup:=by decide +kernel
theorem vB {c:Cs}{ys:Ys}{J:TJ}{TC f fw fo:Addr}{fd dw Cb:FuncData}(F:zH K "moves_in" "Yard.moves_in" lT f fd)(Y:fU K ys)(W:Wy K TC fw dw J)(Hn:zg P w K mg base aD 3 fw dw ["self", "place", "goal", "came"] (fM J))
  (mo:bA K ys.zI "open_to" fo) (bo:Binds K Cb ["self", "letter", "count"] []) (Go:zg P w K mg base aD 1 fo Cb ["self", "letter", "count"] (kY ys.zI)) :
  zg P w K mg base aD 4 f fd ["self", "number"] (nU K c TC J ys):=by
 refine F.ok Hz (fun _ _ _ _ h=>?_) (fun _ _ _ s H _ Q E hr h=>?_)
 ·obtain⟨a,s,k,rfl,_⟩:=h
  rfl
 ·obtain⟨a,st,k,rfl,hI,hk,q⟩:=h
  have Ah:zm 1 _:=hr.mono (by decide)
  refine⟨_,af (az (i:=2) Hz.nd rfl (Or.inr rfl) (aA aQ (al (pv 0) rfl) (pv 1) (fun _ _=>rfl)))
   (af (aM (au bK (al (pv 2) rfl) (al (pv 2) rfl) (ax _)) (ai (ar (aP ad))) aF)
   (af (az (i:=3) Hz.nd rfl (Or.inl rfl) (ls (dq (au bK (al (pv 2) rfl) aj (ax _)) (aC (al (pv 0) rfl) W.cl W.m Hn hr W.b .nil ap (aa (al (pv 2) rfl) (aa (al (pv 2) rfl) (aa ce ad)))) (fB gQ (al (pv 2) rfl) lr (eB aj)))))
   (ai (ar (aT (own:=["lane"]) (capN:=["self", "number", "letter"]) (cap:=[0,1,2]) Q3 rfl (bx (pv 3)) (fun C s' H' fp=>⟨av (i:=0) Q4 rfl (Or.inl rfl),cb (bQ (aC (aA (show n9 _ (vd K) from aQ) (show PE _ _ (q5 K (nN 1) "lanes") from al (pv 1) rfl) (pv 0) (fun _ _=>rfl)) Y.L.cl mo Go Ah bo .nil ap (aa (pv 2) (aa (show PE _ _ (q5 K (nN 3) "gone") from al (pv 3) rfl) ad)))),bS (aa bG (aa (pv 2) (aa (pv 0) ad)))⟩)))))),?_⟩
  have hY:=hI.Y
  obtain⟨zw,Av,pl⟩:=hY.hle
  obtain⟨t,ht⟩:∃ t,st.U[k]? = some t:=⟨_,getElem?_eq_getElem hk⟩
  obtain⟨v,hv,x,dx,wa,rfl,hx,hw,_⟩:=Paired.at2 pl ht
  obtain⟨x0,y0,e1,e2,EM,DZ⟩:=hI.G.lets k t ht
  obtain⟨C4,hw9⟩:=hI.G.Ad k t ht
  unfold ia at q
  rw[ht]at q
  refine⟨_,rfl,a.y,ys.zi,a.dy,_,_,rfl,hY.ins,Y.cl,Y.n4,rfl,_,rfl,a.le,zw,(k:Int),_,rfl,rfl,zj.of Av,ak hv,?_⟩
  refine⟨_,rfl,x,ys.zh,dx,_,_,rfl,hx,Y.ct,Y.t5,rfl,_,rfl,x,ys.zh,dx,_,_,rfl,hx,Y.ct,Y.t3,rfl,rfl,_,rfl,?_⟩
  rw[bY]
  by_cases hg:t.gone=t.len
  ·rw[decide_eq_true hg]
   dsimp only at q
   rw[if_pos hg]at q
   exact aJ ⟨zero_le _,fun D hD=>q D [] _ ((zf.refl H).new hD) hD ac .nil⟩
  rw[decide_eq_false hg]
  dsimp only at q
  rw[if_neg hg]at q
  refine aI ⟨fun v H1=>∃ D,v = .ref D/\zf H H1/\H1 D=some (.lst (nV (aV a t))),?_,?_⟩
  ·refine⟨_,rfl,x,ys.zh,dx,_,_,rfl,hx,Y.ct,Y.t5,rfl,rfl,_,rfl,?_⟩
   rw[bY]
   unfold aV
   by_cases h0:t.gone=0
   ·rw[decide_eq_true h0,if_pos h0]
    obtain⟨Bf,fst,AJ,zM,Af⟩:=hI.T.i
    refine aJ ⟨_,rfl,a.y,ys.zi,a.dy,_,_,rfl,hY.ins,Y.cl,Y.n1,rfl,a.tb,Bf,fst,rfl,AJ,Af,_,rfl,x,ys.zh,dx,_,_,rfl,hx,Y.ct,Y.t1,rfl,_,rfl,x,ys.zh,dx,_,_,rfl,hx,Y.ct,Y.t2,rfl,?_⟩
    rw[e1,e2,toNat_natCast,toNat_natCast]
    exact⟨a.tb,a.n,a.wy,x0,y0,none,rfl,hI.T.j,EM,DZ,fun D H1 s1 hD gD=>⟨D,rfl,s1,gD⟩⟩
   ·rw[decide_eq_false h0,if_neg h0]
    refine aI ⟨_,rfl,x,ys.zh,dx,_,_,rfl,hx,Y.ct,Y.t6,rfl,_,rfl,wa,_,rfl,zj.of hw,fun D hD=>⟨D,rfl,(zf.refl H).new hD,?_⟩⟩
    rw[ac,show((1:Int))=((1:Nat):Int) from rfl,oU]
  rintro v H1 ⟨D,rfl,s1,gD⟩
  have Ba:=hI.same W s1
  have Bg:=Ba.Y
  have AY:=s1 _ _ hx
  obtain⟨zv,Ac,D4⟩:=Bg.Ap
  have GS:(aV a t).length <= 1000:=by
   unfold aV
   by_cases h0:t.gone=0
   ·rw[if_pos h0];exact le_trans (hI.O.Ao _ _ _) (by decide)
   ·rw[if_neg h0];rw[length_take];omega
  have HA:∀ u ∈ aV a t,u < a.ps.length:=fun u hu=>by
   unfold aV at hu
   by_cases h0:t.gone=0
   ·rw[if_pos h0,e1,e2,toNat_natCast,toNat_natCast]at hu;exact hI.T.ok _ _ _ EM DZ u hu
   ·rw[if_neg h0]at hu;exact C4 u (mem_of_mem_take hu)
  refine⟨_,rfl,D,rfl,⟨_,zj.of gD⟩,?_⟩
  refine lF (fun l=>cI st l k t.gone) (Mv.AU k) (by rw[sizeLine_eq];omega) gD (fun u H2 acc N hu s2 EN F3=>?_) (fun D2 HB H2 s2 AF hp=>?_)
  ·have AH:=Ba.same W s2
   obtain⟨HC,HD,HE⟩:=AH.Y.Ap
   have NQ:u < st.lanes.length:=by rw[hI.G.lanes];exact HA u hu
   obtain⟨ln,zJ⟩:∃ ln,st.lanes[u]? = some ln:=⟨_,getElem?_eq_getElem NQ⟩
   obtain⟨vl,Ea,xl,By,FU,HF,rfl,hL,_⟩:=Paired.at2 HE zJ
   refine⟨_,rfl,a.y,ys.zi,a.dy,_,_,rfl,AH.Y.ins,Y.cl,Y.n3,rfl,_,rfl,a.la,HC,(u:Int),_,rfl,rfl,zj.of HD,ak Ea,xl,By,_,rfl,hL.ins,rfl,_,rfl,_,rfl,x,ys.zh,dx,_,_,rfl,s2 _ _ AY,Y.ct,Y.t5,rfl,xl,By,FU,ln.r,ln.b,ln.h,(k:Int),t.gone,rfl,hL.ins,_,rfl,?_⟩
   have eo:cI st u k t.gone=bW ln.r ln.h k t.gone:=by unfold cI;rw[zJ]
   cases ho:bW ln.r ln.h k t.gone with
   | false=>exact aI (F3 (by rw[eo,ho]))
   | true=>exact aJ ⟨_,rfl,_,rfl,by show 3 <= sizeLine;decide,fun z hz=>EN (by rw[eo,ho]) _ _ ((zf.refl H2).new hz) ⟨z,rfl,ac⟩⟩
  ·exact q D2 HB _ ((s1.trans s2).new AF) (s1.free (s2.free AF)) ac (Paired.mono (fun _ _ z=>z.keep (zf.zC ((zf.refl H2).new AF))) hp)
theorem jL {H:Hp}{zB:List V}{qs:List (Int × Int)}(h:zN H zB qs):(qs.head? = none/\oR zB = .zD)∨∃ q pt,qs.head? = some q/\oR zB = .ref pt/\H pt=some (.tup [.int q.1, .int q.2]):=by
 cases h with
 | nil=>exact .inl ⟨rfl,rfl⟩
 | cons x r=>obtain⟨t,rfl,ht⟩:=x;exact .inr ⟨_,t,rfl,rfl,ht⟩
theorem Lv:ao ["table", "lane", "goal", "end"] ["table", "lane", "goal"] (ah PM):=L2.zQ
theorem yn {c:Cs}{J:TJ}{C f fw fe:Addr}{fd dw de:FuncData}(F:zH K "onward" "onward" PM f fd)(L:nu K c)(W:Wy K C fw dw J)(Gw:zg P w K mg base aD 3 fw dw ["self", "place", "goal", "came"] (fM J))
  (M:uE K c fe de) (Ge:zg P w K mg base aD 1 fe de ["self", "lane"] (sf c Prod.snd)):zg P w K mg base aD 4 f fd ["table", "lane", "goal"] (wI c C J):=by
 refine F.ok Lv (fun _ _ _ _ h=>?_) (fun _ _ _ s H _ Q E hr h=>?_)
 ·obtain⟨a,l,g,rfl,_⟩:=h
  rfl
 ·obtain⟨a,l,g,rfl,hT,hO,hl,hg,q⟩:=h
  have Ah:zm 1 _:=hr.mono (by decide)
  refine⟨_,af (az (i:=3) Lv.nd rfl (Or.inl rfl) (aC (al (pv 0) rfl) L.cl M.m Ge Ah M.b .nil ap (aa (pv 1) ad)))
   (ai (ar (dq (au bK (pv 3) (pv 2) (ax _)) (aP ad) (aC (pv 0) W.cl W.m Gw hr W.b .nil ap (aa (pv 3) (aa (pv 2) (aa (pv 1) ad))))))),?_⟩
  obtain⟨dx,fs,hx,hf,FV⟩:=hT.i
  have he:=getElem?_eq_getElem hl
  have FW:a.ps.getD l (0,0)=a.ps[l]:=by rw[getD_eq_getElem?_getD,he];rfl
  unfold n0 at q
  rw[FW]at q
  obtain⟨e,ee,Lw⟩:=hO.ends l _ he
  refine⟨_,rfl,a.tb,C,dx,fs,_,rfl,hx,W.cl,W.nl,hf,a.lx,a.zX,_,rfl,hT.l.1,rfl,_,rfl,a.lx,a.zX,a.lt,(a.n:Int),a.zw,a.ps,l,_,rfl,hT.l,he,?_⟩
  rw[ee]at q ⊢
  rw[toNat_natCast]at q
  refine⟨_,rfl,_,rfl,rfl,_,rfl,?_⟩
  rw[bY]
  by_cases h1:(e:Int)=(g:Int)
  ·rw[decide_eq_true h1]
   rw[if_pos h1]at q
   exact aJ ⟨zero_le _,fun D hD=>q D _ ((zf.refl H).new hD) hD ac⟩
  ·rw[decide_eq_false h1]
   rw[if_neg h1]at q
   exact aI ⟨_,rfl,a.tb,dx,fs,rfl,hx,FV,_,rfl,_,rfl,_,rfl,a.tb,a.n,a.wy,e,g,some l,rfl,hT.j,Lw,hg,fun D H' s' hD gD=>q D _ s' hD gD⟩
theorem EO:ao Vs ["self", "lane"] (ah gU):=L2.zQ
theorem Q5:As Vs (ah gU) (yG ((aG gU).getD 3 (.Pass ⟨0,0,0,0⟩))) ["letter"] [3]:=L2.Bs
theorem Q6:(["way", "letter"]:List Str).Nodup:=by decide +kernel
theorem qO {c:Cs}{ys:Ys}{J:TJ}{TC f fw ff fo:Addr}{fd dw df Cb:FuncData}(F:zH K "wanted" "Yard.wanted" gU f fd)(Y:fU K ys)(W:Wy K TC fw dw J)
  (mf:bA K ys.zI "front" ff) (bf:Binds K df ["self"] []) (Gf:zg P w K mg base aD 1 ff df ["self"] (iY ys.zI))
  (mo:mg "onward" = some (.ref fo)) (ko:keepIn K (.ref fo)=true) (bo:Binds K Cb ["table", "lane", "goal"] []) (Go:zg P w K mg base aD 4 fo Cb ["table", "lane", "goal"] (wI c TC J)) :
  zg P w K mg base aD 5 f fd ["self", "lane"] (gJ K c TC J ys):=by
 refine F.ok EO (fun _ _ _ _ h=>?_) (fun _ _ _ s H _ Q E hr h=>?_)
 ·obtain⟨a,s,k,rfl,_⟩:=h
  rfl
 ·obtain⟨a,st,k,rfl,hI,hk,q⟩:=h
  have Ah:zm 1 _:=hr.mono (by decide)
  refine⟨_,af (az (i:=2) EO.nd rfl (Or.inl rfl) (b7 (aA aQ (al (pv 0) rfl) (pv 1) (fun _ _=>rfl)) Y.L.cl mf Gf Ah bf .nil ap))
   (af (aM (au j9 (pv 2) ce (ax _)) (ai (ar (aP ad))) aF)
   (af (az (i:=3) EO.nd rfl (Or.inr rfl) (aA aQ (al (pv 0) rfl) (aA aE (pv 2) aj (fun _ _=>rfl)) (fun _ _=>rfl)))
   (af (aM (au bK (aA aE (pv 2) aj (fun _ _=>rfl)) aj (ax _))
    (ai (ar (aT (own:=["way"]) (capN:=["letter"]) (cap:=[3]) Q5 rfl (bx (ay Go hr rfl mo ko bo .nil ap (aa (al (pv 0) rfl) (aa (pv 1) (aa (al (pv 3) rfl) ad))))) (fun C s' H' fp=>⟨av (i:=0) Q6 rfl (Or.inl rfl),cb (au (show dI _ (compareOp .NotIn) (JB K true) from eI) (pv 0) (show PE _ _ (q5 K (nN 1) "way") from al (pv 1) rfl) (by with_unfolding_all rfl)),pv 0⟩)))) aF)
   (af (az (i:=4) EO.nd rfl (Or.inl rfl) (aB bN (cv plainAttrs_list PySem.F.slot_list_index PySem.F.type_list_index qU (al (pv 3) rfl) (aa (pv 1) ad)) aj))
   (ai (ar (fB gQ (al (pv 3) rfl) (eB (pv 4)) (eB (aB bN (pv 4) aj))))))))),?_⟩
  have hY:=hI.Y
  obtain⟨zv,Ac,D4⟩:=hY.Ap
  obtain⟨ln,zJ⟩:∃ ln,st.lanes[k]? = some ln:=⟨_,getElem?_eq_getElem hk⟩
  obtain⟨vl,Ea,xl,By,FU,HF,rfl,hL,_⟩:=Paired.at2 D4 zJ
  refine⟨_,rfl,a.y,ys.zi,a.dy,_,_,rfl,hY.ins,Y.cl,Y.n3,rfl,_,rfl,a.la,zv,(k:Int),_,rfl,rfl,zj.of Ac,ak Ea,xl,By,_,rfl,hL.ins,rfl,xl,By,FU,ln.r,ln.b,ln.h,HF,ln.qs,rfl,hL,?_⟩
  unfold bj aL at q
  rw[zJ]at q
  dsimp only at q
  rcases jL hL.Au with ⟨hf,ef⟩ | ⟨pq,pt,hf,ef,CB⟩
  ·rw[hf]at q
   rw[ef]
   exact⟨_,rfl,rfl,_,rfl,aJ ⟨zero_le _,fun D hD=>q D _ ((zf.refl H).new hD) hD ac⟩⟩
  rw[hf]at q
  rw[ef]
  have hqm:pq ∈ ln.qs:=mem_of_head? hf
  obtain⟨m,t,em,hm,Ep⟩:=hI.G.Au k ln zJ pq hqm
  obtain⟨x0,y0,e1,e2,EM,DZ⟩:=hI.G.lets m t hm
  obtain⟨C4,hw9⟩:=hI.G.Ad m t hm
  rw[em]at CB
  dsimp only at q
  rw[em,toNat_natCast,hm]at q
  dsimp only at q
  refine⟨_,rfl,rfl,_,rfl,aI ?_⟩
  obtain⟨zw,Av,pl⟩:=hY.hle
  obtain⟨v,hv,x,dx,wa,rfl,hx,hw,_⟩:=Paired.at2 pl hm
  refine⟨_,rfl,a.y,ys.zi,a.dy,_,_,rfl,hY.ins,Y.cl,Y.n4,rfl,_,rfl,pt,_,0,_,rfl,rfl,zt.of CB,ak (j:=0) rfl,a.le,zw,(m:Int),_,rfl,rfl,zj.of Av,ak hv,?_⟩
  refine⟨_,rfl,pt,_,1,_,rfl,rfl,zt.of CB,ak (j:=1) rfl,rfl,_,rfl,?_⟩
  rw[bY]
  by_cases h0:pq.2=0
  ·rw[decide_eq_true h0]
   rw[if_pos h0,e2,toNat_natCast]at q
   refine aJ ⟨_,rfl,a.y,ys.zi,a.dy,_,_,rfl,hY.ins,Y.cl,Y.n1,rfl,_,rfl,_,rfl,x,ys.zh,dx,_,_,rfl,hx,Y.ct,Y.t2,rfl,?_⟩
   rw[e2]
   refine⟨a,k,y0,rfl,hI.T,hI.O,by rw[← hI.G.lanes];exact hk,DZ,fun D H1 s1 hD gD=>⟨D,rfl,⟨_,zj.of gD⟩,?_⟩⟩
   have N0:(n0 a k y0).length <= 400:=by
    unfold n0
    by_cases z:(a.ps.getD k (0,0)).2=(y0:Int)
    ·rw[if_pos z];exact zero_le _
    ·rw[if_neg z];exact hI.O.Ao _ _ _
   refine ik (fun v=>match v with | .int i=>!decide (i ∈ iz t.way) | _=>false) (fun v=>v) (by rw[i9,sizeLine_eq];omega) (zj.of gD) (fun y acc N hy h=>?_) (fun D2 AF=>?_)
   ·obtain⟨u,hu,rfl⟩:=tQ hy
    refine⟨_,rfl,_,rfl,x,ys.zh,dx,_,_,rfl,s1 _ _ hx,Y.ct,Y.t6,rfl,wa,_,rfl, .inl (zj.of (s1 _ _ hw)),rfl,by rw[pS];exact dZ _,_,rfl,?_⟩
    rw[pS,ie]
    have h:N (if (!decide ((u:Int) ∈ iz t.way))=true then acc ++ [V.int u] else acc) H1:=h
    cases hb:decide ((u:Int) ∈ iz t.way) with
    | true =>
     rw[hb]at h
     exact aI h
    | false =>
     rw[hb]at h
     exact aJ ⟨_,rfl,h⟩
   ·have e:((nV (n0 a k y0)).filter (fun v=>match v with | .int i=>!decide (i ∈ iz t.way) | _=>false)).map (fun v=>v)=nV ((n0 a k y0).filter fun l=>!decide (l ∈ t.way)):=by
     rw[List.map_id']
     unfold nV
     rw[List.filter_map]
     congr 1
     refine List.filter_congr fun u _=>?_
     show(!decide ((u:Int) ∈ iz t.way))=_
     rw[oN]
    rw[e]
    exact q D2 _ (s1.new AF) (s1.free AF) ac
  ·rw[decide_eq_false h0]
   rw[if_neg h0]at q
   refine aI ⟨_,rfl,x,ys.zh,dx,_,_,rfl,hx,Y.ct,Y.t6,rfl, .inl ⟨rfl,_,zj.of hw⟩,_,rfl,wa,iz t.way,(k:Int),rfl,rfl,by rw[← pS];exact hw,Be.mpr ⟨k,Ep,rfl⟩,by unfold iz;rw[length_map];omega,_,_,rfl,rfl,?_⟩
   rw[uc]
   refine⟨_,rfl,x,ys.zh,dx,_,_,rfl,hx,Y.ct,Y.t6,rfl,_,rfl,_,rfl,_,rfl,_,_,rfl,rfl,_,rfl,wa,_,rfl,zj.of hw,fun D hD=>?_⟩
   have e:iH (nV t.way) (some (((t.way.idxOf k:Nat):Int) + 1)) (some (((t.way.idxOf k:Nat):Int) + 1 + 1))=nV ((t.way.drop (t.way.idxOf k + 1)).take 1):=by
    have:=wm t.way (t.way.idxOf k + 1)
    rw[← this]
    rfl
   dsimp only
   rw[e]
   exact q D _ ((zf.refl H).new hD) hD ac
theorem HG:ao Vt ["self", "lane"] (ah lS):=L2.zQ
theorem Q7:As Vt (ah lS) (xQ ((aG lS).getD 2 (.Pass ⟨0,0,0,0⟩))) ["self", "lane", "piece"] [0,1,2]:=L2.Bs
theorem Q8:(["other", "self", "lane", "piece"]:List Str).Nodup:=by decide +kernel
theorem vA {c:Cs}{ys:Ys}{J:TJ}{TC f fw ff fa fo:Addr}{fd dw df da Cb:FuncData}(F:zH K "moves_on" "Yard.moves_on" lS f fd)(Y:fU K ys)(W:Wy K TC fw dw J)
  (mf:bA K ys.zI "front" ff) (bf:Binds K df ["self"] []) (Gf:zg P w K mg base aD 1 ff df ["self"] (iY ys.zI))
  (ma:bA K ys.zi "wanted" fa) (ba:Binds K da ["self", "lane"] []) (Ga:zg P w K mg base aD 5 fa da ["self", "lane"] (gJ K c TC J ys))
  (mo:bA K ys.zI "open_to" fo) (bo:Binds K Cb ["self", "letter", "count"] []) (Go:zg P w K mg base aD 1 fo Cb ["self", "letter", "count"] (kY ys.zI)) :
  zg P w K mg base aD 6 f fd ["self", "lane"] (nT K c TC J ys):=by
 refine F.ok HG (fun _ _ _ _ h=>?_) (fun _ _ _ s H _ Q E hr h=>?_)
 ·obtain⟨a,s,k,rfl,_⟩:=h
  rfl
 ·obtain⟨a,st,k,rfl,hI,hk,q⟩:=h
  have Ah:zm 1 _:=hr.mono (by decide)
  refine⟨_,af (az (i:=2) HG.nd rfl (Or.inr rfl) (b7 (aA aQ (al (pv 0) rfl) (pv 1) (fun _ _=>rfl)) Y.L.cl mf Gf Ah bf .nil ap))
   (af (az (i:=3) HG.nd rfl (Or.inl rfl) (aC (pv 0) Y.cl ma Ga hr ba .nil ap (aa (pv 1) ad)))
   (ai (ar (aT (own:=["other"]) (capN:=["self", "lane", "piece"]) (cap:=[0,1,2]) Q7 rfl (bx (pv 3)) (fun C s' H' fp=>⟨av (i:=0) Q8 rfl (Or.inl rfl),cb (bQ (aC (aA (show n9 _ (vd K) from aQ) (show PE _ _ (q5 K (nN 1) "lanes") from al (pv 1) rfl) (pv 0) (fun _ _=>rfl)) Y.L.cl mo Go Ah bo .nil ap (aa (aA (show n9 _ (j5 K) from aE) (pv 3) aj (fun _ _=>rfl)) (aa (aA (show n9 _ (j5 K) from aE) (pv 3) aj (fun _ _=>rfl)) ad)))),bS (aa bG (aa (pv 2) (aa (pv 0) ad)))⟩))))),?_⟩
  have hY:=hI.Y
  obtain⟨zv,Ac,D4⟩:=hY.Ap
  obtain⟨ln,zJ⟩:∃ ln,st.lanes[k]? = some ln:=⟨_,getElem?_eq_getElem hk⟩
  obtain⟨vl,Ea,xl,By,FU,HF,rfl,hL,_⟩:=Paired.at2 D4 zJ
  refine⟨_,rfl,a.y,ys.zi,a.dy,_,_,rfl,hY.ins,Y.cl,Y.n3,rfl,_,rfl,a.la,zv,(k:Int),_,rfl,rfl,zj.of Ac,ak Ea,xl,By,_,rfl,hL.ins,rfl,xl,By,FU,ln.r,ln.b,ln.h,HF,ln.qs,rfl,hL,?_⟩
  refine⟨_,rfl,a.y,a.dy,_,rfl,hY.ins,rfl,_,rfl,a,st,k,rfl,hI,hk,fun D H1 s1 hD gD=>?_⟩
  refine⟨_,rfl,D,rfl,⟨_,zj.of gD⟩,?_⟩
  have Ba:=hI.same W s1
  have eF:aL st k=ln.qs.head?:=by unfold aL;rw[zJ]
  have HA:∀ u ∈ bj a st k,u < a.ps.length:=fun u hu=>by
   unfold bj at hu
   rw[eF]at hu
   cases hq:ln.qs.head? with
   | none=>rw[hq]at hu;cases hu
   | some pq =>
    rw[hq]at hu
    obtain⟨m,t,em,hm,Ep⟩:=hI.G.Au k ln zJ pq (mem_of_head? hq)
    obtain⟨x0,y0,e1,e2,EM,DZ⟩:=hI.G.lets m t hm
    dsimp only at hu
    rw[em,toNat_natCast,hm]at hu
    dsimp only at hu
    by_cases h0:pq.2=0
    ·rw[if_pos h0,e2,toNat_natCast]at hu
     have hu:=(mem_filter.mp hu).1
     unfold n0 at hu
     by_cases z:(a.ps.getD k (0,0)).2=(y0:Int)
     ·rw[if_pos z]at hu;cases hu
     ·rw[if_neg z]at hu
      have IJ:k < a.ps.length:=by rw[← hI.G.lanes];exact hk
      obtain⟨e,ee,Lw⟩:=hI.O.ends k _ (getElem?_eq_getElem IJ)
      have FW:a.ps.getD k (0,0)=a.ps[k]:=by rw[getD_eq_getElem?_getD,getElem?_eq_getElem IJ];rfl
      rw[FW,ee,toNat_natCast]at hu
      exact hI.T.ok _ _ _ Lw DZ u hu
    ·rw[if_neg h0]at hu
     exact(hI.G.Ad m t hm).1 u (mem_of_mem_drop (mem_of_mem_take hu))
  have C4:(bj a st k).length <= 1000:=by
   unfold bj
   cases aL st k with
   | none=>exact zero_le _
   | some pq =>
    dsimp only
    cases st.U[pq.1.toNat]? with
    | none=>exact zero_le _
    | some t =>
     dsimp only
     by_cases h0:pq.2=0
     ·rw[if_pos h0]
      refine le_trans (length_filter_le _ _) ?_
      unfold n0
      by_cases z:(a.ps.getD k (0,0)).2=((t.goal.toNat:Nat):Int)
      ·rw[if_pos z];exact zero_le _
      ·rw[if_neg z];exact le_trans (hI.O.Ao _ _ _) (by decide)
     ·rw[if_neg h0,length_take];omega
  unfold iA at q
  rw[eF]at q
  rcases jL hL.Au with ⟨hf,ef⟩ | ⟨pq,pt,hf,ef,CB⟩
  ·have e0:bj a st k=[]:=by unfold bj;rw[eF,hf]
   rw[hf]at q
   rw[e0]at gD
   refine lF (fun l=>false) (Mv.on k) (by rw[sizeLine_eq];decide) gD (fun u H2 acc N hu s2 EN F3=>by cases hu) (fun D2 HB H2 s2 AF hp=>?_)
   exact q D2 HB _ ((s1.trans s2).new AF) (s1.free (s2.free AF)) ac (Paired.mono (fun _ _ z=>z.keep (zf.zC ((zf.refl H2).new AF))) hp)
  rw[hf]at q
  dsimp only at q
  rw[ef]
  refine lF (fun l=>cI st l pq.1 pq.2) (Mv.on k) (by rw[sizeLine_eq];omega) gD (fun u H2 acc N hu s2 EN F3=>?_) (fun D2 HB H2 s2 AF hp=>?_)
  ·have AH:=Ba.same W s2
   obtain⟨HC,HD,HE⟩:=AH.Y.Ap
   have NQ:u < st.lanes.length:=by rw[hI.G.lanes];exact HA u hu
   obtain⟨zZ,AI⟩:∃ ln,st.lanes[u]? = some ln:=⟨_,getElem?_eq_getElem NQ⟩
   obtain⟨vu,hvu,xu,Vu,pau,pvu,rfl,Vv,_⟩:=Paired.at2 HE AI
   have DY:=s2 _ _ (s1 _ _ CB)
   refine⟨_,rfl,a.y,ys.zi,a.dy,_,_,rfl,AH.Y.ins,Y.cl,Y.n3,rfl,_,rfl,a.la,HC,(u:Int),_,rfl,rfl,zj.of HD,ak hvu,xu,Vu,_,rfl,Vv.ins,rfl,_,rfl,pt,_,0,_,rfl,rfl,zt.of DY,ak (j:=0) rfl,_,rfl,pt,_,1,_,rfl,rfl,zt.of DY,ak (j:=1) rfl,xu,Vu,pau,zZ.r,zZ.b,zZ.h,pq.1,pq.2,rfl,Vv.ins,_,rfl,?_⟩
   have eo:cI st u pq.1 pq.2=bW zZ.r zZ.h pq.1 pq.2:=by unfold cI;rw[AI]
   cases ho:bW zZ.r zZ.h pq.1 pq.2 with
   | false=>exact aI (F3 (by rw[eo,ho]))
   | true=>exact aJ ⟨_,rfl,_,rfl,by show 3 <= sizeLine;decide,fun z hz=>EN (by rw[eo,ho]) _ _ ((zf.refl H2).new hz) ⟨z,rfl,ac⟩⟩
  ·exact q D2 HB _ ((s1.trans s2).new AF) (s1.free (s2.free AF)) ac (Paired.mono (fun _ _ z=>z.keep (zf.zC ((zf.refl H2).new AF))) hp)
theorem Lx:ao ["self", "lane", "piece"] ["self", "lane"] (ah oi):=L2.zQ
theorem t7 {c:Cs}{ys:Ys}{J:TJ}{TC f fw ff fe:Addr}{fd dw df de:FuncData}(F:zH K "moves_lie" "Yard.moves_lie" oi f fd)(Y:fU K ys)(L:nu K c)(W:Wy K TC fw dw J)
  (mf:bA K ys.zI "front" ff) (bf:Binds K df ["self"] []) (Gf:zg P w K mg base aD 1 ff df ["self"] (iY ys.zI)) (M:uE K c fe de) (Ge:zg P w K mg base aD 1 fe de ["self", "lane"] (sf c Prod.snd)) :
  zg P w K mg base aD 2 f fd ["self", "lane"] (p8 K c TC J ys):=by
 refine F.ok Lx (fun _ _ _ _ h=>?_) (fun _ _ _ s H _ Q E hr h=>?_)
 ·obtain⟨a,s,k,rfl,_⟩:=h
  rfl
 ·obtain⟨a,st,k,rfl,hI,hk,q⟩:=h
  refine⟨_,af (az (i:=2) Lx.nd rfl (Or.inl rfl) (b7 (aA aQ (al (pv 0) rfl) (pv 1) (fun _ _=>rfl)) Y.L.cl mf Gf hr bf .nil ap))
   (af (aM (PW.pt (hG (au j9 (pv 2) ce (ax _)) (eA (au m5 (al (aA aQ (al (pv 0) rfl) (aA aE (pv 2) aj (fun _ _=>rfl)) (fun _ _=>rfl)) rfl) (aC (al (al (pv 0) rfl) rfl) L.cl M.m Ge hr M.b .nil ap (aa (pv 1) ad)) (ax _))))) (ai (ar (aP ad))) aF)
   (ai (ar (aP (aa (bS (aa bG (aa (pv 1) ad))) ad))))),?_⟩
  have hY:=hI.Y
  obtain⟨zv,Ac,D4⟩:=hY.Ap
  obtain⟨ln,zJ⟩:∃ ln,st.lanes[k]? = some ln:=⟨_,getElem?_eq_getElem hk⟩
  obtain⟨vl,Ea,xl,By,FU,HF,rfl,hL,_⟩:=Paired.at2 D4 zJ
  refine⟨_,rfl,a.y,ys.zi,a.dy,_,_,rfl,hY.ins,Y.cl,Y.n3,rfl,_,rfl,a.la,zv,(k:Int),_,rfl,rfl,zj.of Ac,ak Ea,xl,By,_,rfl,hL.ins,rfl,xl,By,FU,ln.r,ln.b,ln.h,HF,ln.qs,rfl,hL,?_⟩
  have eF:aL st k=ln.qs.head?:=by unfold aL;rw[zJ]
  unfold eV at q
  rw[eF]at q
  rcases jL hL.Au with ⟨hf,ef⟩ | ⟨pq,pt,hf,ef,CB⟩
  ·rw[hf]at q
   rw[ef]
   exact⟨_,rfl,rfl,_,rfl,aJ (aJ ⟨zero_le _,fun D hD=>q D [] _ ((zf.refl H).new hD) hD ac .nil⟩)⟩
  rw[hf]at q
  rw[ef]
  obtain⟨m,t,em,hm,Ep⟩:=hI.G.Au k ln zJ pq (mem_of_head? hf)
  rw[em]at CB
  dsimp only at q
  rw[em,toNat_natCast,hm]at q
  dsimp only at q
  obtain⟨zw,Av,pl⟩:=hY.hle
  obtain⟨v,hv,x,dx,wa,rfl,hx,hw,_⟩:=Paired.at2 pl hm
  obtain⟨Bf,fst,AJ,zM,Af⟩:=hI.T.i
  have IJ:k < a.ps.length:=by rw[← hI.G.lanes];exact hk
  have he:=getElem?_eq_getElem IJ
  have FW:a.ps.getD k (0,0)=a.ps[k]:=by rw[getD_eq_getElem?_getD,he];rfl
  rw[FW]at q
  refine⟨_,rfl,rfl,_,rfl,aI ⟨_,rfl,a.y,ys.zi,a.dy,_,_,rfl,hY.ins,Y.cl,Y.n4,rfl,_,rfl,pt,_,0,_,rfl,rfl,zt.of CB,ak (j:=0) rfl,a.le,zw,(m:Int),_,rfl,rfl,zj.of Av,ak hv,x,ys.zh,dx,_,_,rfl,hx,Y.ct,Y.t2,rfl,_,rfl,a.y,ys.zi,a.dy,_,_,rfl,hY.ins,Y.cl,Y.n1,rfl,a.tb,TC,Bf,fst,_,rfl,AJ,W.cl,W.nl,zM,a.lx,a.zX,_,rfl,hI.T.l.1,rfl,_,rfl,a.lx,a.zX,a.lt,(a.n:Int),a.zw,a.ps,k,_,rfl,hI.T.l,he,rfl,_,rfl,?_⟩⟩
  rw[bY]
  by_cases hg:t.goal=a.ps[k].2
  ·rw[decide_eq_true hg]
   rw[if_pos hg]at q
   refine aI ⟨_,rfl,by show 2 <= sizeLine;decide,fun z hz=>⟨by show 1 <= sizeLine;decide,fun D hD=>?_⟩⟩
   have s2:=(zf.refl H).new (o := .tup [.str "lie", .int k]) hz
   have gz:(upd H z (.tup [.str "lie", .int k])) z=some (.tup [.str "lie", .int k]):=ac
   exact q D [.ref z] _ (s2.new hD) (s2.free hD) ac (.cons ⟨z,rfl,by rw[ae (ag gz hD)];exact gz⟩ .nil)
  ·rw[decide_eq_false hg]
   rw[if_neg hg]at q
   exact aJ ⟨zero_le _,fun D hD=>q D [] _ ((zf.refl H).new hD) hD ac .nil⟩
theorem Q9:ao ["self", "lane"] ["self", "lane"] (ah lp):=L2.zQ
theorem qQ {c:Cs}{ys:Ys}{J:TJ}{TC f:Addr}{fd:FuncData}(F:zH K "moves_back" "Yard.moves_back" lp f fd)(Y:fU K ys):zg P w K mg base aD 1 f fd ["self", "lane"] (jq K c TC J ys):=by
 refine F.ok Q9 (fun _ _ _ _ h=>?_) (fun _ _ _ s H _ Q E hr h=>?_)
 ·obtain⟨a,s,k,rfl,_⟩:=h
  rfl
 ·obtain⟨a,st,k,rfl,hI,hk,q⟩:=h
  refine⟨_,ai (ar (dq (au m6 (al (aA aQ (al (pv 0) rfl) (pv 1) (fun _ _=>rfl)) rfl) aj (ax _)) (aP (aa (bS (aa bG (aa (pv 1) ad))) ad)) (aP ad))),?_⟩
  have hY:=hI.Y
  obtain⟨zv,Ac,D4⟩:=hY.Ap
  obtain⟨ln,zJ⟩:∃ ln,st.lanes[k]? = some ln:=⟨_,getElem?_eq_getElem hk⟩
  obtain⟨vl,Ea,xl,By,FU,HF,rfl,hL,_⟩:=Paired.at2 D4 zJ
  unfold dA at q
  dsimp only at q
  rw[zJ]at q
  dsimp only at q
  refine⟨_,rfl,a.y,ys.zi,a.dy,_,_,rfl,hY.ins,Y.cl,Y.n3,rfl,_,rfl,a.la,zv,(k:Int),_,rfl,rfl,zj.of Ac,ak Ea,xl,ys.zI,By,_,_,rfl,hL.ins,Y.L.cl,Y.L.n2,rfl,_,_,rfl,rfl,_,rfl,?_⟩
  by_cases hb:0 < ln.b
  ·rw[decide_eq_true hb]
   rw[if_pos hb]at q
   refine aJ ⟨_,rfl,by show 2 <= sizeLine;decide,fun z hz=>⟨by show 1 <= sizeLine;decide,fun D hD=>?_⟩⟩
   have s2:=(zf.refl H).new (o := .tup [.str "back", .int k]) hz
   have gz:(upd H z (.tup [.str "back", .int k])) z=some (.tup [.str "back", .int k]):=ac
   exact q D [.ref z] _ (s2.new hD) (s2.free hD) ac (.cons ⟨z,rfl,by rw[ae (ag gz hD)];exact gz⟩ .nil)
  ·rw[decide_eq_false hb]
   rw[if_neg hb]at q
   exact aI ⟨zero_le _,fun D hD=>q D [] _ ((zf.refl H).new hD) hD ac .nil⟩
theorem jE {H:Hp}{F:Addr}{xs:List V}{o:HO}(h:H F=some (.lst xs)):zG H (upd H F o):=fun b u e n=>by
 have nb:b ≠ F:=fun z=>by rw[z,h]at e;cases e;exact n
 rw[ae nb];exact e
theorem dY {α:Type}(f:Nat->List α)(i:Nat):(List.range (i + 1)).flatMap f=(List.range i).flatMap f ++ f i:=by
 rw[range_succ,List.flatMap_append];simp
theorem b9 {α:Type}{f:Nat->List α}(h:∀ i,(f i).length <= 1000):∀ i,((List.range i).flatMap f).length <= 1000 * i
 | 0=>by simp
 | i + 1=>by rw[dY,length_append];have:=b9 h i;have:=h i;omega
theorem dS {a:YA}{s:YS}(O:Lu a)(G:Q2 a s)(k:Nat):(ia a s k).length <= 1000:=by
 unfold ia
 cases ht:s.U[k]? with
 | none=>exact zero_le _
 | some t =>
  dsimp only
  by_cases hg:t.gone=t.len
  ·rw[if_pos hg];exact zero_le _
  rw[if_neg hg,length_map]
  refine le_trans (length_filter_le _ _) ?_
  unfold aV
  by_cases h0:t.gone=0
  ·rw[if_pos h0];exact le_trans (O.Ao _ _ _) (by decide)
  ·rw[if_neg h0,length_take];omega
theorem dR {a:YA}{s:YS}(O:Lu a)(k:Nat):(iA a s k).length <= 1000:=by
 unfold iA
 cases hq:aL s k with
 | none=>exact zero_le _
 | some pq =>
  dsimp only
  rw[length_map]
  refine le_trans (length_filter_le _ _) ?_
  unfold bj
  rw[hq]
  dsimp only
  cases s.U[pq.1.toNat]? with
  | none=>exact zero_le _
  | some t =>
   dsimp only
   by_cases h0:pq.2=0
   ·rw[if_pos h0]
    refine le_trans (length_filter_le _ _) ?_
    unfold n0
    by_cases z:(a.ps.getD k (0,0)).2=((t.goal.toNat:Nat):Int)
    ·rw[if_pos z];exact zero_le _
    ·rw[if_neg z];exact le_trans (O.Ao _ _ _) (by decide)
   ·rw[if_neg h0,length_take];omega
theorem cX (a:YA)(s:YS)(k:Nat):(eV a s k).length <= 1000:=by
 unfold eV
 cases aL s k with
 | none=>exact zero_le _
 | some pq =>
  dsimp only
  cases s.U[pq.1.toNat]? with
  | none=>exact zero_le _
  | some t =>
   dsimp only
   by_cases h0:t.goal=(a.ps.getD k (0,0)).2
   ·rw[if_pos h0];show 1 <= 1000;decide
   ·rw[if_neg h0];exact zero_le _
theorem jB (s:YS)(k:Nat):(dA s k).length <= 1000:=by
 unfold dA
 cases s.lanes[k]? with
 | none=>exact zero_le _
 | some ln =>
  dsimp only
  by_cases h0:0 < ln.b
  ·rw[if_pos h0];show 1 <= 1000;decide
  ·rw[if_neg h0];exact zero_le _
noncomputable def bT (a:YA)(s:YS):List Mv:=(List.range s.U.length).flatMap (ia a s) ++ (List.range s.lanes.length).flatMap (iA a s) ++ (List.range s.lanes.length).flatMap (eV a s) ++ (List.range s.lanes.length).flatMap (dA s)
noncomputable def gK (K:Frag)(c:Cs)(TC:Addr)(J:TJ)(ys:Ys):Sp:=fun vs H Q _=>∃ (a:YA)(s:YS),vs=[.ref a.y]/\B6 K c TC J ys H a s /\
 ∀ (D:Addr)(zK:List V)(H':Hp),zf H H'->H D=none->H' D=some (.lst zK)->Paired (AQ H') zK ((bT a s).map fW)->Q (.ref D) H'
theorem Paired.app {α β:Type}{R:α->β->Prop}{cs:List α}{ds:List β}(h:Paired R cs ds):∀ {as:List α}{bs:List β},Paired R as bs->Paired R (as ++ cs) (bs ++ ds):=fun zk=>by
 induction zk with
 | nil=>exact h
 | cons x r ih=>exact .cons x ih
theorem jf {H H2 H3:Hp}{F:Addr}{vs zK:List V}{xs ys:List Mv}(nF:H F=none)(s2:zf H H2)(g2:H2 F=some (.lst vs))(p2:Paired (AQ H2) vs (xs.map fW))(s3:zf H2 H3)(p3:Paired (AQ H3) zK (ys.map fW)) :
  zf H (upd H3 F (.lst (vs ++ zK)))/\(upd H3 F (.lst (vs ++ zK))) F=some (.lst (vs ++ zK))/\Paired (AQ (upd H3 F (.lst (vs ++ zK)))) (vs ++ zK) ((xs ++ ys).map fW):=by
 refine⟨fun b o e=>by rw[ae (ag e nF)];exact s3 _ _ (s2 _ _ e),ac,?_⟩
 have kk:zG H3 (upd H3 F (.lst (vs ++ zK))):=jE (s3 _ _ g2)
 rw[map_append]
 have q2:=Paired.mono (fun _ _ z=>z.keep (zG.trans (zf.zC s3) kk)) p2
 have q3:=Paired.mono (fun _ _ z=>z.keep kk) p3
 exact Paired.app q3 q2
noncomputable abbrev NMs:List Str:=["self", "found", "number", "lane"]
theorem Dr:ao NMs ["self"] (ah oj):=L2.zQ
structure QA (P:Program)(w:World)(K:Frag)(mg:Str->Option Value)(base:Heap)(c:Cs)(TC:Addr)(J:TJ)(ys:Ys)(fi fo fl fb:Addr)(di Cb dl db:FuncData):Prop where
 mi:bA K ys.zi "moves_in" fi
 bi:Binds K di ["self", "number"] []
 Gi:zg P w K mg base aD 4 fi di ["self", "number"] (nU K c TC J ys)
 mo:bA K ys.zi "moves_on" fo
 bo:Binds K Cb ["self", "lane"] []
 Go:zg P w K mg base aD 6 fo Cb ["self", "lane"] (nT K c TC J ys)
 ml:bA K ys.zi "moves_lie" fl
 bl:Binds K dl ["self", "lane"] []
 Gl:zg P w K mg base aD 2 fl dl ["self", "lane"] (p8 K c TC J ys)
 mb:bA K ys.zi "moves_back" fb
 bb:Binds K db ["self", "lane"] []
 Gb:zg P w K mg base aD 1 fb db ["self", "lane"] (jq K c TC J ys)
theorem t8 {c:Cs}{ys:Ys}{J:TJ}{TC f fw fi fo fl fb:Addr}{fd dw di Cb dl db:FuncData}(F:zH K "moves" "Yard.moves" oj f fd)(T:eW mg)(Y:fU K ys)(W:Wy K TC fw dw J)(M:QA P w K mg base c TC J ys fi fo fl fb di Cb dl db) :
  zg P w K mg base aD 7 f fd ["self"] (gK K c TC J ys):=by
 refine F.ok Dr (fun _ _ _ _ h=>?_) (fun _ _ _ s H _ Q E hr h=>?_)
 ·obtain⟨a,s,rfl,_⟩:=h
  rfl
 ·obtain⟨a,st,rfl,hI,q⟩:=h
  have Ah:zm 1 _:=hr.mono (by decide)
  have Ai:zm 2 _:=hr.mono (by decide)
  have C9:zm 4 _:=hr.mono (by decide)
  refine⟨_,af (az (i:=1) Dr.nd rfl (Or.inl rfl) (aP ad))
   (af (bR PassesOwn.never rfl (aX rfl T.range (aa (aw aq rfl T.len PySem.boot_len (aa (al (pv 0) rfl) ad)) ad)) (av (i:=2) Dr.nd rfl (Or.inl rfl)) (ai (aN (cv plainAttrs_list slot_list_extend type_list_extend fR (pv 1) (aa (aC (pv 0) Y.cl M.mi M.Gi C9 M.bi .nil ap (aa (pv 2) ad)) ad)))))
   (af (bR PassesOwn.never rfl (aX rfl T.range (aa (aw aq rfl T.len PySem.boot_len (aa (al (pv 0) rfl) ad)) ad)) (av (i:=3) Dr.nd rfl (Or.inl rfl)) (ai (aN (cv plainAttrs_list slot_list_extend type_list_extend fR (pv 1) (aa (aC (pv 0) Y.cl M.mo M.Go hr M.bo .nil ap (aa (pv 3) ad)) ad)))))
   (af (bR PassesOwn.never rfl (aX rfl T.range (aa (aw aq rfl T.len PySem.boot_len (aa (al (pv 0) rfl) ad)) ad)) (av (i:=3) Dr.nd rfl (Or.inl rfl)) (ai (aN (cv plainAttrs_list slot_list_extend type_list_extend fR (pv 1) (aa (aC (pv 0) Y.cl M.ml M.Gl Ai M.bl .nil ap (aa (pv 3) ad)) ad)))))
   (af (bR PassesOwn.never rfl (aX rfl T.range (aa (aw aq rfl T.len PySem.boot_len (aa (al (pv 0) rfl) ad)) ad)) (av (i:=3) Dr.nd rfl (Or.inl rfl)) (ai (aN (cv plainAttrs_list slot_list_extend type_list_extend fR (pv 1) (aa (aC (pv 0) Y.cl M.mb M.Gb Ah M.bb .nil ap (aa (pv 3) ad)) ad)))))
   (ai (ar (pv 1))))))),?_⟩
  have hlet:=hI.G.Ao
  have ER:st.lanes.length <= 40:=by rw[hI.G.lanes];exact hI.T.Ao
  refine⟨zero_le _,fun Fd Er=>?_⟩
  have s0:=(zf.refl H).new (o := .lst []) Er
  have g0:(upd H Fd (.lst [])) Fd=some (.lst []):=ac
  show dD 1 (V.ref Fd) _ _ _
  generalize upd H Fd (.lst [])=H0 at s0 g0 ⊢
  have QB:∃ vs,zf H H0/\H0 Fd=some (.lst vs)/\Paired (AQ H0) vs (([]:List Mv).map fW):=⟨[],s0,g0, .nil⟩
  obtain⟨DX,Vw,g0',p0'⟩:=QB
  have Vx:=(hI.same W Vw).Y
  obtain⟨Vy,gl0,pl0⟩:=Vx.hle
  have QC:Vy.length=st.U.length:=Paired.length pl0
  refine⟨_,rfl,a.y,ys.zi,a.dy,_,_,rfl,Vx.ins,Y.cl,Y.n4,rfl,a.le,_,rfl, .inl (zj.of gl0),((Vy.length:Nat):Int),rfl,by omega,by omega,?_⟩
  rw[toNat_natCast,QC]
  refine bP (n:=st.U.length) (fun i σ H2=>∃ a2 a3:Option V,(∃ vs,zf H H2/\H2 Fd=some (.lst vs)/\Paired (AQ H2) vs (((List.range i).flatMap (ia a st)).map fW))/\σ=[some (.ref a.y),some (.ref Fd),a2,a3]) ?_ ?_ ?_
  ·exact⟨_,_,⟨DX,Vw,g0',by simpa using p0'⟩,rfl⟩
  ·rintro i σ H2 hi ⟨a2,a3,⟨vs,s2,g2,p2⟩,rfl⟩
   rw[zero_add]
   have AH:=hI.same W s2
   refine⟨_,rfl, .inl ⟨rfl,_,zj.of g2⟩,_,rfl,a.y,a.dy,_,rfl,AH.Y.ins,rfl,_,rfl,a,st,i,rfl,AH,hi,fun D zK H3 s3 hD gD hp=>?_⟩
   have l1:vs.length <= 1000000:=by
    rw[Paired.length p2,length_map]
    have h0:=b9 (dS hI.O hI.G) st.U.length
    have h1:=b9 (dR (s:=st) hI.O) st.lanes.length
    have h2:=b9 (cX a st) st.lanes.length
    have hh:=b9 (dS hI.O hI.G) i
    try simp only[length_append]
    omega
   have l2:zK.length <= 1000:=by rw[Paired.length hp,length_map];exact(dS hI.O hI.G) i
   obtain⟨q1,q2,q3⟩:=jf Er s2 g2 p2 s3 hp
   refine⟨Fd,D,vs,zK,rfl,rfl,s3 _ _ g2,gD,by rw[sizeLine_eq];omega,?_⟩
   refine⟨_,_,⟨vs ++ zK,q1,q2,?_⟩,rfl⟩
   rw[dY]
   exact q3
  rintro σ0 H1 ⟨a20,a30,inv1,rfl⟩
  obtain⟨vs1,Vz,Ly,p1'⟩:=inv1
  have Bg:=(hI.same W Vz).Y
  obtain⟨V0,gl1,Q0⟩:=Bg.Ap
  have QD:V0.length=st.lanes.length:=Paired.length Q0
  refine⟨_,rfl,a.y,ys.zi,a.dy,_,_,rfl,Bg.ins,Y.cl,Y.n3,rfl,a.la,_,rfl, .inl (zj.of gl1),((V0.length:Nat):Int),rfl,by omega,by omega,?_⟩
  rw[toNat_natCast,QD]
  refine bP (n:=st.lanes.length) (fun i σ H2=>∃ a2 a3:Option V,(∃ vs,zf H H2/\H2 Fd=some (.lst vs)/\Paired (AQ H2) vs ((((List.range st.U.length).flatMap (ia a st)) ++ (List.range i).flatMap (iA a st)).map fW))/\σ=[some (.ref a.y),some (.ref Fd),a2,a3]) ?_ ?_ ?_
  ·exact⟨_,_,⟨vs1,Vz,Ly,by simpa using p1'⟩,rfl⟩
  ·rintro i σ H2 hi ⟨a2,a3,⟨vs,s2,g2,p2⟩,rfl⟩
   rw[zero_add]
   have AH:=hI.same W s2
   refine⟨_,rfl, .inl ⟨rfl,_,zj.of g2⟩,_,rfl,a.y,a.dy,_,rfl,AH.Y.ins,rfl,_,rfl,a,st,i,rfl,AH,hi,fun D zK H3 s3 hD gD hp=>?_⟩
   have l1:vs.length <= 1000000:=by
    rw[Paired.length p2,length_map]
    have h0:=b9 (dS hI.O hI.G) st.U.length
    have h1:=b9 (dR (s:=st) hI.O) st.lanes.length
    have h2:=b9 (cX a st) st.lanes.length
    have hh:=b9 (dR (s:=st) hI.O) i
    try simp only[length_append]
    omega
   have l2:zK.length <= 1000:=by rw[Paired.length hp,length_map];exact(dR (s:=st) hI.O) i
   obtain⟨q1,q2,q3⟩:=jf Er s2 g2 p2 s3 hp
   refine⟨Fd,D,vs,zK,rfl,rfl,s3 _ _ g2,gD,by rw[sizeLine_eq];omega,?_⟩
   refine⟨_,_,⟨vs ++ zK,q1,q2,?_⟩,rfl⟩
   rw[dY]
   rw[← append_assoc];exact q3
  rintro σ1 H2 ⟨a21,a31,inv2,rfl⟩
  obtain⟨HB,V1,NR,p2'⟩:=inv2
  have BF:=(hI.same W V1).Y
  obtain⟨V2,gl2,pl2⟩:=BF.Ap
  have QE:V2.length=st.lanes.length:=Paired.length pl2
  refine⟨_,rfl,a.y,ys.zi,a.dy,_,_,rfl,BF.ins,Y.cl,Y.n3,rfl,a.la,_,rfl, .inl (zj.of gl2),((V2.length:Nat):Int),rfl,by omega,by omega,?_⟩
  rw[toNat_natCast,QE]
  refine bP (n:=st.lanes.length) (fun i σ H2=>∃ a2 a3:Option V,(∃ vs,zf H H2/\H2 Fd=some (.lst vs)/\Paired (AQ H2) vs ((((List.range st.U.length).flatMap (ia a st) ++ (List.range st.lanes.length).flatMap (iA a st)) ++ (List.range i).flatMap (eV a st)).map fW))/\σ=[some (.ref a.y),some (.ref Fd),a2,a3]) ?_ ?_ ?_
  ·exact⟨_,_,⟨HB,V1,NR,by simpa using p2'⟩,rfl⟩
  ·rintro i σ H2 hi ⟨a2,a3,⟨vs,s2,g2,p2⟩,rfl⟩
   rw[zero_add]
   have AH:=hI.same W s2
   refine⟨_,rfl, .inl ⟨rfl,_,zj.of g2⟩,_,rfl,a.y,a.dy,_,rfl,AH.Y.ins,rfl,_,rfl,a,st,i,rfl,AH,hi,fun D zK H3 s3 hD gD hp=>?_⟩
   have l1:vs.length <= 1000000:=by
    rw[Paired.length p2,length_map]
    have h0:=b9 (dS hI.O hI.G) st.U.length
    have h1:=b9 (dR (s:=st) hI.O) st.lanes.length
    have h2:=b9 (cX a st) st.lanes.length
    have hh:=b9 (cX a st) i
    try simp only[length_append]
    omega
   have l2:zK.length <= 1000:=by rw[Paired.length hp,length_map];exact(cX a st) i
   obtain⟨q1,q2,q3⟩:=jf Er s2 g2 p2 s3 hp
   refine⟨Fd,D,vs,zK,rfl,rfl,s3 _ _ g2,gD,by rw[sizeLine_eq];omega,?_⟩
   refine⟨_,_,⟨vs ++ zK,q1,q2,?_⟩,rfl⟩
   rw[dY]
   rw[← append_assoc];exact q3
  rintro σ2 H3 ⟨a22,a32,QF,rfl⟩
  obtain⟨vs3,V3,g3',p3'⟩:=QF
  have B5:=(hI.same W V3).Y
  obtain⟨V4,gl3,pl3⟩:=B5.Ap
  have QG:V4.length=st.lanes.length:=Paired.length pl3
  refine⟨_,rfl,a.y,ys.zi,a.dy,_,_,rfl,B5.ins,Y.cl,Y.n3,rfl,a.la,_,rfl, .inl (zj.of gl3),((V4.length:Nat):Int),rfl,by omega,by omega,?_⟩
  rw[toNat_natCast,QG]
  refine bP (n:=st.lanes.length) (fun i σ H2=>∃ a2 a3:Option V,(∃ vs,zf H H2/\H2 Fd=some (.lst vs)/\Paired (AQ H2) vs ((((List.range st.U.length).flatMap (ia a st) ++ (List.range st.lanes.length).flatMap (iA a st) ++ (List.range st.lanes.length).flatMap (eV a st)) ++ (List.range i).flatMap (dA st)).map fW))/\σ=[some (.ref a.y),some (.ref Fd),a2,a3]) ?_ ?_ ?_
  ·exact⟨_,_,⟨vs3,V3,g3',by simpa using p3'⟩,rfl⟩
  ·rintro i σ H2 hi ⟨a2,a3,⟨vs,s2,g2,p2⟩,rfl⟩
   rw[zero_add]
   have AH:=hI.same W s2
   refine⟨_,rfl, .inl ⟨rfl,_,zj.of g2⟩,_,rfl,a.y,a.dy,_,rfl,AH.Y.ins,rfl,_,rfl,a,st,i,rfl,AH,hi,fun D zK H3 s3 hD gD hp=>?_⟩
   have l1:vs.length <= 1000000:=by
    rw[Paired.length p2,length_map]
    have h0:=b9 (dS hI.O hI.G) st.U.length
    have h1:=b9 (dR (s:=st) hI.O) st.lanes.length
    have h2:=b9 (cX a st) st.lanes.length
    have hh:=b9 (jB st) i
    try simp only[length_append]
    omega
   have l2:zK.length <= 1000:=by rw[Paired.length hp,length_map];exact(jB st) i
   obtain⟨q1,q2,q3⟩:=jf Er s2 g2 p2 s3 hp
   refine⟨Fd,D,vs,zK,rfl,rfl,s3 _ _ g2,gD,by rw[sizeLine_eq];omega,?_⟩
   refine⟨_,_,⟨vs ++ zK,q1,q2,?_⟩,rfl⟩
   rw[dY]
   rw[← append_assoc];exact q3
  rintro σ3 H4 ⟨a23,a33,QH,rfl⟩
  obtain⟨vs,s2,g2,p2⟩:=QH
  exact⟨_,rfl,q Fd vs _ s2 Er g2 p2⟩
structure Lz (K:Frag):Prop where
 ss:kitOne K (.type "str") (.type "str")=some true
 ns:kitOne K (.type "int") (.type "str")=some false
 tt:kitOne K (.type "tuple") (.type "tuple")=some true
theorem iS {a b:Str}(h:a ≠ b):decide (V.str a=V.str b)=false:=decide_eq_false fun z=>h (by injection z)
theorem ju (a:Str):decide (V.str a=V.str a)=true:=decide_eq_true rfl
noncomputable def rV:Sp:=fun vs H Q _=>∃ (p:Addr)(xs:List V),vs=[.ref p]/\H p=some (.tup xs)/\xs.length <= 100/\(∀ x ∈ xs,(∃ t,x = .str t)∨∃ i,x = .int i)/\∀ H',zf H H'->Q (.bl true) H'
noncomputable def wr (s:Stmt):Scope:=match s with
 | .Return (some (.BoolOp _ [_, .Call _ [.ListComp _ _ sc _] _ _] _)) _=>sc
 | _=>zQ0
theorem mB (m:Mv):(fW m).length <= 100/\∀ x ∈ fW m,(∃ t,x=V.str t)∨∃ i,x=V.int i:=by
 cases m<;>refine⟨by simp[fW],fun x hx=>?_⟩<;>simp only[fW,mem_cons,not_mem_nil,or_false]at hx
 ·rcases hx with rfl | rfl | rfl
  ·exact .inl ⟨_,rfl⟩
  ·exact .inr ⟨_,rfl⟩
  ·exact .inr ⟨_,rfl⟩
 ·rcases hx with rfl | rfl | rfl
  ·exact .inl ⟨_,rfl⟩
  ·exact .inr ⟨_,rfl⟩
  ·exact .inr ⟨_,rfl⟩
 ·rcases hx with rfl | rfl
  ·exact .inl ⟨_,rfl⟩
  ·exact .inr ⟨_,rfl⟩
 ·rcases hx with rfl | rfl
  ·exact .inl ⟨_,rfl⟩
  ·exact .inr ⟨_,rfl⟩
noncomputable def pW (a:YA)(s:YS):Mv->List Mv
 | .AU k _=>ia a s k
 | .on k _=>iA a s k
 | .AK k=>eV a s k
 | .back k=>dA s k
noncomputable def wT (s:YS):Mv->Prop
 | .AU k _=>k < s.U.length
 | .on k _=>k < s.lanes.length
 | .AK k=>k < s.lanes.length
 | .back k=>k < s.lanes.length
noncomputable def rS (K:Frag)(c:Cs)(TC:Addr)(J:TJ)(ys:Ys):Sp:=fun vs H Q _=>∃ (a:YA)(s:YS)(p:Addr)(m:Mv),vs=[.ref a.y, .ref p]/\B6 K c TC J ys H a s/\H p=some (.tup (fW m))/\wT s m /\
 ∀ (D:Addr)(zK:List V)(H':Hp),zf H H'->H D=none->H' D=some (.lst zK)->Paired (AQ H') zK ((pW a s m).map fW)->Q (.ref D) H'
theorem QI:ao ["move"] ["move"] (ah lV):=L2.zQ
theorem QJ:As ["move"] (ah lV) (wr ((aG lV).getD 0 (.Pass ⟨0,0,0,0⟩))) [] []:=L2.Bs
theorem QK:(["thing"]:List Str).Nodup:=by decide +kernel
theorem vJ {f fh:Addr}{fd dh:FuncData}(F:zH K "is_move" "is_move" lV f fd)(T:eW mg)(Z:Lz K)(mh:mg "is_whole" = some (.ref fh))(kh:keepIn K (.ref fh)=true)(bh:Binds K dh ["value"] [])(G:zg P w K mg base aD 1 fh dh ["value"] gI) :
  zg P w K mg base aD 2 f fd ["move"] rV:=by
 refine F.ok QI (fun _ _ _ _ h=>?_) (fun _ _ _ s H _ Q E hr h=>?_)
 ·obtain⟨p,xs,rfl,_⟩:=h
  rfl
 ·obtain⟨p,xs,rfl,hp,hl,hx,q⟩:=h
  refine⟨_,ai (ar (c5 (aw il rfl T.Iz PyProof.Rows.boot_isinstance (aa (pv 0) (aa (fP (v := .ty "tuple") rfl T.tuple PySem.Pv.boot_tuple rfl) ad)))
   (c4 (aw (jR rfl) rfl T.all PyProof.Rows.boot_all (aa (aT (own:=["thing"]) (capN:=[]) (cap:=[]) QJ rfl (j7 (pv 0)) (fun C s' H' fp=>⟨av (i:=0) QK rfl (Or.inl rfl),ck,
    Jk (aw (show dF _ (.builtin "isinstance") (JY K) from il) rfl T.Iz PyProof.Rows.boot_isinstance (aa (pv 0) (aa (fP (v := .ty "str") rfl T.str PySem.Pv.boot_str rfl) ad))) (c4 (ay G hr rfl mh kh bh .nil ap (aa (pv 0) ad)))⟩)) ad))))),?_⟩
  refine⟨_,rfl, .ref p,_, "tuple",true,rfl, .tup hp,Z.tt,true,rfl,aJ ⟨_,rfl,p,rfl,⟨_,zt.of hp⟩,?_⟩⟩
  refine bM xs.length (by rw[sizeLine_eq];omega) (fun i acc H'=>H' = H/\acc=(List.replicate i true).map V.bl) ⟨rfl,rfl⟩ (fun i acc H' h=>by rw[h.2];simp) (fun i acc H' hi h=>?_) (fun acc H' h=>?_)
  ·obtain⟨rfl,rfl⟩:=h
   refine⟨⟨xs,xs[i],zt.of hp,getElem?_eq_getElem hi⟩,fun v H2 y=>?_⟩
   obtain⟨rfl,y⟩:=y
   have hv:=y xs (zt.of hp)
   have e:(List.replicate i true).map V.bl ++ [V.bl true]=(List.replicate (i + 1) true).map V.bl:=by rw[List.replicate_succ',map_append];rfl
   rcases hx v (mem_of_getElem? hv) with ⟨t,rfl⟩ | ⟨z,rfl⟩
   ·exact⟨_,rfl, .str t,_, "str",true,rfl, .str t,Z.ss,true,rfl,aJ ⟨rfl,e⟩⟩
   ·exact⟨_,rfl, .int z,_, "str",false,rfl, .int z,Z.ns,false,rfl,aI ⟨_,rfl, .int z,rfl, .int z,rfl,e⟩⟩
  ·obtain⟨rfl,rfl⟩:=h
   refine⟨⟨xs,zt.of hp,Nat.le_refl _⟩,fun D hD=>⟨D,List.replicate xs.length true,rfl,zj.of ac,?_⟩⟩
   have e:(List.replicate xs.length true).all id=true:=by rw[all_eq_true];intro b hb;rw[eq_of_mem_replicate hb];rfl
   rw[e]
   exact q _ ((zf.refl H').new hD)
theorem QL:ao ["self", "move"] ["self", "move"] (ah sC):=L2.zQ
theorem vG {c:Cs}{ys:Ys}{J:TJ}{TC f fw fi fo fl fb fm fn:Addr}{fd dw di Cb dl db dm dn:FuncData}(F:zH K "moves_like" "Yard.moves_like" sC f fd)(T:eW mg)(Y:fU K ys)(W:Wy K TC fw dw J)(M:QA P w K mg base c TC J ys fi fo fl fb di Cb dl db)
  (mm:mg "is_move" = some (.ref fm)) (km:keepIn K (.ref fm)=true) (bm:Binds K dm ["move"] []) (Gm:zg P w K mg base aD 2 fm dm ["move"] rV)
  (mn:mg "is_within" = some (.ref fn)) (kn:keepIn K (.ref fn)=true) (bn:Binds K dn ["value", "least", "most"] []) (Gn:zg P w K mg base aD 2 fn dn ["value", "least", "most"] fL) :
  zg P w K mg base aD 7 f fd ["self", "move"] (rS K c TC J ys):=by
 refine F.ok QL (fun _ _ _ _ h=>?_) (fun _ _ _ s H _ Q E hr h=>?_)
 ·obtain⟨a,s,p,m,rfl,_⟩:=h
  rfl
 ·obtain⟨a,st,p,m,rfl,hI,hp,zp,q⟩:=h
  have Ah:zm 1 _:=hr.mono (by decide)
  have Ai:zm 2 _:=hr.mono (by decide)
  have C9:zm 4 _:=hr.mono (by decide)
  refine⟨_,af (aM (jc (PW.pt (hG (cr (bQ (ay Gm Ai rfl mm km bm .nil ap (aa (pv 1) ad)))) (eA (au k8 (aw aq rfl T.len PySem.boot_len (aa (pv 1) ad)) aj (ax _)))))) (ai (ar (aP ad))) aF)
   (af (aM (au bK (aA aE (pv 1) aj (fun _ _=>rfl)) bG (ax _))
    (ai (ar (dq (bQ (ay Gn Ai rfl mn kn bn .nil ap (aa (aA aE (pv 1) aj (fun _ _=>rfl)) (aa aj (aa (aB eG (aw aq rfl T.len PySem.boot_len (aa (al (pv 0) rfl) ad)) aj) ad)))))
     (aC (pv 0) Y.cl M.mi M.Gi C9 M.bi .nil ap (aa (aA aE (pv 1) aj (fun _ _=>rfl)) ad)) (aP ad)))) aF)
   (af (aM (cr (bQ (ay Gn Ai rfl mn kn bn .nil ap (aa (aA aE (pv 1) aj (fun _ _=>rfl)) (aa aj (aa (aB eG (aw aq rfl T.len PySem.boot_len (aa (al (pv 0) rfl) ad)) aj) ad)))))) (ai (ar (aP ad))) aF)
   (af (aM (au bK (aA aE (pv 1) aj (fun _ _=>rfl)) bG (ax _)) (ai (ar (aC (pv 0) Y.cl M.mo M.Go hr M.bo .nil ap (aa (aA aE (pv 1) aj (fun _ _=>rfl)) ad)))) aF)
   (af (aM (au bK (aA aE (pv 1) aj (fun _ _=>rfl)) bG (ax _)) (ai (ar (aC (pv 0) Y.cl M.ml M.Gl Ai M.bl .nil ap (aa (aA aE (pv 1) aj (fun _ _=>rfl)) ad)))) aF)
   (ai (ar (dq (au bK (aA aE (pv 1) aj (fun _ _=>rfl)) bG (ax _)) (aC (pv 0) Y.cl M.mb M.Gb Ah M.bb .nil ap (aa (aA aE (pv 1) aj (fun _ _=>rfl)) ad)) (aP ad)))))))),?_⟩
  refine⟨fun b H1=>b=false/\zf H H1,?_,?_⟩
  ·refine⟨_,rfl,p,fW m,rfl,hp,(mB m).1,(mB m).2,fun H1 s1=>⟨_,rfl,aI ?_⟩⟩
   refine⟨_,rfl,p,_,rfl, .inr (zt.of (s1 _ _ hp)),_,_,rfl,rfl,_,rfl,?_,s1⟩
   cases m<;>rfl
  rintro b H1 ⟨rfl,s1⟩
  refine aI ?_
  have Ba:=hI.same W s1
  have zR:=s1 _ _ hp
  have q1:∀ (D:Addr)(zK:List V)(H':Hp),zf H1 H'->H1 D=none->H' D=some (.lst zK)->Paired (AQ H') zK ((pW a st m).map fW)->Q (.ref D) H':=fun D zK H' s' hD g' BR=>q D zK H' (s1.trans s') (s1.free hD) g' BR
  have hY:=Ba.Y
  obtain⟨zw,Av,ple⟩:=hY.hle
  have hle:zw.length=st.U.length:=Paired.length ple
  obtain⟨zv,Ac,D4⟩:=hY.Ap
  have Ap:zv.length=st.lanes.length:=Paired.length D4
  clear s1 q hp hI
  have inl:∀ k:Nat,k < st.lanes.length->k9 (.int k) 0 (((zv.length:Nat):Int) - 1)=true:=fun k hk=>decide_eq_true (by omega)
  cases m with
  | AU k l =>
   have zR:H1 p=some (.tup [.str "in", .int k, .int l]):=zR
   have zp:k < st.U.length:=zp
   refine⟨_,rfl,p,_,0,_,rfl,rfl,zt.of zR,ak (j:=0) rfl,rfl,_,rfl,?_⟩
   rw[ju]
   refine aJ ⟨_,rfl,p,_,1,_,rfl,rfl,zt.of zR,ak (j:=1) rfl,_,rfl,a.y,ys.zi,a.dy,_,_,rfl,hY.ins,Y.cl,Y.n4,rfl,a.le,_,rfl, .inl (zj.of Av),_,_,rfl,rfl, .int k,0,((zw.length:Nat):Int) - 1,rfl, .int _,_,rfl,?_⟩
   rw[show k9 (.int k) 0 (((zw.length:Nat):Int) - 1)=true from decide_eq_true (by omega)]
   exact aJ ⟨_,rfl,a.y,a.dy,_,rfl,hY.ins,rfl,_,rfl,p,_,1,_,rfl,rfl,zt.of zR,ak (j:=1) rfl,a,st,k,rfl,Ba,zp,fun D zK H' s' hD g' BR=>q1 D zK H' s' hD g' BR⟩
  | on k l =>
   have zR:H1 p=some (.tup [.str "on", .int k, .int l]):=zR
   have zp:k < st.lanes.length:=zp
   refine⟨_,rfl,p,_,0,_,rfl,rfl,zt.of zR,ak (j:=0) rfl,rfl,_,rfl,?_⟩
   rw[iS (by decide +kernel)]
   refine aI ⟨_,rfl,p,_,1,_,rfl,rfl,zt.of zR,ak (j:=1) rfl,_,rfl,a.y,ys.zi,a.dy,_,_,rfl,hY.ins,Y.cl,Y.n3,rfl,a.la,_,rfl, .inl (zj.of Ac),_,_,rfl,rfl, .int k,0,((zv.length:Nat):Int) - 1,rfl, .int _,_,rfl,?_⟩
   rw[inl k zp]
   refine aI ⟨_,rfl,p,_,0,_,rfl,rfl,zt.of zR,ak (j:=0) rfl,rfl,_,rfl,?_⟩
   rw[ju]
   exact aJ ⟨_,rfl,a.y,a.dy,_,rfl,hY.ins,rfl,_,rfl,p,_,1,_,rfl,rfl,zt.of zR,ak (j:=1) rfl,a,st,k,rfl,Ba,zp,fun D zK H' s' hD g' BR=>q1 D zK H' s' hD g' BR⟩
  | AK k =>
   have zR:H1 p=some (.tup [.str "lie", .int k]):=zR
   have zp:k < st.lanes.length:=zp
   refine⟨_,rfl,p,_,0,_,rfl,rfl,zt.of zR,ak (j:=0) rfl,rfl,_,rfl,?_⟩
   rw[iS (by decide +kernel)]
   refine aI ⟨_,rfl,p,_,1,_,rfl,rfl,zt.of zR,ak (j:=1) rfl,_,rfl,a.y,ys.zi,a.dy,_,_,rfl,hY.ins,Y.cl,Y.n3,rfl,a.la,_,rfl, .inl (zj.of Ac),_,_,rfl,rfl, .int k,0,((zv.length:Nat):Int) - 1,rfl, .int _,_,rfl,?_⟩
   rw[inl k zp]
   refine aI ⟨_,rfl,p,_,0,_,rfl,rfl,zt.of zR,ak (j:=0) rfl,rfl,_,rfl,?_⟩
   rw[iS (by decide +kernel)]
   refine aI ⟨_,rfl,p,_,0,_,rfl,rfl,zt.of zR,ak (j:=0) rfl,rfl,_,rfl,?_⟩
   rw[ju]
   exact aJ ⟨_,rfl,a.y,a.dy,_,rfl,hY.ins,rfl,_,rfl,p,_,1,_,rfl,rfl,zt.of zR,ak (j:=1) rfl,a,st,k,rfl,Ba,zp,fun D zK H' s' hD g' BR=>q1 D zK H' s' hD g' BR⟩
  | back k =>
   have zR:H1 p=some (.tup [.str "back", .int k]):=zR
   have zp:k < st.lanes.length:=zp
   refine⟨_,rfl,p,_,0,_,rfl,rfl,zt.of zR,ak (j:=0) rfl,rfl,_,rfl,?_⟩
   rw[iS (by decide +kernel)]
   refine aI ⟨_,rfl,p,_,1,_,rfl,rfl,zt.of zR,ak (j:=1) rfl,_,rfl,a.y,ys.zi,a.dy,_,_,rfl,hY.ins,Y.cl,Y.n3,rfl,a.la,_,rfl, .inl (zj.of Ac),_,_,rfl,rfl, .int k,0,((zv.length:Nat):Int) - 1,rfl, .int _,_,rfl,?_⟩
   rw[inl k zp]
   refine aI ⟨_,rfl,p,_,0,_,rfl,rfl,zt.of zR,ak (j:=0) rfl,rfl,_,rfl,?_⟩
   rw[iS (by decide +kernel)]
   refine aI ⟨_,rfl,p,_,0,_,rfl,rfl,zt.of zR,ak (j:=0) rfl,rfl,_,rfl,?_⟩
   rw[iS (by decide +kernel)]
   refine aI ⟨_,rfl,p,_,0,_,rfl,rfl,zt.of zR,ak (j:=0) rfl,rfl,_,rfl,?_⟩
   rw[ju]
   exact aJ ⟨_,rfl,a.y,a.dy,_,rfl,hY.ins,rfl,_,rfl,p,_,1,_,rfl,rfl,zt.of zR,ak (j:=1) rfl,a,st,k,rfl,Ba,zp,fun D zK H' s' hD g' BR=>q1 D zK H' s' hD g' BR⟩
noncomputable def bX (ln:bC):bC:={ ln with b:=ln.b + 1,qs:=ln.qs.tail }
noncomputable def mH (ln:bC):bC:={ ln with r:=ln.r + 1,b:=ln.b - 1 }
inductive Bz (a:YA)(s:YS):Mv->YS->Prop
 | AU {k l:Nat} {t:aU} {ln:bC} (ht:s.U[k]? = some t) (hg:t.gone ≠ t.len) (hl:l ∈ aV a t) (zJ:s.lanes[l]? = some ln) (ho:bW ln.r ln.h k t.gone=true) :
  Bz a s (.AU k l) (cf (cx s k t) k t.gone l { t with gone:=t.gone + 1 } ln)
 | on {k l m:Nat} {c:Int} {lk ln:bC} {t:aU} (hk:s.lanes[k]? = some lk) (hq:lk.qs.head? = some ((m:Int),c)) (ht:s.U[m]? = some t) (hl:l ∈ bj a s k) (zJ:(s.lanes.set k (bX lk))[l]? = some ln) (ho:bW ln.r ln.h m c=true) :
  Bz a s (.on k l) (cf { s with lanes:=s.lanes.set k (bX lk) } m c l t ln)
 | AK {k m e:Nat} {c:Int} {lk:bC} {t:aU} {qs:List (Int × Int)} (hk:s.lanes[k]? = some lk) (hq:lk.qs.head? = some ((m:Int),c)) (ht:s.U[m]? = some t) (hg:t.goal=(e:Int)) (he:(a.ps.getD k (0,0)).2=(e:Int)) (AV:s.lies[e]? = some qs) :
  Bz a s (.AK k) { s with lanes:=s.lanes.set k (bX lk),lies:=s.lies.set e (qs ++ [((m:Int),c)]) }
 | back {k:Nat} {lk:bC} (hk:s.lanes[k]? = some lk) (hb:0 < lk.b):Bz a s (.back k) { s with lanes:=s.lanes.set k (mH lk) }
theorem Bz.done {a:YA}{s s':YS}{m:Mv}(h:Bz a s m s'):s'.done=s.done:=by
 cases h<;>rfl
structure V5 (s:YS):Prop where
 q:∀ (k:Nat)(ln:bC),s.lanes[k]? = some ln->ln.qs.length <= 10000
 l:∀ (p:Nat)(qs:List (Int × Int)),s.lies[p]? = some qs->qs.length <= 10000
 d:s.done.length <= 100000
theorem j8 {s:YS}{l:Nat}{m c:Int}(h:cI s l m c=true):∃ ln,s.lanes[l]? = some ln/\bW ln.r ln.h m c=true:=by
 unfold cI at h
 cases hl:s.lanes[l]? with
 | none=>rw[hl]at h;cases h
 | some ln=>rw[hl]at h;exact⟨ln,rfl,h⟩
theorem tX {a:YA}{s:YS}{k:Nat}{m:Mv}(h:m ∈ ia a s k):∃ l t ln,m = .AU k l/\s.U[k]? = some t/\t.gone ≠ t.len/\l ∈ aV a t/\s.lanes[l]? = some ln/\bW ln.r ln.h k t.gone=true:=by
 unfold ia at h
 cases ht:s.U[k]? with
 | none=>rw[ht]at h;cases h
 | some t =>
  rw[ht]at h
  dsimp only at h
  by_cases hg:t.gone=t.len
  ·rw[if_pos hg]at h;cases h
  rw[if_neg hg]at h
  obtain⟨l,hl,rfl⟩:=mem_map.mp h
  obtain⟨h1,h2⟩:=mem_filter.mp hl
  obtain⟨ln,h3,h4⟩:=j8 h2
  exact⟨l,t,ln,rfl,rfl,hg,h1,h3,h4⟩
theorem tW {a:YA}{s:YS}{k:Nat}{m:Mv}(h:m ∈ iA a s k):∃ l q lk ln,m = .on k l/\s.lanes[k]? = some lk/\lk.qs.head? = some q/\l ∈ bj a s k/\s.lanes[l]? = some ln/\bW ln.r ln.h q.1 q.2=true:=by
 unfold iA at h
 cases hq:aL s k with
 | none=>rw[hq]at h;cases h
 | some q =>
  rw[hq]at h
  dsimp only at h
  obtain⟨l,hl,rfl⟩:=mem_map.mp h
  obtain⟨h1,h2⟩:=mem_filter.mp hl
  obtain⟨ln,h3,h4⟩:=j8 h2
  unfold aL at hq
  cases hk:s.lanes[k]? with
  | none=>rw[hk]at hq;cases hq
  | some lk=>rw[hk]at hq;exact⟨l,q,lk,ln,rfl,rfl,hq,h1,h3,h4⟩
theorem pU {a:YA}{s:YS}{k:Nat}{m:Mv}(h:m ∈ eV a s k):∃ q lk t,m = .AK k/\s.lanes[k]? = some lk/\lk.qs.head? = some q/\s.U[q.1.toNat]? = some t/\t.goal=(a.ps.getD k (0,0)).2:=by
 unfold eV at h
 cases hq:aL s k with
 | none=>rw[hq]at h;cases h
 | some q =>
  rw[hq]at h
  dsimp only at h
  cases ht:s.U[q.1.toNat]? with
  | none=>rw[ht]at h;cases h
  | some t =>
   rw[ht]at h
   dsimp only at h
   by_cases hg:t.goal=(a.ps.getD k (0,0)).2
   ·rw[if_pos hg]at h
    have hm:m = .AK k:=by simpa using h
    unfold aL at hq
    cases hk:s.lanes[k]? with
    | none=>rw[hk]at hq;cases hq
    | some lk=>rw[hk]at hq;exact⟨q,lk,t,hm,rfl,hq,ht,hg⟩
   ·rw[if_neg hg]at h;cases h
theorem mF {s:YS}{k:Nat}{m:Mv}(h:m ∈ dA s k):∃ lk,m = .back k/\s.lanes[k]? = some lk/\0 < lk.b:=by
 unfold dA at h
 cases hk:s.lanes[k]? with
 | none=>rw[hk]at h;cases h
 | some lk =>
  rw[hk]at h
  dsimp only at h
  by_cases hb:0 < lk.b
  ·rw[if_pos hb]at h;exact⟨lk,by simpa using h,rfl,hb⟩
  ·rw[if_neg hb]at h;cases h
theorem qV {a:YA}{s:YS}{m:Mv}(h:m ∈ bT a s):wT s m/\m ∈ pW a s m:=by
 unfold bT at h
 rw[mem_append,mem_append,mem_append]at h
 rcases h with ((h | h) | h) | h
 ·obtain⟨k,hk,h⟩:=mem_flatMap.mp h
  obtain⟨l,t,ln,rfl,_⟩:=tX h
  exact⟨mem_range.mp hk,h⟩
 ·obtain⟨k,hk,h⟩:=mem_flatMap.mp h
  obtain⟨l,q,lk,ln,rfl,_⟩:=tW h
  exact⟨mem_range.mp hk,h⟩
 ·obtain⟨k,hk,h⟩:=mem_flatMap.mp h
  obtain⟨q,lk,t,rfl,_⟩:=pU h
  exact⟨mem_range.mp hk,h⟩
 ·obtain⟨k,hk,h⟩:=mem_flatMap.mp h
  obtain⟨lk,rfl,_⟩:=mF h
  exact⟨mem_range.mp hk,h⟩
noncomputable def uG:Mv->PyData
 | .AU k l => .tuple [.str "in", .int k, .int l]
 | .on k l => .tuple [.str "on", .int k, .int l]
 | .AK k => .tuple [.str "lie", .int k]
 | .back k => .tuple [.str "back", .int k]
theorem iZ {x:Str}(h:PyData.strOk x=true):Bx (.str x) 0:=⟨by simp[PyData.canLay0,h],by simp[PyData.depth]⟩
theorem lh (m:Mv):Bx (uG m) 1:=by
 cases m<;>refine dM (m:=0) fun y hy=>?_<;>simp only[mem_cons,not_mem_nil,or_false]at hy
 ·rcases hy with rfl | rfl | rfl
  ·exact iZ (by decide +kernel)
  ·exact cy _
  ·exact cy _
 ·rcases hy with rfl | rfl | rfl
  ·exact iZ (by decide +kernel)
  ·exact cy _
  ·exact cy _
 ·rcases hy with rfl | rfl
  ·exact iZ (by decide +kernel)
  ·exact cy _
 ·rcases hy with rfl | rfl
  ·exact iZ (by decide +kernel)
  ·exact cy _
theorem uo {K:Frag}{H:Hp}{p:Addr}(m:Mv)(h:H p=some (.tup (fW m))):jX K H (.ref p) (uG m):=by
 cases m<;>refine .tup (zt.of h) ?_
 ·exact .cons (.str _) (.cons (.int _) (.cons (.int _) .nil))
 ·exact .cons (.str _) (.cons (.int _) (.cons (.int _) .nil))
 ·exact .cons (.str _) (.cons (.int _) .nil)
 ·exact .cons (.str _) (.cons (.int _) .nil)
theorem lE {K:Frag}{H:Hp}:∀ {vs:List V}{ms:List Mv},Paired (AQ H) vs (ms.map fW)->iW K H vs (ms.map uG)
 | [],[],_ => .nil
 | _ :: _,m :: ms, .cons ⟨t,e,h⟩ r=>by subst e;exact .cons (uo m h) (lE r)
 | [],_ :: _,h=>by cases h
 | _ :: _,[],h=>by cases h
theorem yX {m:Mv}{ms:List Mv}(h:m ∈ ms):((ms.map uG).any fun y=>PyData.eqv y (uG m))=true:=by
 rw[any_eq_true]
 exact⟨uG m,mem_map.mpr ⟨m,h,rfl⟩,SeqAt.eqv_refl _ (lh m).1⟩
noncomputable def uR (K:Frag)(c:Cs)(TC:Addr)(J:TJ)(ys:Ys):Sp:=fun vs H Q _=>∃ (a:YA)(s:YS)(p:Addr)(m:Mv),vs=[.ref a.y, .ref p]/\B6 K c TC J ys H a s/\H p=some (.tup (fW m))/\m ∈ bT a s/\V5 s /\
 ∀ (H':Hp)(s':YS),Bz a s m s'->zo a.four H H'->zW K ys H' a { s' with done:=s.done ++ [fW m] }->Q .zD H'
structure V6 (P:Program)(w:World)(K:Frag)(mg:Str->Option Value)(base:Heap)(c:Cs)(TC:Addr)(J:TJ)(ys:Ys)(nm:Addr)(fk fg fe fp fb fy:Addr)(dk dg de dp db dy:FuncData):Prop where
 mk':bA K ys.zi "moves_like" fk
 bk:Binds K dk ["self", "move"] []
 Gk:zg P w K mg base aD 7 fk dk ["self", "move"] (rS K c TC J ys)
 mg':bA K ys.zi "go_in" fg
 bg:Binds K dg ["self", "number", "lane"] []
 Gg:zg P w K mg base aD 6 fg dg ["self", "number", "lane"] (rX K ys)
 me:bA K ys.zi "enter" fe
 be:Binds K de ["self", "piece", "lane"] []
 Ge:zg P w K mg base aD 5 fe de ["self", "piece", "lane"] (ld K ys)
 mp:bA K ys.zI "pull" fp
 bp:Binds K dp ["self"] []
 Gp:zg P w K mg base (e7 P w) 1 fp dp ["self"] (nQ ys.zI nm)
 mb:bA K ys.zI "bring" fb
 bb:Binds K db ["self"] []
 Gb:zg P w K mg base (e7 P w) 1 fb db ["self"] (pF ys.zI nm)
 my:bA K ys.zi "lay" fy
 QM:Binds K dy ["self", "piece", "place"] []
 Gy:zg P w K mg base aD 1 fy dy ["self", "piece", "place"] (wN K ys)
theorem QN:ao ["self", "move"] ["self", "move"] (ah PN):=L2.zQ
theorem L0 {c:Cs}{ys:Ys}{J:TJ}{TC nm f fw fl ft fpu fk fg fe fp fb fy V7:Addr}{fd dw dl dt dpu dk dg de dp db dy den:FuncData}(F:zH K "do" "Yard.do" PN f fd)(Y:fU K ys)(L:nu K c)(W:Wy K TC fw dw J)(Ex:Kx K mg nm)(O:Own P w K mg base ys nm fl ft fpu dl dt dpu)
  (D:V6 P w K mg base c TC J ys nm fk fg fe fp fb fy dk dg de dp db dy) (Me:uE K c V7 den) (Gen:zg P w K mg base aD 1 V7 den ["self", "lane"] (sf c Prod.snd)) :
  zg P w K mg base (e7 P w) 8 f fd ["self", "move"] (uR K c TC J ys):=by
 refine F.Ei QN (fun _ _ _ _ h=>?_) (fun _ _ _ s H _ Q E hr h=>?_)
 ·obtain⟨a,s,p,m,rfl,_⟩:=h
  rfl
 ·obtain⟨a,st,p,m,rfl,hI,hp,hm,hS,q⟩:=h
  have hu:=hr.units
  have Ah:zm 1 _:=hr.mono (by decide)
  have C9:zm 4 _:=hr.mono (by decide)
  have IK:zm 5 _:=hr.mono (by decide)
  have L1:zm 6 _:=hr.mono (by decide)
  refine⟨_,af (aM (au (qK hu) (pv 1) (aC (pv 0) Y.cl D.mk' D.Gk hr D.bk .nil ap (aa (pv 1) ad)) (by with_unfolding_all rfl)) (ai (bJ rfl Ex.x aR (cj Ex.x Ex.k rfl rfl Ex.m (aa bG ad)))) aF)
   (af (hU (aM (au bK (aA aE (pv 1) aj (fun _ _=>rfl)) bG (ax _))
    (ai (aN (aC (pv 0) Y.cl D.mg' D.Gg L1 D.bg .nil ap (aa (aA aE (pv 1) aj (fun _ _=>rfl)) (aa (aA aE (pv 1) aj (fun _ _=>rfl)) ad)))))
    (ai (aM (au bK (aA aE (pv 1) aj (fun _ _=>rfl)) bG (ax _))
     (ai (aN (aC (pv 0) Y.cl D.me D.Ge IK D.be .nil ap (aa (b7 (aC (pv 0) Y.cl O.ml O.Gl C9 O.bl .nil ap (aa (aA aE (pv 1) aj (fun _ _=>rfl)) ad)) Y.L.cl D.mp D.Gp Ah D.bp .nil (Bk.passes aR rfl)) (aa (aA aE (pv 1) aj (fun _ _=>rfl)) ad)))))
     (ai (aM (au bK (aA aE (pv 1) aj (fun _ _=>rfl)) bG (ax _))
      (ai (aN (aC (pv 0) Y.cl D.my D.Gy Ah D.QM .nil ap (aa (b7 (aC (pv 0) Y.cl O.ml O.Gl C9 O.bl .nil ap (aa (aA aE (pv 1) aj (fun _ _=>rfl)) ad)) Y.L.cl D.mp D.Gp Ah D.bp .nil (Bk.passes aR rfl)) (aa (aC (al (al (pv 0) rfl) rfl) L.cl Me.m Gen Ah Me.b .nil ap (aa (aA aE (pv 1) aj (fun _ _=>rfl)) ad)) ad)))))
      (ai (aN (b7 (aC (pv 0) Y.cl O.ml O.Gl C9 O.bl .nil ap (aa (aA aE (pv 1) aj (fun _ _=>rfl)) ad)) Y.L.cl D.mb D.Gb Ah D.bb .nil (Bk.passes aR rfl))))))))))
   (ai (aN (cv plainAttrs_list PySem.F.slot_list_append PySem.F.type_list_append bD (al (pv 0) rfl) (aa (pv 1) ad))))),?_⟩
  obtain⟨zp,CC⟩:=qV hm
  refine⟨_,rfl,_,rfl,a.y,a.dy,_,rfl,hI.Y.ins,rfl,_,rfl,a,st,p,m,rfl,hI,hp,zp,fun Dl zK H1 s1 hDl gDl Cp=>?_⟩
  refine⟨Dl,zK,uG m,(pW a st m).map uG,rfl,uo m (s1 _ _ hp),zj.of gDl,lE Cp,(lh m).le (by decide),fun z hz=>by obtain⟨m',_,rfl⟩:=mem_map.mp hz;exact(lh m').le (by decide),_,rfl,?_⟩
  rw[yX CC]
  refine aI ?_
  have Ba:=hI.same W s1
  have zR:=s1 _ _ hp
  have hY:=Ba.Y
  refine⟨fun σ' H'=>σ' = start ["self", "move"] [.ref a.y, .ref p]/\∃ s',Bz a st m s'/\zo a.four H1 H'/\zW K ys H' a s',?_,?_⟩
  ·
   have Eb:∀ (k:Nat)(lk:bC)(pq:Int × Int),st.lanes[k]? = some lk->lk.qs.head? = some pq->∀ (zv:List V),H1 a.la=some (.lst zv)->∀ (x dx pa:Addr)(zB:List V)(H2:Hp),zo [a.la] H1 H2->H1 x=none->H1 pa=none->H2 a.la=some (.lst (zv.set k (.ref x)))->zF H2 ys.zI x dx pa lk.r lk.b lk.h zB lk.qs ->
     ∀ (Q':VK)(E':XK),(∀ (v:V)(H3:Hp),w6 H3 v pq->zo [a.la] H1 H3->zW K ys H3 a { st with lanes:=st.lanes.set k (bX lk) }->Q' v H3)->nQ ys.zI nm [.ref x] H2 Q' E':=by
    intro k lk pq hk hq zv Ac x dx pa zB H2 o2 nx np g2 BG Q' E' hQ
    refine⟨x,dx,pa,lk.r,lk.b,lk.h,zB,lk.qs,rfl,BG,fun e0=>?_,fun v rest ev H3 o3 DP=>?_⟩
    ·exfalso
     have hl:=Paired.length BG.Au
     rw[e0]at hl
     cases AV:lk.qs with
     | nil=>rw[AV]at hq;cases hq
     | cons _ _=>rw[AV]at hl;cases hl
    ·have o4:zo [a.la] H1 H3:=fun b o nb e=>o3 b o (ag e nx) (ag e np) (o2 b o nb e)
     refine hQ v H3 ?_ o4 (zW.BW hY Ac o4 (k:=k) (x:=x) (dx:=dx) (pa:=pa) (o3 _ _ (ag Ac nx) (ag Ac np) g2) (ln:=bX lk) DP np)
     have hz:=AD.Di o3 BG.ins BG.lst BG.Au
     rw[ev]at hz
     cases AV:lk.qs with
     | nil=>rw[AV]at hq;cases hq
     | cons q0 r0 =>
      rw[AV]at hq hz
      cases hq
      cases hz with
      | cons z _=>exact z
   obtain⟨zv,Ac,D4⟩:=hY.Ap
   have p3:∀ {H3:Hp}{ex:List Addr}{xs:List V},H1 p=some (.tup xs)->zo ex H1 H3->(∀ b ∈ ex,b ∈ a.four)->H3 p=some (.tup xs):=fun h o he=>o _ _ (fun z=>by obtain⟨xs,hz⟩:=hY.AS _ (he _ z);rw[h]at hz;cases hz) h
   cases m with
   | AU k l =>
    have zR:H1 p=some (.tup [.str "in", .int k, .int l]):=zR
    obtain⟨l',t,ln,e0,ht,hg,hl,zJ,ho⟩:=tX (show Mv.AU k l ∈ ia a st k from CC)
    cases e0
    refine⟨_,rfl,p,_,0,_,rfl,rfl,zt.of zR,ak (j:=0) rfl,rfl,_,rfl,?_⟩
    rw[ju]
    refine aJ ⟨_,rfl,a.y,a.dy,_,rfl,hY.ins,rfl,_,rfl,p,_,1,_,rfl,rfl,zt.of zR,ak (j:=1) rfl,_,rfl,p,_,2,_,rfl,rfl,zt.of zR,ak (j:=2) rfl,a,st,k,l,t,ln,rfl,hY,ht,zJ,ho,(hI.G.Ad k t ht).2,lt_of_le_of_lt (hS.q l ln zJ) (by decide),fun H' o' EL=>⟨rfl,_,Bz.AU ht hg hl zJ ho,o'.mono (by simp),EL⟩⟩
   | on k l =>
    have zR:H1 p=some (.tup [.str "on", .int k, .int l]):=zR
    obtain⟨l',pq,lk,ln,e0,hk,hq,hl,zJ,ho⟩:=tW (show Mv.on k l ∈ iA a st k from CC)
    cases e0
    obtain⟨m,t,em,ht,Ep⟩:=hI.G.Au k lk hk pq (mem_of_head? hq)
    obtain⟨m0,cq⟩:=pq
    have em:m0=(m:Int):=em
    subst em
    refine⟨_,rfl,p,_,0,_,rfl,rfl,zt.of zR,ak (j:=0) rfl,rfl,_,rfl,?_⟩
    rw[iS (by decide +kernel)]
    refine aI ⟨_,rfl,p,_,0,_,rfl,rfl,zt.of zR,ak (j:=0) rfl,rfl,_,rfl,?_⟩
    rw[ju]
    refine aJ ⟨_,rfl,a.y,a.dy,_,rfl,hY.ins,rfl,_,rfl,a.y,a.dy,_,rfl,hY.ins,rfl,_,rfl,p,_,1,_,rfl,rfl,zt.of zR,ak (j:=1) rfl,a,st,k,lk,zv,rfl,hY,hk,Ac,fun x dx pa zB H2 o2 nx np g2 BG=>⟨x,dx,_,rfl,BG.ins,rfl,Eb k lk _ hk hq zv Ac x dx pa zB H2 o2 nx np g2 BG _ _ fun v H3 hv o3 B5=>?_⟩⟩
    have IB:=p3 zR o3 (by simp)
    have AZ:k < st.lanes.length:=(gQ0 hk)
    obtain⟨ln2,L4,er,eh,eq⟩:∃ ln2,(st.lanes.set k (bX lk))[l]? = some ln2/\ln2.r=ln.r/\ln2.h=ln.h/\ln2.qs.length <= 10000:=by
     by_cases L5:k=l
     ·subst L5
      rw[hk]at zJ
      cases zJ
      refine⟨bX lk,by simp[AZ],rfl,rfl,?_⟩
      have:=hS.q k lk hk
      show lk.qs.tail.length <= 10000
      rw[List.length_tail];omega
     ·exact⟨ln,by rw[getElem?_set_ne L5];exact zJ,rfl,rfl,hS.q l ln zJ⟩
    have Bq:bW ln2.r ln2.h m cq=true:=by rw[er,eh];exact ho
    refine⟨_,rfl,p,_,2,_,rfl,rfl,zt.of IB,ak (j:=2) rfl,a,{ st with lanes:=st.lanes.set k (bX lk) },v,m,cq,l,t,ln2,rfl,B5,hv,ht,L4,Bq,(hI.G.Ad m t ht).2,lt_of_le_of_lt eq (by decide),fun H' o' EL=>⟨rfl,_,Bz.on hk hq ht hl L4 Bq,(o3.mono (by simp)).trans (o'.mono (by simp)),EL⟩⟩
   | AK k =>
    have zR:H1 p=some (.tup [.str "lie", .int k]):=zR
    obtain⟨pq,lk,t0,e0,hk,hq,FR,hg⟩:=pU (show Mv.AK k ∈ eV a st k from CC)
    obtain⟨m,t,em,ht,Ep⟩:=hI.G.Au k lk hk pq (mem_of_head? hq)
    obtain⟨m0,cq⟩:=pq
    have em:m0=(m:Int):=em
    subst em
    have FR:st.U[m]? = some t0:=by rw[← FR];rfl
    rw[ht]at FR
    cases FR
    have AZ:k < st.lanes.length:=(gQ0 hk)
    have IJ:k < a.ps.length:=by rw[← hI.G.lanes];exact AZ
    have he:=getElem?_eq_getElem IJ
    have FW:a.ps.getD k (0,0)=a.ps[k]:=by rw[getD_eq_getElem?_getD,he];rfl
    obtain⟨e,ee,Lw⟩:=hI.O.ends k _ he
    rw[FW,ee]at hg
    have hel:e < st.lies.length:=by rw[hI.G.lies];exact Lw
    have AV:=getElem?_eq_getElem hel
    refine⟨_,rfl,p,_,0,_,rfl,rfl,zt.of zR,ak (j:=0) rfl,rfl,_,rfl,?_⟩
    rw[iS (by decide +kernel)]
    refine aI ⟨_,rfl,p,_,0,_,rfl,rfl,zt.of zR,ak (j:=0) rfl,rfl,_,rfl,?_⟩
    rw[iS (by decide +kernel)]
    refine aI ⟨_,rfl,p,_,0,_,rfl,rfl,zt.of zR,ak (j:=0) rfl,rfl,_,rfl,?_⟩
    rw[ju]
    refine aJ ⟨_,rfl,a.y,a.dy,_,rfl,hY.ins,rfl,_,rfl,a.y,a.dy,_,rfl,hY.ins,rfl,_,rfl,p,_,1,_,rfl,rfl,zt.of zR,ak (j:=1) rfl,a,st,k,lk,zv,rfl,hY,hk,Ac,fun x dx pa zB H2 o2 nx np g2 BG=>⟨x,dx,_,rfl,BG.ins,rfl,Eb k lk _ hk hq zv Ac x dx pa zB H2 o2 nx np g2 BG _ _ fun v H3 hv o3 B5=>?_⟩⟩
    have IB:=p3 zR o3 (by simp)
    have ED:zc c TC J H3 a:=An.keep W Ba.T (zo.zC (fun b hb=>by simp at hb;subst hb;exact⟨_,Ac⟩) o3)
    obtain⟨Bf,fst,AJ,zM,Af⟩:=ED.i
    refine⟨_,rfl,a.y,ys.zi,a.dy,_,_,rfl,B5.ins,Y.cl,Y.n1,rfl,a.tb,TC,Bf,fst,_,rfl,AJ,W.cl,W.nl,zM,a.lx,a.zX,_,rfl,ED.l.1,rfl,_,rfl,p,_,1,_,rfl,rfl,zt.of IB,ak (j:=1) rfl,a.lx,a.zX,a.lt,(a.n:Int),a.zw,a.ps,k,_,rfl,ED.l,he,?_⟩
    rw[ee]
    exact⟨a,{ st with lanes:=st.lanes.set k (bX lk) },v,((m:Int),cq),e,_,rfl,B5,hv,AV,le_trans (hS.l e _ AV) (by decide),fun H' o' EL=>⟨rfl,_,Bz.AK hk hq ht hg (by rw[FW,ee]) AV,(o3.mono (by simp)).trans (o'.mono (by simp)),EL⟩⟩
   | back k =>
    have zR:H1 p=some (.tup [.str "back", .int k]):=zR
    obtain⟨lk,e0,hk,hb⟩:=mF (show Mv.back k ∈ dA st k from CC)
    refine⟨_,rfl,p,_,0,_,rfl,rfl,zt.of zR,ak (j:=0) rfl,rfl,_,rfl,?_⟩
    rw[iS (by decide +kernel)]
    refine aI ⟨_,rfl,p,_,0,_,rfl,rfl,zt.of zR,ak (j:=0) rfl,rfl,_,rfl,?_⟩
    rw[iS (by decide +kernel)]
    refine aI ⟨_,rfl,p,_,0,_,rfl,rfl,zt.of zR,ak (j:=0) rfl,rfl,_,rfl,?_⟩
    rw[iS (by decide +kernel)]
    refine aI ⟨_,rfl,a.y,a.dy,_,rfl,hY.ins,rfl,_,rfl,p,_,1,_,rfl,rfl,zt.of zR,ak (j:=1) rfl,a,st,k,lk,zv,rfl,hY,hk,Ac,fun x dx pa zB H2 o2 nx np g2 BG=>⟨x,dx,_,rfl,BG.ins,rfl,x,dx,pa,lk.r,lk.b,lk.h,zB,lk.qs,rfl,BG,(fun e0=>by rw[e0]at hb;exact absurd hb (by decide)),fun _ H3 o3 DP=>?_⟩⟩
    have o4:zo [a.la] H1 H3:=fun b o nb e=>o3 b o (ag e nx) (ag e np) (o2 b o nb e)
    exact⟨rfl,_,Bz.back hk hb,o4.mono (by simp),zW.BW hY Ac o4 (k:=k) (x:=x) (dx:=dx) (pa:=pa) (o3 _ _ (ag Ac nx) (ag Ac np) g2) (ln:=mH lk) DP np⟩
  ·rintro σ' H2 ⟨rfl,s',hs,o2,BF⟩
   obtain⟨zP,IH,pd⟩:=BF.AR
   have Cu:zP.length=st.done.length:=by rw[Paired.length pd,hs.done]
   have Hx:H2 p=some (.tup (fW m)):=o2 _ _ (fun z=>by obtain⟨xs,hz⟩:=hY.AS _ z;rw[zR]at hz;cases hz) zR
   have hd:=hS.d
   refine⟨_,rfl,a.y,ys.zi,a.dy,_,_,rfl,BF.ins,Y.cl,Y.n6,rfl, .inl ⟨rfl,_,zj.of IH⟩,_,rfl,a.dn,_,_,rfl,rfl,IH,by rw[sizeLine_eq];omega,?_⟩
   have B5:=BF.FL IH ⟨p,rfl,Hx⟩
   rw[hs.done]at B5
   exact q _ s' hs ((zf.zS s1).trans (o2.trans (c6 (by simp)))) B5
theorem bF {α:Type}{L:List α}{k j:Nat}{y z:α}(h:(L.set k y)[j]? = some z):(j=k/\z=y)∨(j ≠ k/\L[j]? = some z):=by
 by_cases e:k=j
 ·subst e
  rw[List.getElem?_set_self']at h
  cases hk:L[k]? with
  | none=>rw[hk]at h;cases h
  | some x=>rw[hk]at h;cases h;exact .inl ⟨rfl,rfl⟩
 ·rw[getElem?_set_ne e]at h
  exact .inr ⟨Ne.symm e,h⟩
theorem cK {α:Type}{L:List α}{k:Nat}{x y:α}(h:L[k]? = some x):(L.set k y)[k]? = some y:=by
 have:=(gQ0 h)
 simp[this]
theorem eZ {α:Type}(f:α->Nat):∀ {L:List α}{k:Nat}{x y:α},L[k]? = some x->((L.set k y).map f).sum + f x=(L.map f).sum + f y
 | [],_,_,_,h=>by cases h
 | z :: L,0,x,y,h=>by cases h;simp only[set_cons_zero,map_cons,sum_cons];omega
 | z :: L,k + 1,x,y,h=>by
  have:=eZ f (L:=L) (k:=k) (x:=x) (y:=y) h
  simp only[set_cons_succ,map_cons,sum_cons];omega
theorem jk {α:Type}(f:α->Int):∀ {L:List α}{k:Nat}{x y:α},L[k]? = some x->((L.set k y).map f).sum + f x=(L.map f).sum + f y
 | [],_,_,_,h=>by cases h
 | z :: L,0,x,y,h=>by cases h;simp only[set_cons_zero,map_cons,sum_cons];omega
 | z :: L,k + 1,x,y,h=>by
  have:=jk f (L:=L) (k:=k) (x:=x) (y:=y) h
  simp only[set_cons_succ,map_cons,sum_cons];omega
noncomputable def jO (a:YA)(l:Nat):Int:=(a.ps.getD l (0,0)).2
noncomputable def iq (s:YS):Nat:=(s.lanes.map fun ln=>ln.qs.length).sum
noncomputable def gH (s:YS):Nat:=(s.lies.map fun qs=>qs.length).sum
noncomputable def fj (s:YS):Int:=(s.U.map fun t=>t.gone).sum
structure NU (a:YA)(s:YS)(m:Nat)(c:Int):Prop where
 lanes:s.lanes.length=a.ps.length
 lies:s.lies.length=a.n
 Ao:s.U.length <= 60
 Ds:a.ps.length <= 40
 lets:∀ (m:Nat)(t:aU),s.U[m]? = some t->∃ x y:Nat,t.start=(x:Int)/\t.goal=(y:Int)/\x < a.n/\y < a.n
 Ad:∀ (m:Nat)(t:aU),s.U[m]? = some t->(∀ l ∈ t.way,l < a.ps.length)/\t.way.Nodup
 Au:∀ (k:Nat)(ln:bC),s.lanes[k]? = some ln->∀ q ∈ ln.qs,∃ (m:Nat)(t:aU),q.1=(m:Int)/\s.U[m]? = some t/\k ∈ t.way
 Bt:∀ (m:Nat)(t:aU),s.U[m]? = some t->0 <= t.gone/\t.gone <= t.len/\t.len <= 60
 Ak:∀ (m':Nat)(t:aU),s.U[m']? = some t->t.gone=0->t.way=[]/\m' ≠ m
 last:∀ (m:Nat)(t:aU),s.U[m]? = some t->∀ (i l:Nat),t.way[i]? = some l->jO a l=t.goal->i + 1=t.way.length
 head:∀ (m':Nat)(t:aU),s.U[m']? = some t->∀ (l:Nat)(ln:bC),t.way.getLast? = some l->s.lanes[l]? = some ln->(m' = m/\c=0)∨((m':Int),(0:Int)) ∈ ln.qs∨jO a l=t.goal
 first:∀ (k:Nat)(ln:bC),s.lanes[k]? = some ln->∀ (i j:Nat)(z:Int)(q:Int × Int),ln.qs[i]? = some (z,0)->j < i->ln.qs[j]? = some q->q.1 ≠ z
 D5:∀ (k:Nat)(ln:bC),s.lanes[k]? = some ln->∀ (m':Nat)(t:aU),((m':Int),(0:Int)) ∈ ln.qs->s.U[m']? = some t->t.way.getLast? = some k
 gone:c=0->∀ (k:Nat)(ln:bC),s.lanes[k]? = some ln->((m:Int),(0:Int)) ∉ ln.qs
 sum:(iq s:Int) + (gH s:Int) + 1=fj s
structure Ab (a:YA)(s:YS):Prop where
 lanes:s.lanes.length=a.ps.length
 lies:s.lies.length=a.n
 Ao:s.U.length <= 60
 Ds:a.ps.length <= 40
 lets:∀ (m:Nat)(t:aU),s.U[m]? = some t->∃ x y:Nat,t.start=(x:Int)/\t.goal=(y:Int)/\x < a.n/\y < a.n
 Ad:∀ (m:Nat)(t:aU),s.U[m]? = some t->(∀ l ∈ t.way,l < a.ps.length)/\t.way.Nodup
 Au:∀ (k:Nat)(ln:bC),s.lanes[k]? = some ln->∀ q ∈ ln.qs,∃ (m:Nat)(t:aU),q.1=(m:Int)/\s.U[m]? = some t/\k ∈ t.way
 Bt:∀ (m:Nat)(t:aU),s.U[m]? = some t->0 <= t.gone/\t.gone <= t.len/\t.len <= 60
 Ak:∀ (m':Nat)(t:aU),s.U[m']? = some t->t.gone=0->t.way=[]
 last:∀ (m:Nat)(t:aU),s.U[m]? = some t->∀ (i l:Nat),t.way[i]? = some l->jO a l=t.goal->i + 1=t.way.length
 head:∀ (m':Nat)(t:aU),s.U[m']? = some t->∀ (l:Nat)(ln:bC),t.way.getLast? = some l->s.lanes[l]? = some ln->((m':Int),(0:Int)) ∈ ln.qs∨jO a l=t.goal
 first:∀ (k:Nat)(ln:bC),s.lanes[k]? = some ln->∀ (i j:Nat)(z:Int)(q:Int × Int),ln.qs[i]? = some (z,0)->j < i->ln.qs[j]? = some q->q.1 ≠ z
 D5:∀ (k:Nat)(ln:bC),s.lanes[k]? = some ln->∀ (m':Nat)(t:aU),((m':Int),(0:Int)) ∈ ln.qs->s.U[m']? = some t->t.way.getLast? = some k
 sum:(iq s:Int) + (gH s:Int)=fj s
theorem dQ:∀ (n:Nat)(l:List Nat),l.Nodup->(∀ x ∈ l,x < n)->l.length <= n
 | 0,l,_,h=>by
  cases l with
  | nil=>exact Nat.le_refl _
  | cons x _=>exact absurd (h x mem_cons_self) (by omega)
 | n + 1,l,hn,h=>by
  have h1:=dQ n (l.filter fun x=>decide (x ≠ n)) (hn.filter _) fun x hx=>by
   obtain⟨a,b⟩:=mem_filter.mp hx
   have:=h x a
   have:=of_decide_eq_true b
   omega
  have h2:l.length <= (l.filter fun x=>decide (x ≠ n)).length + 1:=by
   clear h1 h
   induction l with
   | nil=>exact zero_le _
   | cons x l ih =>
    rw[nodup_cons]at hn
    by_cases e:x=n
    ·subst e
     have:(l.filter fun y=>decide (y ≠ x))=l:=List.filter_eq_self.mpr fun y hy=>decide_eq_true fun z=>hn.1 (z ▸ hy)
     rw[filter_cons_of_neg (by simp),this]
     exact Nat.le_refl _
    ·rw[filter_cons_of_pos (by simpa using e)]
     have:=ih hn.2
     simp only[length_cons]
     omega
  omega
theorem Ab.ok {a:YA}{s:YS}(h:Ab a s):Q2 a s:=⟨h.lanes,h.lies,h.lets,fun m t ht=>⟨(h.Ad m t ht).1,by have:=dQ _ _ (h.Ad m t ht).2 (h.Ad m t ht).1;have:=h.Ds;omega⟩,h.Au,h.Ao⟩
theorem tV {α:Type}{x:α}{l:List α}(h:x ∈ l.tail):x ∈ l:=List.mem_of_mem_tail h
theorem ue {α:Type}{l:List α}{x:α}(h:l.head? = some x):l[0]? = some x:=by cases l with
 | nil=>cases h
 | cons y r=>exact h
theorem pV {α:Type}{l:List α}{x:α}(h:x ∈ l):∃ i:Nat,l[i]? = some x:=by
 obtain⟨i,hi,e⟩:=getElem_of_mem h
 exact⟨i,by rw[getElem?_eq_getElem hi,e]⟩
theorem lM {α:Type}(l:List α)(i:Nat):l.tail[i]? = l[i + 1]?:=by cases l with
 | nil=>simp
 | cons y r=>rfl
theorem mE {a:YA}{s:YS}{k m:Nat}{c:Int}{lk:bC}(J:Ab a s)(hk:s.lanes[k]? = some lk)(hq:lk.qs.head? = some ((m:Int),c)):NU a { s with lanes:=s.lanes.set k (bX lk) } m c:=by
 have h0:=ue hq
 have AU:∀ (j:Nat)(zZ:bC),(s.lanes.set k (bX lk))[j]? = some zZ->∃ ln,s.lanes[j]? = some ln/\(∀ q ∈ zZ.qs,q ∈ ln.qs)/\∃ d,(∀ i,zZ.qs[i]? = ln.qs[i + d]?)/\(zZ.qs=ln.qs∨(j=k/\ln=lk/\zZ.qs=lk.qs.tail)):=fun j zZ h=>by
  rcases bF h with ⟨rfl,rfl⟩ | ⟨ne,h⟩
  ·exact⟨lk,hk,fun q hq=>tV hq,1,fun i=>lM _ i, .inr ⟨rfl,rfl,rfl⟩⟩
  ·exact⟨zZ,h,fun q hq=>hq,0,fun i=>rfl, .inl rfl⟩
 have keep:∀ (j:Nat)(ln:bC),s.lanes[j]? = some ln->∃ zZ,(s.lanes.set k (bX lk))[j]? = some zZ/\∀ q ∈ ln.qs,q=((m:Int),c)∨q ∈ zZ.qs:=fun j ln h=>by
  by_cases e:j=k
  ·subst e
   rw[hk]at h
   cases h
   refine⟨bX lk,cK hk,fun q BM=>?_⟩
   show _∨q ∈ lk.qs.tail
   cases hl:lk.qs with
   | nil=>rw[hl]at hq;cases hq
   | cons z r =>
    rw[hl]at hq BM
    cases hq
    exact(mem_cons.mp BM).imp id id
  ·exact⟨ln,by rw[getElem?_set_ne (Ne.symm e)];exact h,fun q hq => .inr hq⟩
 refine⟨by rw[← J.lanes];simp,J.lies,J.Ao,J.Ds,J.lets,J.Ad,?_,J.Bt,?_,J.last,?_,?_,?_,?_,?_⟩
 ·intro j zZ h q BM
  obtain⟨ln,hj,h1,_⟩:=AU j zZ h
  exact J.Au j ln hj q (h1 q BM)
 ·intro m' t ht hg
  refine⟨J.Ak m' t ht hg,fun e=>?_⟩
  subst e
  obtain⟨m2,t2,e2,ES,IL⟩:=J.Au k lk hk _ (mem_of_head? hq)
  have:m' = m2:=by have:(m':Int)=(m2:Int):=e2;omega
  subst this
  rw[ht]at ES
  cases ES
  rw[J.Ak m' t ht hg]at IL
  cases IL
 ·intro m' t ht l zZ hl AI
  obtain⟨ln,hj,h1,_⟩:=AU l zZ AI
  rcases J.head m' t ht l ln hl hj with h | h
  ·obtain⟨ln2,h2,h3⟩:=keep l ln hj
   have h2:{ s with lanes:=s.lanes.set k (bX lk) }.lanes[l]? = some ln2:=h2
   rw[AI]at h2
   cases h2
   rcases h3 _ h with e | h
   ·injection e with e1 e2
    exact .inl ⟨by omega,e2.symm⟩
   ·exact .inr (.inl h)
  ·exact .inr (.inr h)
 ·intro j zZ h i i' z q hi zT BM
  obtain⟨ln,hj,_,d,h2,_⟩:=AU j zZ h
  rw[h2]at hi BM
  exact J.first j ln hj (i + d) (i' + d) z q hi (by omega) BM
 ·intro j zZ h m' t F1 ht
  obtain⟨ln,hj,h1,_⟩:=AU j zZ h
  exact J.D5 j ln hj m' t (h1 _ F1) ht
 ·intro e0 j zZ h F1
  subst e0
  obtain⟨ln,hj,h1,d,h2,h3⟩:=AU j zZ h
  obtain⟨m2,t2,e2,ES,_⟩:=J.Au k lk hk _ (mem_of_head? hq)
  have:m=m2:=by have:(m:Int)=(m2:Int):=e2;omega
  subst this
  have b1:=J.D5 k lk hk m t2 (mem_of_head? hq) ES
  have b2:=J.D5 j ln hj m t2 (h1 _ F1) ES
  rw[b1]at b2
  have b2:=Option.some.inj b2
  subst b2
  rcases bF h with ⟨_,rfl⟩ | ⟨ne,_⟩
  ·obtain⟨i,hi⟩:=pV F1
   have hi:lk.qs.tail[i]? = some ((m:Int),0):=hi
   rw[lM]at hi
   exact J.first k lk hk (i + 1) 0 _ _ hi (by omega) h0 rfl
  ·exact ne rfl
 ·have:=eZ (fun ln:bC=>ln.qs.length) (y:=bX lk) hk
  have hl:(bX lk).qs.length + 1=lk.qs.length:=by
   show lk.qs.tail.length + 1=_
   cases hl:lk.qs with
   | nil=>rw[hl]at hq;cases hq
   | cons _ _=>rfl
  have h1:=J.sum
  unfold iq at h1 ⊢
  show((((s.lanes.set k (bX lk)).map fun ln=>ln.qs.length).sum:Nat):Int) + (gH s:Int) + 1=fj s
  omega
theorem tU {a:YA}{s:YS}{k:Nat}{t:aU}(J:Ab a s)(ht:s.U[k]? = some t)(hg:t.gone ≠ t.len):NU a (cx s k t) k t.gone:=by
 have g0:=J.Bt k t ht
 have lk:∀ (m:Nat)(t':aU),(s.U.set k { t with gone:=t.gone + 1 })[m]? = some t'->∃ t0,s.U[m]? = some t0/\t'.start=t0.start/\t'.goal=t0.goal/\t'.way=t0.way/\t'.len=t0.len/\((m=k/\t'.gone=t.gone + 1)∨(m ≠ k/\t'.gone=t0.gone)):=fun m t' h=>by
  rcases bF h with ⟨rfl,rfl⟩ | ⟨ne,h⟩
  ·exact⟨t,ht,rfl,rfl,rfl,rfl, .inl ⟨rfl,rfl⟩⟩
  ·exact⟨t',h,rfl,rfl,rfl,rfl, .inr ⟨ne,rfl⟩⟩
 refine⟨J.lanes,J.lies,by show(s.U.set _ _).length <= 60;rw[length_set];exact J.Ao,J.Ds,?_,?_,?_,?_,?_,?_,?_,J.first,?_,?_,?_⟩
 ·intro m t' h
  obtain⟨t0,h0,e1,e2,_⟩:=lk m t' h
  rw[e1,e2];exact J.lets m t0 h0
 ·intro m t' h
  obtain⟨t0,h0,e1,e2,e3,_⟩:=lk m t' h
  rw[e3];exact J.Ad m t0 h0
 ·intro j ln h q hq
  obtain⟨m,t0,e,h0,hj⟩:=J.Au j ln h q hq
  by_cases em:m=k
  ·subst em
   rw[ht]at h0
   cases h0
   exact⟨m,_,e,cK ht,hj⟩
  ·exact⟨m,t0,e,by show(s.U.set _ _)[m]? = _;rw[getElem?_set_ne (Ne.symm em)];exact h0,hj⟩
 ·intro m t' h
  obtain⟨t0,h0,e1,e2,e3,e4,e5⟩:=lk m t' h
  have:=J.Bt m t0 h0
  rcases e5 with ⟨rfl,e5⟩ | ⟨_,e5⟩
  ·rw[ht]at h0
   cases h0
   rw[e4,e5];omega
  ·rw[e4,e5];exact this
 ·intro m t' h hz
  obtain⟨t0,h0,e1,e2,e3,e4,e5⟩:=lk m t' h
  rcases e5 with ⟨rfl,e5⟩ | ⟨ne,e5⟩
  ·omega
  ·rw[e3];exact⟨J.Ak m t0 h0 (by omega),ne⟩
 ·intro m t' h i l hi hl
  obtain⟨t0,h0,e1,e2,e3,e4,e5⟩:=lk m t' h
  rw[e3]at hi ⊢
  rw[e2]at hl
  exact J.last m t0 h0 i l hi hl
 ·intro m t' h l ln hl zJ
  obtain⟨t0,h0,e1,e2,e3,e4,e5⟩:=lk m t' h
  rw[e3]at hl
  rw[e2]
  exact .inr (J.head m t0 h0 l ln hl zJ)
 ·intro j ln h m t' hm h'
  obtain⟨t0,h0,e1,e2,e3,e4,e5⟩:=lk m t' h'
  rw[e3]
  exact J.D5 j ln h m t0 hm h0
 ·intro e0 j ln h hm
  obtain⟨m,t0,e,h0,hj⟩:=J.Au j ln h _ hm
  have:k=m:=by have:(k:Int)=(m:Int):=e;omega
  subst this
  rw[ht]at h0
  cases h0
  rw[J.Ak k t ht e0]at hj
  cases hj
 ·have:=jk (fun t:aU=>t.gone) (y:={ t with gone:=t.gone + 1 }) ht
  have h1:=J.sum
  unfold fj at h1 ⊢
  show (iq s:Int) + (gH s:Int) + 1=((s.U.set k { t with gone:=t.gone + 1 }).map fun t=>t.gone).sum
  have:({ t with gone:=t.gone + 1 }:aU).gone=t.gone + 1:=rfl
  omega
theorem ub {l:List Nat}{x:Nat}(h:l.getLast? = some x):l[l.length - 1]? = some x:=by rw[← h,List.getLast?_eq_getElem?]
theorem kE {a:YA}{s:YS}{m l:Nat}{c:Int}{t:aU}{ln:bC}(M:NU a s m c)(ht:s.U[m]? = some t)(zJ:s.lanes[l]? = some ln)(h0:c=0->l ∉ t.way/\∀ x ∈ t.way,jO a x ≠ t.goal)(h1:c ≠ 0->l ∈ t.way):Ab a (cf s m c l t ln):=by
 have BA:l < a.ps.length:=by rw[← M.lanes];exact(gQ0 zJ)
 have lk:∀ (m':Nat)(t':aU),(cf s m c l t ln).U[m']? = some t'->∃ t0,s.U[m']? = some t0/\t'.start=t0.start/\t'.goal=t0.goal/\t'.len=t0.len/\t'.gone=t0.gone/\((c=0/\m' = m/\t0=t/\t'.way=t.way ++ [l])∨(¬ (c=0/\m' = m)/\t'.way=t0.way)):=fun m' t' h=>by
  have h:(if c=0 then s.U.set m { t with way:=t.way ++ [l] } else s.U)[m']? = some t':=h
  by_cases hc:c=0
  ·rw[if_pos hc]at h
   rcases bF h with ⟨rfl,rfl⟩ | ⟨ne,h⟩
   ·exact⟨t,ht,rfl,rfl,rfl,rfl, .inl ⟨hc,rfl,rfl,rfl⟩⟩
   ·exact⟨t',h,rfl,rfl,rfl,rfl, .inr ⟨fun z=>ne z.2,rfl⟩⟩
  ·rw[if_neg hc]at h
   exact⟨t',h,rfl,rfl,rfl,rfl, .inr ⟨fun z=>hc z.1,rfl⟩⟩
 have V8:∀ (m':Nat)(t0:aU),s.U[m']? = some t0->∃ t',(cf s m c l t ln).U[m']? = some t'/\(∀ x ∈ t0.way,x ∈ t'.way)/\(m' = m->l ∈ t'.way):=fun m' t0 h=>by
  by_cases hc:c=0
  ·by_cases e:m' = m
   ·subst e
    rw[ht]at h
    cases h
    refine⟨{ t with way:=t.way ++ [l] },by show(if c=0 then s.U.set m' { t with way:=t.way ++ [l] } else s.U)[m']? = _;rw[if_pos hc];exact cK ht,fun x hx=>mem_append_left _ hx,fun _=>by show l ∈ t.way ++ [l];simp⟩
   ·exact⟨t0,by show(if c=0 then s.U.set m { t with way:=t.way ++ [l] } else s.U)[m']? = _;rw[if_pos hc,getElem?_set_ne (Ne.symm e)];exact h,fun x hx=>hx,fun z=>absurd z e⟩
  ·refine⟨t0,by show(if c=0 then s.U.set m { t with way:=t.way ++ [l] } else s.U)[m']? = _;rw[if_neg hc];exact h,fun x hx=>hx,fun z=>?_⟩
   subst z
   rw[ht]at h
   cases h
   exact h1 hc
 have zZ:∀ (j:Nat)(l':bC),(cf s m c l t ln).lanes[j]? = some l'->(j=l/\l'.qs=ln.qs ++ [((m:Int),c)])∨(j ≠ l/\s.lanes[j]? = some l'):=fun j l' h=>by
  rcases bF h with ⟨rfl,rfl⟩ | ⟨ne,h⟩
  ·exact .inl ⟨rfl,rfl⟩
  ·exact .inr ⟨ne,h⟩
 have old:∀ (j:Nat)(l':bC),(cf s m c l t ln).lanes[j]? = some l'->∀ q ∈ l'.qs,(j=l/\q=((m:Int),c))∨∃ l0,s.lanes[j]? = some l0/\q ∈ l0.qs:=fun j l' h q hq=>by
  rcases zZ j l' h with ⟨rfl,e⟩ | ⟨ne,h⟩
  ·rw[e,mem_append]at hq
   rcases hq with hq | hq
   ·exact .inr ⟨ln,zJ,hq⟩
   ·exact .inl ⟨rfl,by simpa using hq⟩
  ·exact .inr ⟨l',h,hq⟩
 refine⟨by rw[← M.lanes];show(s.lanes.set _ _).length=_;simp,M.lies,?_,M.Ds,?_,?_,?_,?_,?_,?_,?_,?_,?_,?_⟩
 ·show(if c=0 then s.U.set m { t with way:=t.way ++ [l] } else s.U).length <= 60
  by_cases hc:c=0
  ·rw[if_pos hc,length_set];exact M.Ao
  ·rw[if_neg hc];exact M.Ao
 ·intro m' t' h
  obtain⟨t0,h2,e1,e2,_⟩:=lk m' t' h
  rw[e1,e2];exact M.lets m' t0 h2
 ·intro m' t' h
  obtain⟨t0,h2,_,_,_,_,e⟩:=lk m' t' h
  obtain⟨w1,w2⟩:=M.Ad m' t0 h2
  rcases e with ⟨hc,rfl,rfl,e⟩ | ⟨_,e⟩
  ·rw[e]
   refine⟨fun x hx=>?_,?_⟩
   ·rcases mem_append.mp hx with hx | hx
    ·exact w1 x hx
    ·rw[mem_singleton.mp hx];exact BA
   ·rw[nodup_append]
    exact⟨w2,by simp,fun x hx y hy=>by rw[mem_singleton.mp hy];exact fun z=>(h0 hc).1 (z ▸ hx)⟩
  ·rw[e];exact⟨w1,w2⟩
 ·intro j l' h q hq
  rcases old j l' h q hq with ⟨rfl,rfl⟩ | ⟨l0,h2,hq⟩
  ·obtain⟨t',h3,_,h4⟩:=V8 m t ht
   exact⟨m,t',rfl,h3,h4 rfl⟩
  ·obtain⟨m',t0,e,h3,hj⟩:=M.Au j l0 h2 q hq
   obtain⟨t',h4,h5,_⟩:=V8 m' t0 h3
   exact⟨m',t',e,h4,h5 j hj⟩
 ·intro m' t' h
  obtain⟨t0,h2,_,_,e3,e4,_⟩:=lk m' t' h
  rw[e3,e4];exact M.Bt m' t0 h2
 ·intro m' t' h hz
  obtain⟨t0,h2,_,_,_,e4,e⟩:=lk m' t' h
  rw[e4]at hz
  obtain⟨w1,w2⟩:=M.Ak m' t0 h2 hz
  rcases e with ⟨hc,rfl,_⟩ | ⟨_,e⟩
  ·exact absurd rfl w2
  ·rw[e];exact w1
 ·intro m' t' h i x hi hx
  obtain⟨t0,h2,_,e2,_,_,e⟩:=lk m' t' h
  rw[e2]at hx
  rcases e with ⟨hc,rfl,rfl,e⟩ | ⟨_,e⟩
  ·rw[e]at hi ⊢
   by_cases zT:i < t0.way.length
   ·rw[getElem?_append_left zT]at hi
    exact absurd hx ((h0 hc).2 x (mem_of_getElem? hi))
   ·have:=(gQ0 hi)
    rw[length_append,length_singleton]at this ⊢
    omega
  ·rw[e]at hi ⊢
   exact M.last m' t0 h2 i x hi hx
 ·intro m' t' h x l' hx CM
  obtain⟨t0,h2,_,e2,_,_,e⟩:=lk m' t' h
  rcases e with ⟨hc,rfl,rfl,e⟩ | ⟨ne,e⟩
  ·rw[e]at hx
   have hx:l=x:=by simpa using hx
   subst hx
   rcases zZ l l' CM with ⟨_,e'⟩ | ⟨ne,_⟩
   ·left
    rw[e',hc];simp
   ·exact absurd rfl ne
  ·rw[e]at hx
   rcases zZ x l' CM with ⟨rfl,e'⟩ | ⟨ne',h'⟩
   ·rcases M.head m' t0 h2 x ln hx zJ with z | z | z
    ·exact absurd ⟨z.2,z.1⟩ ne
    ·exact .inl (by rw[e'];exact mem_append_left _ z)
    ·rw[e2];exact .inr z
   ·rcases M.head m' t0 h2 x l' hx h' with z | z | z
    ·exact absurd ⟨z.2,z.1⟩ ne
    ·exact .inl z
    ·rw[e2];exact .inr z
 ·intro j l' h i i' z q hi zT hq
  rcases zZ j l' h with ⟨rfl,e⟩ | ⟨_,h'⟩
  ·rw[e]at hi hq
   by_cases DE:i < ln.qs.length
   ·rw[getElem?_append_left DE]at hi
    rw[getElem?_append_left (by omega)]at hq
    exact M.first j ln zJ i i' z q hi zT hq
   ·have h3:=(gQ0 hi)
    rw[length_append,length_singleton]at h3
    have ei:i=ln.qs.length:=by omega
    subst ei
    rw[getElem?_concat_length]at hi
    have hi:=Option.some.inj hi
    injection hi with e1 e2
    subst e1
    rw[getElem?_append_left zT]at hq
    intro ez
    obtain⟨m',t0,e3,h4,h5⟩:=M.Au j ln zJ q (mem_of_getElem? hq)
    have em0:(m':Int)=(m:Int):=by rw[← e3];exact ez
    have:m=m':=by omega
    subst this
    rw[ht]at h4
    cases h4
    exact(h0 e2).1 h5
  ·exact M.first j l' h' i i' z q hi zT hq
 ·intro j l' h m' t' hm h'
  obtain⟨t0,h2,_,_,_,_,e⟩:=lk m' t' h'
  rcases old j l' h _ hm with ⟨rfl,e'⟩ | ⟨l0,h3,hm⟩
  ·injection e' with e1 e2
   have em:m' = m:=by omega
   subst em
   rcases e with ⟨_,_,_,e⟩ | ⟨ne,_⟩
   ·rw[e];simp
   ·exact absurd ⟨e2.symm,rfl⟩ ne
  ·rcases e with ⟨hc,rfl,rfl,e⟩ | ⟨ne,e⟩
   ·exact absurd hm (M.gone hc j l0 h3)
   ·rw[e];exact M.D5 j l0 h3 m' t0 hm h2
 ·have q1:=eZ (fun ln:bC=>ln.qs.length) (y:=eL ln m c t.len) zJ
  have q2:(eL ln m c t.len).qs.length=ln.qs.length + 1:=by show(ln.qs ++ [_]).length=_;simp
  have q3:fj (cf s m c l t ln)=fj s:=by
   unfold fj
   show((if c=0 then s.U.set m { t with way:=t.way ++ [l] } else s.U).map fun t=>t.gone).sum=_
   by_cases hc:c=0
   ·rw[if_pos hc]
    have:=jk (fun t:aU=>t.gone) (y:={ t with way:=t.way ++ [l] }) ht
    have e:({ t with way:=t.way ++ [l] }:aU).gone=t.gone:=rfl
    omega
   ·rw[if_neg hc]
  have h2:=M.sum
  rw[q3]
  unfold iq at h2 ⊢
  show((((s.lanes.set l (eL ln m c t.len)).map fun ln=>ln.qs.length).sum:Nat):Int) + (gH s:Int)=fj s
  omega
theorem vV {a:YA}{s:YS}{m e:Nat}{c:Int}{t:aU}{qs:List (Int × Int)}(M:NU a s m c)(ht:s.U[m]? = some t)(AV:s.lies[e]? = some qs)(h0:c=0->∀ x,t.way.getLast? = some x->jO a x=t.goal):Ab a { s with lies:=s.lies.set e (qs ++ [((m:Int),c)]) }:=by
 refine⟨M.lanes,by show(s.lies.set _ _).length=_;rw[length_set];exact M.lies,M.Ao,M.Ds,M.lets,M.Ad,M.Au,M.Bt,fun m' t' h z=>(M.Ak m' t' h z).1,M.last,?_,M.first,M.D5,?_⟩
 ·intro m' t' h x l' hx CM
  rcases M.head m' t' h x l' hx CM with ⟨rfl,hc⟩ | z | z
  ·have h:s.U[m']? = some t':=h
   rw[ht]at h
   cases h
   exact .inr (h0 hc x hx)
  ·exact .inl z
  ·exact .inr z
 ·have:=eZ (fun qs:List (Int × Int)=>qs.length) (y:=qs ++ [((m:Int),c)]) AV
  have h2:=M.sum
  unfold gH at h2 ⊢
  show (iq s:Int) + ((((s.lies.set e (qs ++ [((m:Int),c)])).map fun qs=>qs.length).sum:Nat):Int)=fj s
  rw[length_append,length_singleton]at this
  omega
theorem Ab.back {a:YA}{s:YS}{k:Nat}{lk L6:bC}(J:Ab a s)(hk:s.lanes[k]? = some lk)(e:L6.qs=lk.qs):Ab a { s with lanes:=s.lanes.set k L6 }:=by
 have AU:∀ (j:Nat)(l':bC),(s.lanes.set k L6)[j]? = some l'->∃ l0,s.lanes[j]? = some l0/\l'.qs=l0.qs:=fun j l' h=>by
  rcases bF h with ⟨rfl,rfl⟩ | ⟨_,h⟩
  ·exact⟨lk,hk,e⟩
  ·exact⟨l',h,rfl⟩
 refine⟨by rw[← J.lanes];simp,J.lies,J.Ao,J.Ds,J.lets,J.Ad,?_,J.Bt,J.Ak,J.last,?_,?_,?_,?_⟩
 ·intro j l' h q hq
  obtain⟨l0,h0,e0⟩:=AU j l' h
  rw[e0]at hq
  exact J.Au j l0 h0 q hq
 ·intro m t ht x l' hx CM
  obtain⟨l0,h0,e0⟩:=AU x l' CM
  rw[e0]
  exact J.head m t ht x l0 hx h0
 ·intro j l' h
  obtain⟨l0,h0,e0⟩:=AU j l' h
  rw[e0]
  exact J.first j l0 h0
 ·intro j l' h
  obtain⟨l0,h0,e0⟩:=AU j l' h
  rw[e0]
  exact J.D5 j l0 h0
 ·have:=eZ (fun ln:bC=>ln.qs.length) (y:=L6) hk
  have h1:=J.sum
  have e':=congrArg List.length e
  unfold iq at h1 ⊢
  show((((s.lanes.set k L6).map fun ln=>ln.qs.length).sum:Nat):Int) + (gH s:Int)=fj s
  omega
theorem Ab.step {a:YA}{s s':YS}{m:Mv}(J:Ab a s)(h:Bz a s m s'):Ab a s':=by
 cases h with
 | @AU k l t ln ht hg hl zJ ho =>
  have M:=tU J ht hg
  refine kE (t:={ t with gone:=t.gone + 1 }) M (cK ht) zJ (fun hc=>?_) (fun hc=>?_)
  ·have hw:=J.Ak k t ht hc
   show l ∉ t.way/\∀ x ∈ t.way,jO a x ≠ t.goal
   rw[hw]
   exact⟨by simp,by simp⟩
  ·unfold aV at hl
   rw[if_neg hc]at hl
   exact mem_of_mem_take hl
 | @on k l m c lk ln t hk hq ht hl zJ ho =>
  have M:=mE J hk hq
  have hw:bj a s k=if c=0 then (n0 a k t.goal.toNat).filter (fun l=>!decide (l ∈ t.way)) else (t.way.drop (t.way.idxOf k + 1)).take 1:=by
   unfold bj aL
   rw[hk]
   dsimp only
   rw[hq]
   dsimp only
   rw[toNat_natCast,ht]
  rw[hw]at hl
  refine kE M ht zJ (fun hc=>?_) (fun hc=>?_)
  ·rw[if_pos hc]at hl
   obtain⟨h1,h2⟩:=mem_filter.mp hl
   refine⟨by simpa using h2,fun x hx ex=>?_⟩
   subst hc
   obtain⟨i,hi⟩:=pV hx
   have h3:=J.last m t ht i x hi ex
   have h4:=J.D5 k lk hk m t (mem_of_head? hq) ht
   have h5:=ub h4
   rw[show t.way.length - 1=i by omega,hi]at h5
   have h5:=Option.some.inj h5
   subst h5
   unfold n0 at h1
   obtain⟨x0,y0,e1,e2,_,_⟩:=J.lets m t ht
   rw[if_pos (by show jO a x=_;rw[ex,e2,toNat_natCast])]at h1
   cases h1
  ·rw[if_neg hc]at hl
   exact mem_of_mem_drop (mem_of_mem_take hl)
 | @AK k m e c lk t qs hk hq ht hg he AV =>
  have M:=mE J hk hq
  have:=vV (s:={ s with lanes:=s.lanes.set k (bX lk) }) M ht AV (fun hc x hx=>?_)
  ·exact this
  ·subst hc
   have h4:=J.D5 k lk hk m t (mem_of_head? hq) ht
   rw[h4]at hx
   have hx:=Option.some.inj hx
   subst hx
   show(a.ps.getD k (0,0)).2=t.goal
   rw[he,hg]
 | @back k lk hk hb=>exact J.back hk rfl
noncomputable def rF (s:YS):Int:=(s.U.map fun t=>t.len).sum
theorem pi {α:Type}(f g:α->Int):∀ {L:List α},(∀ (m:Nat)(t:α),L[m]? = some t->f t <= g t)->(L.map f).sum <= (L.map g).sum
 | [],_=>by simp
 | x :: L,h=>by
  have h1:=h 0 x rfl
  have h2:=pi f g (L:=L) fun m t ht=>h (m + 1) t ht
  simp only[map_cons,sum_cons];omega
theorem ky {α:Type}(g:α->Int):∀ {L:List α},(∀ (m:Nat)(t:α),L[m]? = some t->g t <= 60)->(L.map g).sum <= 60 * L.length
 | [],_=>by simp
 | x :: L,h=>by
  have h1:=h 0 x rfl
  have h2:=ky g (L:=L) fun m t ht=>h (m + 1) t ht
  simp only[map_cons,sum_cons,length_cons];omega
theorem Ab.Ec {a:YA}{s:YS}(J:Ab a s):(gH s:Int) <= rF s/\(iq s:Int) + (gH s:Int) <= 3600:=by
 have h1:=pi (fun t:aU=>t.gone) (fun t=>t.len) (L:=s.U) fun m t ht=>(J.Bt m t ht).2.1
 have h2:=J.sum
 have h3:=ky (fun t:aU=>t.len) (L:=s.U) fun m t ht=>(J.Bt m t ht).2.2
 have h4:=J.Ao
 unfold fj at h2
 unfold rF
 omega
theorem dU {α:Type}(f:α->Nat):∀ {L:List α}{k:Nat}{x:α},L[k]? = some x->f x <= (L.map f).sum
 | [],_,_,h=>by cases h
 | z :: L,0,x,h=>by cases h;simp only[map_cons,sum_cons];omega
 | z :: L,k + 1,x,h=>by
  have:=dU f (L:=L) (k:=k) (x:=x) h
  simp only[map_cons,sum_cons];omega
theorem Ab.sml {a:YA}{s:YS}(J:Ab a s)(hd:s.done.length <= 100000):V5 s:=by
 have h:=J.Ec.2
 refine⟨fun k ln hk=>?_,fun p qs hp=>?_,hd⟩
 ·have:=dU (fun ln:bC=>ln.qs.length) hk
  unfold iq at h
  omega
 ·have:=dU (fun qs:List (Int × Int)=>qs.length) hp
  unfold gH at h
  omega
noncomputable abbrev yx (ys:Ys)(ex:List Addr):Ys:={ ys with ex:=ex }
noncomputable def ScV (x:V):Prop:=(∃ i,x = .int i)∨∃ t,x = .str t/\PyData.strOk t=true
structure QO (a:YA)(s:YS):Prop where
 lanes:s.lanes.length=a.ps.length
 lies:s.lies.length=a.n
 q0:∀ (k:Nat)(ln:bC),s.lanes[k]? = some ln->ln.qs=[]
 l0:∀ (p:Nat)(qs:List (Int × Int)),s.lies[p]? = some qs->qs=[]
 lets:∀ (m:Nat)(t:aU),s.U[m]? = some t->t.gone=0/\t.way=[]/\0 <= t.len/\t.len <= 60/\∃ x y:Nat,t.start=(x:Int)/\t.goal=(y:Int)/\x < a.n/\y < a.n
 done:∀ d ∈ s.done,∀ x ∈ d,ScV x
theorem uO {α:Type}(f:α->Nat):∀ {L:List α},(∀ (k:Nat)(x:α),L[k]? = some x->f x=0)->(L.map f).sum=0
 | [],_=>rfl
 | x :: L,h=>by
  have h1:=h 0 x rfl
  have h2:=uO f (L:=L) fun k y hy=>h (k + 1) y hy
  simp only[map_cons,sum_cons];omega
theorem wC {α:Type}(f:α->Int):∀ {L:List α},(∀ (k:Nat)(x:α),L[k]? = some x->f x=0)->(L.map f).sum=0
 | [],_=>rfl
 | x :: L,h=>by
  have h1:=h 0 x rfl
  have h2:=wC f (L:=L) fun k y hy=>h (k + 1) y hy
  simp only[map_cons,sum_cons];omega
theorem QO.jnv {a:YA}{s:YS}(h:QO a s)(Ao:s.U.length <= 60)(Ds:a.ps.length <= 40):Ab a s:=by
 refine⟨h.lanes,h.lies,Ao,Ds,fun m t ht=>(h.lets m t ht).2.2.2.2,fun m t ht=>?_,fun k ln hk q hq=>?_,fun m t ht=>?_,fun m t ht _=>(h.lets m t ht).2.1,fun m t ht i l hi=>?_,fun m t ht l ln hl=>?_,fun k ln hk i j z q hi=>?_,fun k ln hk m t hm=>?_,?_⟩
 ·rw[(h.lets m t ht).2.1];exact⟨(fun l hl=>by cases hl),nodup_nil⟩
 ·rw[h.q0 k ln hk]at hq;cases hq
 ·obtain⟨h1,h2,h3,h4,_⟩:=h.lets m t ht
  rw[h1];exact⟨by omega,h3,h4⟩
 ·rw[(h.lets m t ht).2.1]at hi;cases hi
 ·rw[(h.lets m t ht).2.1]at hl;cases hl
 ·rw[h.q0 k ln hk]at hi;cases hi
 ·rw[h.q0 k ln hk]at hm;cases hm
 ·have h1:iq s=0:=uO _ fun k ln hk=>by rw[h.q0 k ln hk];rfl
  have h2:gH s=0:=uO _ fun p qs hp=>by rw[h.l0 p qs hp];rfl
  have h3:fj s=0:=wC _ fun m t ht=>(h.lets m t ht).1
  rw[h1,h2,h3];rfl
theorem qJ {n a b:Nat}{wy:Wf}{m:Nat}{l u:Int}(ha:a < n)(hb:b < n)(hl:1 <= l/\l <= 60)(hu:IC (.int u)=true)(Ho:a ≠ b)(hw:wy a b none ≠ [])(hm:m < 60):lw n wy m (.int a) (.int b) (.int l) (.int u) = .good:=by
 unfold lw
 rw[show k9 (.int (a:Int)) 0 ((n:Int) - 1)=true from decide_eq_true (by omega),show k9 (.int (b:Int)) 0 ((n:Int) - 1)=true from decide_eq_true (by omega),show k9 (.int l) 1 60=true from decide_eq_true hl,hu,if_neg (by decide),if_neg (by decide),if_neg (by decide)]
 rw[if_neg (by
  rintro (h | h)
  ·have h:(a:Int)=(b:Int):=h
   omega
  ·have h:wy ((a:Int)).toNat ((b:Int)).toNat none=[]:=h
   rw[toNat_natCast,toNat_natCast]at h
   exact hw h),if_neg (by omega)]
theorem si {ex:List Addr}{H H1 H2:Hp}(s:zf H H1)(o:zo ex H1 H2)(hn:∀ b ∈ ex,H b=none):zf H H2:=fun b u e=>o b _ (fun z=>by rw[hn b z]at e;cases e) (s b u e)
theorem ut (ns:List Int)(i j:Nat):∃ ms:List Int,iH (ns.map V.int) (some (i:Int)) (some (j:Int))=ms.map V.int/\ms.length <= j - i:=by
 refine⟨(ns.drop (min i ns.length)).take (min j ns.length - min i ns.length),?_,?_⟩
 ·unfold iH
  rw[show HT.B8 (ns.map V.int).length 0 (some (i:Int))=min i (ns.map V.int).length from HT.AN _ _ i,show HT.B8 (ns.map V.int).length (ns.map V.int).length (some (j:Int))=min j (ns.map V.int).length from HT.AN _ _ j,length_map,map_take,List.map_drop]
 ·rw[length_take,length_drop];omega
theorem Ab.done {a:YA}{s:YS}(J:Ab a s)(d:List (List V)):Ab a { s with done:=d }:=⟨J.lanes,J.lies,J.Ao,J.Ds,J.lets,J.Ad,J.Au,J.Bt,J.Ak,J.last,J.head,J.first,J.D5,J.sum⟩
theorem QP {a:YA}{zA:List V}(h:zA.length=a.ps.length):QO a (Y0 zA a.n):=by
 refine⟨by show(zA.map n8).length=_;rw[length_map];exact h,by show(List.replicate a.n []).length=_;rw[length_replicate],fun k ln hk=>?_,fun p qs hp=>?_,fun m t ht=>?_,fun d hd=>?_⟩
 ·have hk:(zA.map n8)[k]? = some ln:=hk
  rw[getElem?_map]at hk
  cases hr:zA[k]? with
  | none=>rw[hr]at hk;cases hk
  | some v=>rw[hr]at hk;cases hk;rfl
 ·have hp:(List.replicate a.n ([]:List (Int × Int)))[p]? = some qs:=hp
  exact eq_of_mem_replicate (mem_of_getElem? hp)
 ·have ht:([]:List aU)[m]? = some t:=ht
  cases ht
 ·have hd:d ∈ ([]:List (List V)):=hd
  cases hd
theorem eO {K:Frag}{H:Hp}:∀ us:List Nat,iW K H (nV us) (us.map fun z:Nat=>PyData.int z)
 | [] => .nil
 | u :: us => .cons (.int _) (eO us)
noncomputable def sW (p:Int × Int):PyData := .tuple [.int p.1, .int p.2]
theorem um {K:Frag}{H:Hp}:∀ {vs:List V}{ps:List (Int × Int)},zN H vs ps->iW K H vs (ps.map sW):=fun zk=>by
 induction zk with
 | nil=>exact .nil
 | cons zz r ih=>obtain⟨t,e,h⟩:=zz;exact .cons (by subst e;exact .tup (zt.of h) (.cons (.int _) (.cons (.int _) .nil))) ih
theorem qC (ps:List (Int × Int)):Bx (.list (ps.map sW)) 64:=(fq (m:=1) fun z hz=>by
 obtain⟨p,_,rfl⟩:=mem_map.mp hz
 exact dM (m:=0) fun y hy=>by
  simp only[mem_cons,not_mem_nil,or_false]at hy
  rcases hy with rfl | rfl<;>exact cy _).le (by decide)
theorem uS (ms:List Mv):Bx (.list (ms.map uG)) 64:=(fq (m:=1) fun z hz=>by
 obtain⟨m,_,rfl⟩:=mem_map.mp hz
 exact lh m).le (by decide)
theorem B0:Bx (.list []) 64:=(fq (m:=0) fun z hz=>by cases hz).le (by decide)
theorem qj {α:Type}(f:α->PyData)(l:List α):PyData.eqv (.list (l.map f)) (.list [])=l.isEmpty:=by
 cases l<;>simp[PyData.eqv,PyData.eqvAll]
theorem QQ {K:Frag}{x y:V}{H:Hp}{Q:VK}{α:Type}{f:α->PyData}{l:List α}(h1:jX K H x (.list (l.map f)))(h2:jX K H y (.list []))(s:Bx (.list (l.map f)) 64)(q:Q (.bl l.isEmpty) H):JL K x y H Q :=
 ⟨_,_,h1,h2,s.shaped (Nat.le_refl _),B0.shaped (Nat.le_refl _),by rw[qj];exact q⟩
theorem neN {K:Frag}{x y:V}{H:Hp}{Q:VK}{α:Type}{f:α->PyData}{l:List α}(h1:jX K H x (.list (l.map f)))(h2:jX K H y (.list []))(s:Bx (.list (l.map f)) 64)(q:Q (.bl (!l.isEmpty)) H):xU K x y H Q :=
 ⟨_,_,h1,h2,s.shaped (Nat.le_refl _),B0.shaped (Nat.le_refl _),by rw[qj];exact q⟩
theorem Bz.rooms {a:YA}{s s':YS}{m:Mv}(h:Bz a s m s'):s'.rooms=s.rooms:=by cases h<;>rfl
theorem Bz.len {a:YA}{s s':YS}{m:Mv}(h:Bz a s m s'):s'.U.length=s.U.length:=by
 cases h with
 | @AU k l t ln ht hg hl zJ ho =>
  show(if t.gone=0 then (cx s k t).U.set k _ else (cx s k t).U).length=_
  have:(cx s k t).U.length=s.U.length:=length_set ..
  split
  ·rw[length_set];exact this
  ·exact this
 | @on k l m c lk ln t hk hq ht hl zJ ho =>
  show(if c=0 then s.U.set m _ else s.U).length=_
  split
  ·exact length_set ..
  ·rfl
 | AK=>rfl
 | back=>rfl
theorem Ab.post {a:YA}{s:YS}(J:Ab a s){x y:Nat}{l u:Int}(hx:x < a.n)(hy:y < a.n)(hl:0 <= l/\l <= 60)(hf:s.U.length < 60):Ab a (dP s x y l u):=by
 have el:∀ (m:Nat)(t:aU),(dP s x y l u).U[m]? = some t->s.U[m]? = some t∨(m=s.U.length/\t = ⟨x,y,l,u,0,[]⟩):=fun m t ht=>by
  have ht:(s.U ++ [(⟨(x:Int),(y:Int),l,u,0,[]⟩:aU)])[m]? = some t:=ht
  by_cases hm:m < s.U.length
  ·rw[getElem?_append_left hm]at ht;exact .inl ht
  ·have h3:=(gQ0 ht)
   rw[length_append,length_singleton]at h3
   have em:m=s.U.length:=by omega
   subst em
   rw[getElem?_concat_length]at ht
   cases ht
   exact .inr ⟨rfl,rfl⟩
 have eo:∀ (m:Nat)(t:aU),s.U[m]? = some t->(dP s x y l u).U[m]? = some t:=fun m t ht=>by
  show(s.U ++ [(⟨(x:Int),(y:Int),l,u,0,[]⟩:aU)])[m]? = some t
  rw[getElem?_append_left (gQ0 ht)];exact ht
 refine⟨J.lanes,J.lies,?_,J.Ds,fun m t ht=>?_,fun m t ht=>?_,fun k ln hk q hq=>?_,fun m t ht=>?_,fun m t ht hg=>?_,fun m t ht i l' hi he=>?_,fun m t ht l' ln CM zJ=>?_,J.first,fun k ln hk m t hm ht=>?_,?_⟩
 ·show(s.U ++ [_]).length <= 60
  rw[length_append,length_singleton];omega
 ·rcases el m t ht with h | ⟨_,rfl⟩
  ·exact J.lets m t h
  ·exact⟨x,y,rfl,rfl,hx,hy⟩
 ·rcases el m t ht with h | ⟨_,rfl⟩
  ·exact J.Ad m t h
  ·exact⟨(fun l hl=>by cases hl),nodup_nil⟩
 ·obtain⟨m,t,e,ht,Ep⟩:=J.Au k ln hk q hq
  exact⟨m,t,e,eo m t ht,Ep⟩
 ·rcases el m t ht with h | ⟨_,rfl⟩
  ·exact J.Bt m t h
  ·exact⟨Int.le_refl _,hl.1,hl.2⟩
 ·rcases el m t ht with h | ⟨_,rfl⟩
  ·exact J.Ak m t h hg
  ·rfl
 ·rcases el m t ht with h | ⟨_,rfl⟩
  ·exact J.last m t h i l' hi he
  ·cases hi
 ·rcases el m t ht with h | ⟨_,rfl⟩
  ·exact J.head m t h l' ln CM zJ
  ·cases CM
 ·obtain⟨m2,t2,e2,ES,_⟩:=J.Au k ln hk _ hm
  have e2:(m:Int)=(m2:Int):=e2
  have e2:m=m2:=by omega
  subst e2
  rcases el m t ht with h | ⟨e,_⟩
  ·exact J.D5 k ln hk m t hm h
  ·rw[e]at ES
   rw[List.getElem?_eq_none (Nat.le_refl _)]at ES
   cases ES
 ·have h:=J.sum
  have e:fj (dP s x y l u)=fj s:=by
   show((s.U ++ [(⟨(x:Int),(y:Int),l,u,0,[]⟩:aU)]).map _).sum=_
   rw[map_append,sum_append]
   simp[fj]
  rw[e];exact h
theorem zW.IM {K:Frag}{ys:Ys}{e e':List Addr}{H H':Hp}{a:YA}{s:YS}(h:zW K (yx ys e) H a s)(o:zf H H')(hx:∀ b ∈ e',b ∈ e∨(H b=none/\∃ zs,H' b=some (.lst zs))):zW K (yx ys e') H' a s:=by
 have V9:∀ p:Addr,(∃ u,H p=some u)->p ∉ a.la :: a.le :: a.li :: a.dn :: e->p ∉ a.la :: a.le :: a.li :: a.dn :: e':=fun p ⟨u,hu⟩ hn z=>by
  have en:∀ q:List Addr,a.la :: a.le :: a.li :: a.dn :: q=[a.la,a.le,a.li,a.dn] ++ q:=fun _=>rfl
  rw[en]at z hn
  rcases mem_append.mp z with z | z
  ·exact hn (mem_append_left _ z)
  ·rcases hx p z with z | ⟨z,_⟩
   ·exact hn (mem_append_right _ z)
   ·rw[z]at hu;cases hu
 obtain⟨v1,h1,p1⟩:=h.Ap
 obtain⟨v2,h2,p2⟩:=h.hle
 have h':=zu.same h o
 refine⟨h'.ins,h'.ID,⟨v1,o _ _ h1,Paired.mono (fun v ln z=>?_) p1⟩,⟨v2,o _ _ h2,Paired.mono (fun v t z=>?_) p2⟩,h'.BE,h'.AR,h'.ne,fun b hb=>?_⟩
 ·obtain⟨x,dx,pa,zB,ev,L,n⟩:=z
  exact⟨x,dx,pa,zB,ev,L.same o,V9 pa ⟨_,L.lst⟩ n⟩
 ·obtain⟨x,dx,wa,ev,BQ,hw,n⟩:=z
  exact⟨x,dx,wa,ev,o _ _ BQ,o _ _ hw,V9 wa ⟨_,hw⟩ n⟩
 ·rcases hx b hb with z | ⟨_,z⟩
  ·obtain⟨zs,hz⟩:=h.hex b z
   exact⟨zs,o _ _ hz⟩
  ·exact z
theorem zW.L7 {K:Frag}{ys:Ys}{e:List Addr}{H H':Hp}{a:YA}{s:YS}(h:zW K ys H a s)(o:zo e H H')(hs:∀ b ∈ e,b ∈ ys.ex)(hn:∀ b ∈ a.four,b ∉ e)(hl:∀ b ∈ e,∃ zs,H' b=some (.lst zs)):zW K ys H' a s:=by
 have o2:zo (a.la :: a.le :: a.li :: a.dn :: ys.ex) H H':=o.mono fun b hb=>by simp[hs b hb]
 obtain⟨h1,h2,f1,f2,f3,f4⟩:=zu.off h o2
 obtain⟨v1,a1,p1⟩:=h.Ap
 obtain⟨v2,a2,p2⟩:=h.hle
 obtain⟨v3,a3,p3⟩:=h.BE
 obtain⟨v4,a4,p4⟩:=h.AR
 refine⟨h1,h2,⟨v1,o _ _ (hn _ (by simp)) a1,f1 _ _ p1⟩,⟨v2,o _ _ (hn _ (by simp)) a2,f2 _ _ p2⟩,⟨v3,o _ _ (hn _ (by simp)) a3,f3 _ _ p3⟩,⟨v4,o _ _ (hn _ (by simp)) a4,f4 _ _ p4⟩,h.ne,fun b hb=>?_⟩
 by_cases Bh:b ∈ e
 ·exact hl b Bh
 ·obtain⟨zs,hz⟩:=h.hex b hb
  exact⟨zs,o _ _ Bh hz⟩
theorem y2 {m:Nat}{rs:List Int}(Em:rs.length=m)(ET:∀ r ∈ rs,1 <= r/\r <= 60):pP m (rs.map V.int)=true:=by
 unfold pP
 rw[length_map,Em,decide_eq_true rfl,Bool.true_and,all_eq_true]
 intro v hv
 obtain⟨r,I0,rfl⟩:=mem_map.mp hv
 exact decide_eq_true (ET r I0)
noncomputable def VA (K:Frag)(c:Cs)(TC:Addr)(J:TJ)(ys:Ys)(ex:List Addr)(H:Hp)(tb:Addr)(ps:List (Int × Int))(n:Nat)(wy:Wf)(rs:List Int):VK:=fun v H'=>∃ a:YA,v = .ref a.y/\a.tb=tb/\a.ps=ps/\a.n=n/\a.wy=wy/\zf H H'/\(∀ z ∈ a.four,H z=none)/\B6 K c TC J (yx ys ex) H' a (Y0 (rs.map V.int) n)/\Ab a (Y0 (rs.map V.int) n)
theorem uM {P:Program}{w:World}{K:Frag}{c:Cs}{TC fw nr:Addr}{dw:FuncData}{J:TJ}{ys:Ys}{ex:List Addr}{H:Hp}{tb lx zX lt ra:Addr}{n:Nat}{zw:List V}{ps:List (Int × Int)}{wy:Wf}{rs:List Int}{E:XK}(W:Wy K TC fw dw J)
  (hT:An c TC J H tb lx zX lt n zw ps wy) (Dc:∀ p g k,(wy p g k).length <= 400) (zp:∀ p ∈ ps,iO n p=true) (hR:zj K H ra (rs.map V.int)) (Em:rs.length=ps.length) (ET:∀ r ∈ rs,1 <= r/\r <= 60) (hp:ps.length <= 8) (hex:∀ b ∈ ex,∃ xs,H b=some (.lst xs)) :
  ∀ y dy,H y=none->H dy=none->dy ≠ y->lP K c TC J (yx ys ex) nr [.ref y, .ref tb, .ref ra] (upd (upd H dy (.own y)) y (.ins ys.zi dy [])) (fun v H2=>v = .zD/\VA K c TC J ys ex H tb ps n wy rs (.ref y) H2) E:=by
 intro y dy ny QR QS
 have s4:zf H (upd (upd H dy (.own y)) y (.ins ys.zi dy [])):=zf.new (zf.new (zf.refl H) QR) (by rw[ae (Ne.symm QS)];exact ny)
 have QT:=y2 Em ET
 refine⟨y,dy,tb,lx,zX,lt,n,zw,ps,wy,_,rs.map V.int,rfl,ac,hT.keep W (zf.zC s4),(fun b hb=>let ⟨xs,hz⟩:=hex b hb; ⟨xs,s4 _ _ hz⟩), .inr ⟨ra,rfl, .inl (s4.seq hR),by rw[length_map];omega,(fun v hv=>by obtain⟨r,_,rfl⟩:=mem_map.mp hv;exact .int r),fun h=>by rw[QT]at h;cases h⟩,fun _ ro la le li dn H5 o5 FA Hj KU NM hY=>⟨rfl,?_⟩⟩
 have s5:zf H H5:=fun b o e=>o5 b o (fun z=>by rw[mem_singleton.mp z,ny]at e;cases e) (s4 _ _ e)
 have hO:Lu ⟨y,dy,tb,ro,la,le,li,dn,lx,zX,lt,n,zw,ps,wy⟩:=by
  refine⟨fun l pr hl=>?_,Dc⟩
  have Ed:=zp pr (mem_of_getElem? hl)
  unfold iO at Ed
  simp only[Bool.and_eq_true,decide_eq_true_eq,Bool.not_eq_true',decide_eq_false_iff_not]at Ed
  exact⟨pr.2.toNat,by omega,by show pr.2.toNat < n;omega⟩
 have hJ:Ab ⟨y,dy,tb,ro,la,le,li,dn,lx,zX,lt,n,zw,ps,wy⟩ (Y0 (rs.map V.int) n):=(QP (a:=⟨y,dy,tb,ro,la,le,li,dn,lx,zX,lt,n,zw,ps,wy⟩) (by rw[length_map];exact Em)).jnv (zero_le _) (by show ps.length <= 40;omega)
 refine⟨⟨y,dy,tb,ro,la,le,li,dn,lx,zX,lt,n,zw,ps,wy⟩,rfl,rfl,rfl,rfl,rfl,s5,fun z hz=>?_,⟨hY,hT.keep W (zf.zC s5),hO,hJ.ok⟩,hJ⟩
 have hz:z ∈ [la,le,li,dn]:=hz
 simp only[mem_cons,not_mem_nil,or_false]at hz
 rcases hz with rfl | rfl | rfl | rfl
 ·exact s4.free FA
 ·exact s4.free Hj
 ·exact s4.free KU
 ·exact s4.free NM
theorem uu {α:Type}{R:Hp->V->α->Prop}{g:TG}{te:TE}{σ0:St}{H:Hp}{Q:VK}(mono:∀ {H H':Hp},zf H H'->∀ v a,R H v a->R H' v a)(as:List α)(hn:as.length < sizeLine)
  (hs:∀ (i:Nat)(a:α)(H1:Hp)(N:V->Hp->Prop),as[i]? = some a->zf H H1->(∀ v H2,zf H1 H2->R H2 v a->N v H2)->g (.int i) σ0 H1 fun σ2 H2=>te σ2 H2 N)
  (hq:∀ D vs H1,zf H H1->H1 D=none->Paired (R H1) vs as->Q (.ref D) (upd H1 D (.lst vs))):c9 (uJ 0 as.length) g lN te σ0 Q H:=by
 refine bM as.length hn (fun i acc H'=>zf H H'/\Paired (R H') acc (as.take i)) ⟨zf.refl _, .nil⟩ (fun i acc H' h=>by rw[Paired.length h.2];exact length_take_le _ _) (fun i acc H' hi h=>?_) (fun acc H' h=>?_)
 ·obtain⟨s,hL⟩:=h
  refine⟨hi,fun v H2 y=>?_⟩
  obtain⟨rfl,rfl⟩:=y
  rw[zero_add]
  refine hs i as[i] H2 (fun y H4=>zf H H4/\Paired (R H4) (acc ++ [y]) (as.take (i + 1))) (getElem?_eq_getElem hi) s fun v H3 s3 hv=>⟨s.trans s3,?_⟩
  rw[take_succ,getElem?_eq_getElem hi]
  exact Paired.snoc hv (Paired.mono (mono s3) hL)
 ·obtain⟨s,hL⟩:=h
  rw[take_length]at hL
  exact⟨Nat.le_refl _,fun D hD=>hq D acc H' s hD hL⟩
noncomputable def mS (s:YS):Bool:=decide ((s.U.map (·.len)).sum=(s.lies.map fun q=>(q.length:Int)).sum)
noncomputable def QU (s:Stmt):Scope:=match s with
 | .Return (some (.Compare (.Call _ [.ListComp _ _ sc _] _ _) _ _ _)) _=>sc
 | _=>zQ0
noncomputable def QV (s:Stmt):Scope:=match s with
 | .Return (some (.Compare _ _ [.Call _ [.ListComp _ _ sc _] _ _] _)) _=>sc
 | _=>zQ0
noncomputable def lf (K:Frag)(ys:Ys):Sp:=fun vs H Q _=>∃ (y dy tb ro la le li dn:Addr)(s:YS),vs=[.ref y]/\zu K ys H y dy tb ro la le li dn s/\s.U.length <= 900/\s.lies.length <= 900/\∀ H',zf H H'->Q (.bl (mS s)) H'
theorem QW:ao ["self"] ["self"] (ah gj):=L2.zQ
theorem QX:As ["self"] (ah gj) (QU ((aG gj).getD 0 (.Pass ⟨0,0,0,0⟩))) [] []:=L2.Bs
theorem QY:As ["self"] (ah gj) (QV ((aG gj).getD 0 (.Pass ⟨0,0,0,0⟩))) [] []:=L2.Bs
theorem QZ:(["letter"]:List Str).Nodup:=by decide +kernel
theorem Ra:(["pieces"]:List Str).Nodup:=by decide +kernel
theorem tJ {ys:Ys}{f:Addr}{fd:FuncData}(F:zH K "ended" "Yard.ended" gj f fd)(T:eW mg)(Y:fU K ys):zg P w K mg base aD 1 f fd ["self"] (lf K ys):=by
 refine F.ok QW (fun _ _ _ _ h=>?_) (fun _ _ _ s H _ Q E hr h=>?_)
 ·obtain⟨y,dy,tb,ro,la,le,li,dn,st,rfl,_⟩:=h
  rfl
 ·obtain⟨y,dy,tb,ro,la,le,li,dn,st,rfl,hY,h9,h92,q⟩:=h
  refine⟨_,ai (ar (cz bK (aw (jQ rfl) rfl T.sum PyProof.Rows.boot_sum (aa (aT (own:=["letter"]) (capN:=[]) (cap:=[]) QX rfl (bx (al (pv 0) rfl)) (fun C s' H' fp=>⟨av (i:=0) QZ rfl (Or.inl rfl),ck,(show PE _ _ (q5 K (nN 0) "length") from al (pv 0) rfl)⟩)) ad))
   (aw (jQ rfl) rfl T.sum PyProof.Rows.boot_sum (aa (aT (own:=["pieces"]) (capN:=[]) (cap:=[]) QY rfl (bx (al (pv 0) rfl)) (fun C s' H' fp=>⟨av (i:=0) Ra rfl (Or.inl rfl),ck,aw (show dF _ (.builtin "len") (Qt K) from aq) rfl T.len PySem.boot_len (aa (pv 0) ad)⟩)) ad)) (ax _))),?_⟩
  obtain⟨zw,Av,pl⟩:=hY.hle
  have BA:=Paired.length pl
  refine⟨_,rfl,y,ys.zi,dy,_,_,rfl,hY.ins,Y.cl,Y.n4,rfl,le,rfl,⟨_,zj.of Av⟩,?_⟩
  refine kK (fun i => .int (st.U.getD i ⟨0,0,0,0,0,[]⟩).len) (by rw[sizeLine_eq];omega) (zj.of Av) (fun i x N hx h=>?_) (fun D hD=>?_)
  ·obtain⟨lt,zT,x',dx,wa,rfl,BQ,_⟩:=Paired.at pl hx
   rw[getD_eq_getElem?_getD,zT]at h
   exact⟨_,rfl,x',ys.zh,dx,_,_,rfl,BQ,Y.ct,Y.t3,rfl,h⟩
  have e1:(List.range zw.length).map (fun i=>V.int (st.U.getD i ⟨0,0,0,0,0,[]⟩).len)=(st.U.map (·.len)).map V.int:=by
   rw[BA,map_map]
   exact j4 st.U _ fun s=>V.int s.len
  rw[e1]
  have s1:=(zf.refl H).new (o := .lst ((st.U.map (·.len)).map V.int)) hD
  have gD:(upd H D (.lst ((st.U.map (·.len)).map V.int))) D=some (.lst ((st.U.map (·.len)).map V.int)):=ac
  generalize upd H D (.lst ((st.U.map (·.len)).map V.int))=H1 at s1 gD ⊢
  refine⟨D,_,rfl,zj.of gD,?_⟩
  have Bg:=hY.same s1
  obtain⟨Dp,DW,ph⟩:=Bg.BE
  have hhl:=Paired.length ph
  refine⟨_,rfl,y,ys.zi,dy,_,_,rfl,Bg.ins,Y.cl,Y.n5,rfl,li,rfl,⟨_,zj.of DW⟩,?_⟩
  refine kK (fun i => .int ((st.lies.getD i []).length:Nat)) (by rw[sizeLine_eq];omega) (zj.of DW) (fun i x N hx h=>?_) (fun D2 AF=>?_)
  ·obtain⟨qs,AV,t,vs,rfl,ht,hL⟩:=Paired.at ph hx
   rw[getD_eq_getElem?_getD,AV]at h
   have Ea:vs.length=qs.length:=Paired.length hL
   refine⟨_,rfl,t,vs,rfl, .inr (zt.of ht),?_⟩
   rw[Ea]
   exact h
  have e2:(List.range Dp.length).map (fun i=>V.int ((st.lies.getD i []).length:Nat))=(st.lies.map fun q=>(q.length:Int)).map V.int:=by
   rw[hhl,map_map]
   exact j4 st.lies _ fun q=>V.int (q.length:Nat)
  rw[e2]
  refine⟨D2,_,rfl,zj.of ac,rfl,?_⟩
  rw[bY]
  exact q _ (s1.new AF)
noncomputable def cnt (m:Nat)(qs:List (Int × Int)):List Int:=(qs.filter fun q=>decide (q.1=(m:Int))).map (·.2)
noncomputable def ix (x y:Nat):List Int:=(List.range' x (y - x)).map fun z:Nat=>(z:Int)
theorem dE (m:Nat)(xs ys:List (Int × Int)):cnt m (xs ++ ys)=cnt m xs ++ cnt m ys:=by
 unfold cnt;rw[filter_append,map_append]
theorem eP (m m':Nat)(c:Int):cnt m [((m':Int),c)]=if m' = m then [c] else []:=by
 unfold cnt
 by_cases h:m' = m
 ·subst h;simp
 ·rw[if_neg h,filter_cons_of_neg (by simp;omega)];rfl
theorem qq {m:Nat}{qs:List (Int × Int)}(h:∀ q ∈ qs,q.1 ≠ (m:Int)):cnt m qs=[]:=by
 unfold cnt
 rw[filter_eq_nil_iff.mpr (fun q hq=>by simpa using h q hq)];rfl
theorem lZ {x y:Nat}(h:x < y):ix x y=(x:Int) :: ix (x + 1) y:=by
 unfold ix
 rw[show y - x=(y - (x + 1)) + 1 by omega,List.range'_succ];rfl
theorem gY {x y:Nat}(h:y <= x):ix x y=[]:=by
 unfold ix
 rw[show y - x=0 by omega];rfl
theorem j1 {x y:Nat}(h:x <= y):ix x (y + 1)=ix x y ++ [(y:Int)]:=by
 unfold ix
 rw[show y + 1 - x=(y - x) + 1 by omega,List.range'_1_concat,map_append]
 show _ ++ [((x + (y - x):Nat):Int)]=_
 rw[show x + (y - x)=y by omega]
theorem pJ (x y:Nat):(ix x y).length=y - x:=by unfold ix;rw[length_map,List.length_range']
theorem rl {m:Nat}{qs:List (Int × Int)}{c:Int}{x y:Nat}(h:qs.head? = some ((m:Int),c))(e:cnt m qs=ix x y):x < y/\c=(x:Int)/\cnt m qs.tail=ix (x + 1) y/\∀ m',m' ≠ m->cnt m' qs.tail=cnt m' qs:=by
 cases qs with
 | nil=>cases h
 | cons q qs =>
  cases h
  rw[show((m:Int),c) :: qs=[((m:Int),c)] ++ qs from rfl,dE,eP,if_pos rfl]at e
  have FX:x < y:=by
   rcases lt_or_ge x y with h | h
   ·exact h
   ·rw[gY h]at e;cases e
  rw[lZ FX]at e
  have e1:c :: cnt m qs=(x:Int) :: ix (x + 1) y:=e
  refine⟨FX,(List.cons.inj e1).1,(List.cons.inj e1).2,fun m' hm=>?_⟩
  rw[show((m:Int),c) :: qs=[((m:Int),c)] ++ qs from rfl,dE,eP,if_neg (Ne.symm hm)];rfl
theorem uy {m:Nat}{qs:List (Int × Int)}{q:Int × Int}{x y:Nat}(h:qs.getLast? = some q)(hq:q.1=(m:Int))(e:cnt m qs=ix x y):q.2 + 1=(y:Int)/\x < y:=by
 obtain⟨ys,rfl⟩:=List.getLast?_eq_some_iff.mp h
 obtain⟨q1,q2⟩:=q
 have hq:q1=(m:Int):=hq
 subst hq
 rw[dE,eP,if_pos rfl]at e
 rcases lt_or_ge x y with FX | FX
 ·obtain⟨z,rfl⟩:∃ z,y=z + 1:=⟨y - 1,by omega⟩
  rw[j1 (by omega)]at e
  have:=List.append_inj_right' e rfl
  have:q2=(z:Int):=(List.cons.inj this).1
  exact⟨by show q2 + 1=_;omega,FX⟩
 ·rw[gY FX]at e
  exact absurd e (by simp)
noncomputable def L8 (s:YS)(p q:Int × Int):Prop:=(q.1=p.1/\q.2=p.2 + 1)∨(q.2=0/\∃ (m:Nat)(t:aU),p.1=(m:Int)/\s.U[m]? = some t/\p.2=t.len - 1)
structure Az (a:YA)(s:YS)(N D:Nat->Nat->Nat):Prop where
 g0:∀ (m:Nat)(t:aU),s.U[m]? = some t->((N m 0 + D m 0:Nat):Int)=t.gone
 gl:∀ (m:Nat)(t:aU),s.U[m]? = some t->t.gone <= t.len
 D6:∀ (m:Nat)(t:aU),s.U[m]? = some t->∀ i,t.way.length < i->N m i + D m i=0
 top:∀ (m:Nat)(t:aU),s.U[m]? = some t->t.way=[]->N m 0=0
 dn:∀ (m:Nat)(t:aU),s.U[m]? = some t->∀ i,i < t.way.length->N m (i + 1) + D m (i + 1) <= N m i/\0 < N m i/\(N m i:Int) <= t.len
 q:∀ (m:Nat)(t:aU),s.U[m]? = some t->∀ (i k:Nat)(ln:bC),t.way[i]? = some k->s.lanes[k]? = some ln->cnt m ln.qs=ix (N m (i + 1) + D m (i + 1)) (N m i)
 own:∀ (k:Nat)(ln:bC),s.lanes[k]? = some ln->∀ p ∈ ln.qs,∃ (m:Nat)(t:aU),p.1=(m:Int)/\s.U[m]? = some t/\k ∈ t.way
 nd:∀ (m:Nat)(t:aU),s.U[m]? = some t->t.way.Nodup
 AK:∀ (m:Nat)(t:aU),s.U[m]? = some t->∀ (p:Nat)(qs:List (Int × Int)),s.lies[p]? = some qs->cnt m qs=if (p:Int)=t.goal then ix 0 (N m t.way.length) else []
 BX:∀ (p:Nat)(qs:List (Int × Int)),s.lies[p]? = some qs->∀ q ∈ qs,∃ (m:Nat)(t:aU),q.1=(m:Int)/\s.U[m]? = some t
 hold:∀ (k:Nat)(ln:bC),s.lanes[k]? = some ln->∀ (m:Nat)(t:aU),s.U[m]? = some t->(ln.h=some (m:Int)↔∃ i,t.way[i]? = some k/\(N m i:Int) < t.len)
 BH:∀ (k:Nat)(ln:bC),s.lanes[k]? = some ln->∀ z,ln.h=some z->∃ (m:Nat)(t:aU),z=(m:Int)/\s.U[m]? = some t
 room:∀ (k:Nat)(ln:bC),s.lanes[k]? = some ln->s.rooms[k]? = some (.int (ln.r + ln.b + ln.qs.length))/\0 <= ln.r/\0 <= ln.b
 Es:∀ (k:Nat)(ln:bC),s.lanes[k]? = some ln->∀ (i:Nat)(p q:Int × Int),ln.qs[i]? = some p->ln.qs[i + 1]? = some q->L8 s p q
 lst:∀ (k:Nat)(ln:bC),s.lanes[k]? = some ln->∀ q,ln.qs.getLast? = some q->ln.h=some q.1∨(ln.h=none/\∃ (m:Nat)(t:aU),q.1=(m:Int)/\s.U[m]? = some t/\q.2=t.len - 1)
noncomputable def zr:Nat->Nat->Nat:=fun _ _=>0
noncomputable def cU (m0 i0:Nat):Nat->Nat->Nat:=fun m i=>if m=m0/\i=i0 then 1 else 0
theorem fE (m i:Nat):cU m i m i=1:=if_pos ⟨rfl,rfl⟩
theorem eU {m0 i0 m i:Nat}(h:m ≠ m0):cU m0 i0 m i=0:=if_neg fun z=>h z.1
theorem c8 {m0 i0 m i:Nat}(h:i ≠ i0):cU m0 i0 m i=0:=if_neg fun z=>h z.2
theorem dz {l:List Nat}(h:l.Nodup){i j x:Nat}(hi:l[i]? = some x)(hj:l[j]? = some x):i=j:=by
 obtain⟨h1,e1⟩:=List.getElem?_eq_some_iff.mp hi
 obtain⟨h2,e2⟩:=List.getElem?_eq_some_iff.mp hj
 exact(List.getElem_inj h).mp (e1.trans e2.symm)
theorem uC {s:YS}{qs:List (Int × Int)}(h:∀ (i:Nat) (p q:Int × Int),qs[i]? = some p->qs[i + 1]? = some q->L8 s p q):∀ (i:Nat)(p q:Int × Int),qs.tail[i]? = some p->qs.tail[i + 1]? = some q->L8 s p q:=fun i p q hp hq=>by
 rw[List.getElem?_tail]at hp hq
 exact h (i + 1) p q hp hq
theorem qY {α:Type}{qs:List α}{q:α}(h:qs.tail.getLast? = some q):qs.getLast? = some q:=by
 cases qs with
 | nil=>cases h
 | cons x qs =>
  cases qs with
  | nil=>cases h
  | cons y qs=>rw[List.getLast?_cons_cons];exact h
theorem Az.pull {a:YA}{s:YS}{N:Nat->Nat->Nat}(G:Az a s N zr){k m:Nat}{c:Int}{lk:bC}{t:aU}(hk:s.lanes[k]? = some lk)(hq:lk.qs.head? = some ((m:Int),c))(ht:s.U[m]? = some t) :
  ∃ i,t.way[i]? = some k/\c=(N m (i + 1):Int)/\N m (i + 1) < N m i/\Az a { s with lanes:=s.lanes.set k (bX lk) } N (cU m (i + 1)):=by
 have HA:((m:Int),c) ∈ lk.qs:=List.mem_of_mem_head? hq
 obtain⟨m',t',e,L9,Ep⟩:=G.own k lk hk _ HA
 have e:(m:Int)=(m':Int):=e
 have e:m' = m:=by omega
 subst e
 rw[ht]at L9;cases L9
 obtain⟨i,hi⟩:=List.getElem?_of_mem Ep
 have CD:=(gQ0 hi)
 obtain⟨f1,f2,f3,f4⟩:=rl hq (G.q m' t ht i k lk hi hk)
 have f1:N m' (i + 1) < N m' i:=f1
 have f3:cnt m' lk.qs.tail=ix (N m' (i + 1) + 1) (N m' i):=f3
 refine⟨i,hi,f2,f1,?_⟩
 have tl:lk.qs=((m':Int),c) :: lk.qs.tail:=by
  cases hx:lk.qs with
  | nil=>rw[hx]at hq;cases hq
  | cons x xs=>rw[hx]at hq;cases hq;rfl
 refine⟨fun m t h=>?_,G.gl,fun m t h j hj=>?_,G.top,fun m t h j hj=>?_,fun m t h j kk ln hj hl=>?_,fun kk ln hl p hp=>?_,G.nd,G.AK,G.BX,fun kk ln hl=>?_,fun kk ln hl=>?_,fun kk ln hl=>?_,fun kk ln hl=>?_,fun kk ln hl=>?_⟩
 ·have:=G.g0 m t h
  rw[c8 (by omega)];exact this
 ·have h1:=G.D6 m t h j hj
  by_cases e:m=m'
  ·subst e
   rw[ht]at h;cases h
   rw[c8 (by omega)];exact h1
  ·rw[eU e];exact h1
 ·obtain⟨h1,h2,h3⟩:=G.dn m t h j hj
  refine⟨?_,h2,h3⟩
  have h1:N m (j + 1) <= N m j:=h1
  by_cases e:m=m'/\j + 1=i + 1
  ·obtain⟨rfl,e⟩:=e
   have:j=i:=by omega
   subst this
   rw[fE];omega
  ·show N m (j + 1) + cU m' (i + 1) m (j + 1) <= _
   unfold cU;rw[if_neg e];omega
 ·rcases bF hl with ⟨rfl,rfl⟩ | ⟨zV,hl⟩
  ·show cnt m lk.qs.tail=_
   by_cases e:m=m'
   ·subst e
    rw[ht]at h;cases h
    have:j=i:=dz (G.nd _ _ ht) hj hi
    subst this
    rw[fE];exact f3
   ·rw[eU e,f4 m e];exact G.q m t h j kk lk hj hk
  ·by_cases e:m=m'/\j + 1=i + 1
   ·obtain⟨rfl,e⟩:=e
    have:j=i:=by omega
    subst this
    rw[ht]at h;cases h
    rw[hi]at hj;cases hj
    exact absurd rfl zV
   ·unfold cU;rw[if_neg e];exact G.q m t h j kk ln hj hl
 ·rcases bF hl with ⟨rfl,rfl⟩ | ⟨_,hl⟩
  ·exact G.own kk lk hk p (by rw[tl];exact mem_cons_of_mem _ hp)
  ·exact G.own kk ln hl p hp
 ·rcases bF hl with ⟨rfl,rfl⟩ | ⟨_,hl⟩
  ·exact G.hold kk lk hk
  ·exact G.hold kk ln hl
 ·rcases bF hl with ⟨rfl,rfl⟩ | ⟨_,hl⟩
  ·exact G.BH kk lk hk
  ·exact G.BH kk ln hl
 ·rcases bF hl with ⟨rfl,rfl⟩ | ⟨_,hl⟩
  ·obtain⟨r1,r2,r3⟩:=G.room kk lk hk
   refine⟨?_,r2,?_⟩
   ·show s.rooms[kk]? = some (.int (lk.r + (lk.b + 1) + lk.qs.tail.length))
    rw[r1]
    have:lk.qs.length=lk.qs.tail.length + 1:=by rw[tl];rfl
    rw[this]
    congr 2;omega
   ·show 0 <= lk.b + 1;omega
  ·exact G.room kk ln hl
 ·rcases bF hl with ⟨rfl,rfl⟩ | ⟨_,hl⟩
  ·exact uC (s:={ s with lanes:=s.lanes.set kk (bX lk) }) (G.Es kk lk hk)
  ·exact G.Es kk ln hl
 ·rcases bF hl with ⟨rfl,rfl⟩ | ⟨_,hl⟩
  ·exact fun q hq=>G.lst kk lk hk q (qY hq)
  ·exact G.lst kk ln hl
theorem Az.leave {a:YA}{s:YS}{N:Nat->Nat->Nat}(G:Az a s N zr){m:Nat}{t:aU}(ht:s.U[m]? = some t)(hg:t.gone ≠ t.len):Az a (cx s m t) N (cU m 0):=by
 have gl:=G.gl m t ht
 have key:∀ (m':Nat)(t':aU),(cx s m t).U[m']? = some t'->∃ t2,s.U[m']? = some t2/\t'.way=t2.way/\t'.len=t2.len/\t'.goal=t2.goal/\(m' ≠ m->t' = t2)/\(m' = m->t'.gone=t.gone + 1/\t2=t):=fun m' t' h=>by
  have h:(s.U.set m { t with gone:=t.gone + 1 })[m']? = some t':=h
  rcases bF h with ⟨rfl,rfl⟩ | ⟨zV,h⟩
  ·exact⟨t,ht,rfl,rfl,rfl,fun z=>absurd rfl z,fun _=>⟨rfl,rfl⟩⟩
  ·exact⟨t',h,rfl,rfl,rfl,fun _=>rfl,fun z=>absurd z zV⟩
 have back:∀ (m':Nat)(t2:aU),s.U[m']? = some t2->∃ t',(cx s m t).U[m']? = some t'/\t'.way=t2.way/\t'.len=t2.len:=fun m' t2 h=>by
  by_cases e:m' = m
  ·subst e
   rw[ht]at h;cases h
   exact⟨{ t with gone:=t.gone + 1 },cK ht,rfl,rfl⟩
  ·exact⟨t2,by show(s.U.set m _)[m']? = _;rw[getElem?_set_ne (Ne.symm e)];exact h,rfl,rfl⟩
 refine⟨fun m' t' h=>?_,fun m' t' h=>?_,fun m' t' h j hj=>?_,fun m' t' h hw=>?_,fun m' t' h j hj=>?_,fun m' t' h j kk ln hj hl=>?_,fun kk ln hl p hp=>?_,fun m' t' h=>?_,fun m' t' h p qs hp=>?_,fun p qs hp q hq=>?_,fun kk ln hl m' t' h=>?_,fun kk ln hl z hz=>?_,G.room,fun kk ln hl i p q hp hq=>?_,fun kk ln hl q hq=>?_⟩
 ·obtain⟨t2,h2,ew,el,eg,ne,eq⟩:=key m' t' h
  have h0:=G.g0 m' t2 h2
  by_cases e:m' = m
  ·obtain⟨e1,rfl⟩:=eq e
   subst e
   rw[fE,e1,← h0];show((N m' 0 + 1:Nat):Int)=((N m' 0 + 0:Nat):Int) + 1;omega
  ·rw[eU e,ne e];exact h0
 ·obtain⟨t2,h2,ew,el,eg,ne,eq⟩:=key m' t' h
  by_cases e:m' = m
  ·obtain⟨e1,rfl⟩:=eq e
   rw[e1,el];omega
  ·rw[ne e];exact G.gl m' t2 h2
 ·obtain⟨t2,h2,ew,el,eg,ne,eq⟩:=key m' t' h
  rw[c8 (by omega)];exact G.D6 m' t2 h2 j (by rw[← ew];exact hj)
 ·obtain⟨t2,h2,ew,el,eg,ne,eq⟩:=key m' t' h
  exact G.top m' t2 h2 (by rw[← ew];exact hw)
 ·obtain⟨t2,h2,ew,el,eg,ne,eq⟩:=key m' t' h
  rw[c8 (by omega),el];exact G.dn m' t2 h2 j (by rw[← ew];exact hj)
 ·obtain⟨t2,h2,ew,el,eg,ne,eq⟩:=key m' t' h
  rw[c8 (by omega)];exact G.q m' t2 h2 j kk ln (by rw[← ew];exact hj) hl
 ·obtain⟨m',t2,e,h2,hw⟩:=G.own kk ln hl p hp
  obtain⟨t',h',ew,_⟩:=back m' t2 h2
  exact⟨m',t',e,h',by rw[ew];exact hw⟩
 ·obtain⟨t2,h2,ew,_⟩:=key m' t' h
  rw[ew];exact G.nd m' t2 h2
 ·obtain⟨t2,h2,ew,el,eg,_⟩:=key m' t' h
  rw[ew,eg];exact G.AK m' t2 h2 p qs hp
 ·obtain⟨m',t2,e,h2⟩:=G.BX p qs hp q hq
  obtain⟨t',h',_⟩:=back m' t2 h2
  exact⟨m',t',e,h'⟩
 ·obtain⟨t2,h2,ew,el,eg,_⟩:=key m' t' h
  rw[ew,el];exact G.hold kk ln hl m' t2 h2
 ·obtain⟨m',t2,e,h2⟩:=G.BH kk ln hl z hz
  obtain⟨t',h',_⟩:=back m' t2 h2
  exact⟨m',t',e,h'⟩
 ·rcases G.Es kk ln hl i p q hp hq with z | ⟨z,m',t2,e,h2,e2⟩
  ·exact .inl z
  ·obtain⟨t',h',_,el⟩:=back m' t2 h2
   exact .inr ⟨z,m',t',e,h',by rw[el];exact e2⟩
 ·rcases G.lst kk ln hl q hq with z | ⟨z,m',t2,e,h2,e2⟩
  ·exact .inl z
  ·obtain⟨t',h',_,el⟩:=back m' t2 h2
   exact .inr ⟨z,m',t',e,h',by rw[el];exact e2⟩
theorem Az.enter {a:YA}{s:YS}{N:Nat->Nat->Nat}{m i l:Nat}{c:Int}{t:aU}{ln:bC}(G:Az a s N (cU m i))(ht:s.U[m]? = some t)(hc:c=(N m i:Int))(h0:c=0->i=t.way.length/\l ∉ t.way)(h1:c ≠ 0->t.way[i]? = some l)(hlen:c + 1 <= t.len)(zJ:s.lanes[l]? = some ln)(ho:bW ln.r ln.h m c=true) :
  Az a (cf s m c l t ln) (fun m' i'=>N m' i' + cU m i m' i') zr:=by
 obtain⟨Dk,Ae⟩:ln.r ≠ 0/\if c=0 then ln.h=none else ln.h=some (m:Int):=by
  unfold bW at ho
  by_cases hr:ln.r=0
  ·rw[if_pos hr]at ho;cases ho
  ·rw[if_neg hr]at ho
   by_cases h:c=0
   ·rw[if_pos h]at ho ⊢;exact⟨hr,of_decide_eq_true ho⟩
   ·rw[if_neg h]at ho ⊢;exact⟨hr,of_decide_eq_true ho⟩
 obtain⟨t1,Ee,w1,el,eg,VB,hw⟩:∃ t1:aU,(cf s m c l t ln).U[m]? = some t1/\t1.way=(if c=0 then t.way ++ [l] else t.way)/\t1.len=t.len/\t1.goal=t.goal/\t1.gone=t.gone/\t1.way[i]? = some l:=by
  by_cases h:c=0
  ·refine⟨{ t with way:=t.way ++ [l] },?_,by rw[if_pos h],rfl,rfl,rfl,?_⟩
   ·show(if c=0 then s.U.set m { t with way:=t.way ++ [l] } else s.U)[m]? = _
    rw[if_pos h];exact cK ht
   ·show(t.way ++ [l])[i]? = some l
    rw[(h0 h).1,getElem?_concat_length]
  ·refine⟨t,?_,by rw[if_neg h],rfl,rfl,rfl,h1 h⟩
   show(if c=0 then s.U.set m { t with way:=t.way ++ [l] } else s.U)[m]? = _
   rw[if_neg h];exact ht
 have key:∀ (m':Nat)(t':aU),(cf s m c l t ln).U[m']? = some t'->(m' = m/\t' = t1)∨(m' ≠ m/\s.U[m']? = some t'):=fun m' t' h=>by
  by_cases e:m' = m
  ·subst e
   rw[Ee]at h;cases h;exact .inl ⟨rfl,rfl⟩
  ·refine .inr ⟨e,?_⟩
   have h:(if c=0 then s.U.set m { t with way:=t.way ++ [l] } else s.U)[m']? = some t':=h
   by_cases hc0:c=0
   ·rw[if_pos hc0,getElem?_set_ne (Ne.symm e)]at h;exact h
   ·rw[if_neg hc0]at h;exact h
 have back:∀ (m':Nat)(t2:aU),s.U[m']? = some t2->∃ t',(cf s m c l t ln).U[m']? = some t'/\(∀ x ∈ t2.way,x ∈ t'.way)/\t'.len=t2.len:=fun m' t2 h=>by
  by_cases e:m' = m
  ·subst e
   rw[ht]at h;cases h
   refine⟨t1,Ee,fun x hx=>?_,el⟩
   rw[w1];split
   ·exact mem_append_left _ hx
   ·exact hx
  ·refine⟨t2,?_,fun x hx=>hx,rfl⟩
   show(if c=0 then s.U.set m { t with way:=t.way ++ [l] } else s.U)[m']? = _
   split
   ·rw[getElem?_set_ne (Ne.symm e)];exact h
   ·exact h
 have LA:∀ (j k:Nat),t1.way[j]? = some k->j ≠ i->t.way[j]? = some k:=fun j k hj zV=>by
  rw[w1]at hj
  by_cases h:c=0
  ·rw[if_pos h]at hj
   have zT:=(gQ0 hj)
   rw[length_append,length_singleton]at zT
   have:=(h0 h).1
   rwa [getElem?_append_left (by omega)]at hj
  ·rw[if_neg h]at hj;exact hj
 have HH:t1.way.length=if c=0 then i + 1 else t.way.length:=by
  rw[w1];split
  ·rename_i h
   rw[length_append,length_singleton,(h0 h).1]
  ·rfl
 have CD:c ≠ 0->i < t.way.length:=fun h=>(List.getElem?_eq_some_iff.mp (h1 h)).1
 have Ks:t1.way.Nodup:=by
  rw[w1];split
  ·rename_i h
   refine nodup_append.mpr ⟨G.nd m t ht,by simp,fun x hx y hy e=>?_⟩
   rw[mem_singleton]at hy
   subst hy;subst e
   exact(h0 h).2 hx
  ·exact G.nd m t ht
 have AI:∀ {kk:Nat}{zZ:bC},(cf s m c l t ln).lanes[kk]? = some zZ->(kk=l/\zZ = eL ln m c t.len)∨(kk ≠ l/\s.lanes[kk]? = some zZ):=fun h=>bF h
 have CU:∀ m',m' ≠ m->cnt m' (ln.qs ++ [((m:Int),c)])=cnt m' ln.qs:=fun m' hm=>by
  rw[dE,eP,if_neg (Ne.symm hm),append_nil]
 have NV:cnt m ln.qs=ix (N m (i + 1)) (N m i)/\N m (i + 1) <= N m i:=by
  by_cases h:c=0
  ·have e0:N m i=0:=by omega
   have f1:=G.D6 m t ht (i + 1) (by have:=(h0 h).1;omega)
   rw[c8 (by omega)]at f1
   have f1:N m (i + 1)=0:=by omega
   rw[e0,f1]
   refine⟨?_,Nat.le_refl _⟩
   rw[gY (Nat.le_refl _)]
   refine qq fun q hq e=>?_
   obtain⟨m',t',e',L9,FV⟩:=G.own l ln zJ q hq
   have:m' = m:=by rw[e]at e';omega
   subst this
   rw[ht]at L9;cases L9
   exact(h0 h).2 FV
  ·have:=G.q m t ht i l ln (h1 h) zJ
   rw[c8 (by omega)]at this
   have hd:=(G.dn m t ht i (CD h)).1
   rw[c8 (by omega)]at hd
   exact⟨this,hd⟩
 have z0:∀ m' j,(zr m' j)=0:=fun _ _=>rfl
 refine⟨fun m' t' h=>?_,fun m' t' h=>?_,fun m' t' h j hj=>?_,fun m' t' h FV=>?_,fun m' t' h j hj=>?_,fun m' t' h j kk zZ hj hl=>?_,fun kk zZ hl p hp=>?_,fun m' t' h=>?_,fun m' t' h p qs hp=>?_,fun p qs hp q hq=>?_,fun kk zZ hl m' t' h=>?_,fun kk zZ hl z hz=>?_,fun kk zZ hl=>?_,fun kk zZ hl j p q hp hq=>?_,fun kk zZ hl q hq=>?_⟩
 ·rcases key m' t' h with ⟨rfl,rfl⟩ | ⟨zV,h⟩
  ·rw[VB,← G.g0 _ t ht];rfl
  ·exact G.g0 m' t' h
 ·rcases key m' t' h with ⟨rfl,rfl⟩ | ⟨zV,h⟩
  ·rw[VB,el];exact G.gl _ t ht
  ·exact G.gl m' t' h
 ·rcases key m' t' h with ⟨rfl,rfl⟩ | ⟨zV,h⟩
  ·refine G.D6 _ t ht j ?_
   rw[HH]at hj
   by_cases hc0:c=0
   ·rw[if_pos hc0]at hj;have:=(h0 hc0).1;omega
   ·rw[if_neg hc0]at hj;exact hj
  ·exact G.D6 m' t' h j hj
 ·rcases key m' t' h with ⟨rfl,rfl⟩ | ⟨zV,h⟩
  ·rw[FV]at hw;cases hw
  ·show N m' 0 + cU m i m' 0=0
   rw[eU zV];exact G.top m' t' h FV
 ·rcases key m' t' h with ⟨rfl,rfl⟩ | ⟨zV,h⟩
  ·show N m' (j + 1) + cU m' i m' (j + 1) + 0 <= N m' j + cU m' i m' j/\0 < N m' j + cU m' i m' j/\((N m' j + cU m' i m' j:Nat):Int) <= t'.len
   rw[el]
   by_cases e:j=i
   ·subst e
    rw[fE,c8 (by omega)]
    have:=NV.2
    exact⟨by omega,by omega,by omega⟩
   ·have Rb:j < t.way.length:=by
     rw[HH]at hj
     by_cases hc0:c=0
     ·rw[if_pos hc0]at hj;have:=(h0 hc0).1;omega
     ·rw[if_neg hc0]at hj;exact hj
    obtain⟨d1,d2,d3⟩:=G.dn _ t ht j Rb
    have:cU m' i m' j=0:=c8 e
    rw[this]
    exact⟨by omega,by omega,by omega⟩
  ·show N m' (j + 1) + cU m i m' (j + 1) + 0 <= N m' j + cU m i m' j/\0 < N m' j + cU m i m' j/\((N m' j + cU m i m' j:Nat):Int) <= t'.len
   have:=G.dn m' t' h j hj
   rw[eU zV]at this ⊢
   rw[eU zV];exact this
 ·show cnt m' zZ.qs=ix (N m' (j + 1) + cU m i m' (j + 1) + 0) (N m' j + cU m i m' j)
  rcases key m' t' h with ⟨rfl,rfl⟩ | ⟨zV,h2⟩
  ·rcases AI hl with ⟨rfl,rfl⟩ | ⟨AZ,hl⟩
   ·have:j=i:=dz Ks hj hw
    subst this
    show cnt m' (ln.qs ++ [((m':Int),c)])=_
    rw[dE,eP,if_pos rfl,fE,c8 (by omega),NV.1,hc,add_zero,add_zero]
    exact(j1 NV.2).symm
   ·have LB:j ≠ i:=fun e=>by rw[e,hw]at hj;cases hj;exact AZ rfl
    rw[show cU m' i m' j=0 from c8 LB]
    exact G.q _ t ht j kk zZ (LA j kk hj LB) hl
  ·rcases AI hl with ⟨rfl,rfl⟩ | ⟨AZ,hl⟩
   ·show cnt m' (ln.qs ++ [((m:Int),c)])=_
    rw[CU m' zV,show cU m i m' j=0 from eU zV]
    exact G.q m' t' h2 j kk ln hj zJ
   ·rw[show cU m i m' j=0 from eU zV]
    exact G.q m' t' h2 j kk zZ hj hl
 ·rcases AI hl with ⟨rfl,rfl⟩ | ⟨AZ,hl⟩
  ·rcases mem_append.mp hp with hp | hp
   ·obtain⟨m',t2,e,h2,FO⟩:=G.own kk ln zJ p hp
    obtain⟨t',h',sub,_⟩:=back m' t2 h2
    exact⟨m',t',e,h',sub _ FO⟩
   ·rw[mem_singleton.mp hp]
    exact⟨m,t1,rfl,Ee,mem_of_getElem? hw⟩
  ·obtain⟨m',t2,e,h2,FO⟩:=G.own kk zZ hl p hp
   obtain⟨t',h',sub,_⟩:=back m' t2 h2
   exact⟨m',t',e,h',sub _ FO⟩
 ·rcases key m' t' h with ⟨rfl,rfl⟩ | ⟨zV,h⟩
  ·exact Ks
  ·exact G.nd m' t' h
 ·show cnt m' qs=if (p:Int)=t'.goal then ix 0 (N m' t'.way.length + cU m i m' t'.way.length) else []
  rcases key m' t' h with ⟨rfl,rfl⟩ | ⟨zV,h⟩
  ·have e:=G.AK _ t ht p qs hp
   rw[eg,e]
   by_cases BR:(p:Int)=t.goal
   ·rw[if_pos BR,if_pos BR,HH]
    by_cases hc0:c=0
    ·rw[if_pos hc0,c8 (by omega),← (h0 hc0).1]
     have f1:=G.D6 _ t ht (i + 1) (by have:=(h0 hc0).1;omega)
     have e1:N m' (i + 1)=0:=by omega
     have e2:N m' i=0:=by omega
     rw[e1,e2]
    ·rw[if_neg hc0,c8 (by have:=CD hc0;omega)];rfl
   ·rw[if_neg BR,if_neg BR]
  ·rw[eU zV];exact G.AK m' t' h p qs hp
 ·obtain⟨m',t2,e,h2⟩:=G.BX p qs hp q hq
  obtain⟨t',h',_⟩:=back m' t2 h2
  exact⟨m',t',e,h'⟩
 ·show zZ.h=some (m':Int)↔∃ j,t'.way[j]? = some kk/\((N m' j + cU m i m' j:Nat):Int) < t'.len
  rcases key m' t' h with ⟨rfl,rfl⟩ | ⟨zV,h2⟩
  ·rcases AI hl with ⟨rfl,rfl⟩ | ⟨AZ,hl⟩
   ·show(if decide (c=t.len - 1)=true then none else some (m':Int))=_↔_
    rw[el]
    constructor
    ·intro z
     refine⟨i,hw,?_⟩
     rw[fE]
     by_cases e:c=t.len - 1
     ·rw[if_pos (decide_eq_true e)]at z;cases z
     ·omega
    ·rintro⟨j,hj,D7⟩
     have:j=i:=dz Ks hj hw
     subst this
     rw[fE]at D7
     rw[if_neg (by rw[decide_eq_true_eq];omega)]
   ·have e:=G.hold kk zZ hl _ t ht
    rw[e,el]
    constructor
    ·rintro⟨j,hj,D7⟩
     refine⟨j,?_,?_⟩
     ·rw[w1];split
      ·rw[getElem?_append_left (gQ0 hj)];exact hj
      ·exact hj
     ·rw[show cU m' i m' j=0 from c8 fun e=>by
       subst e
       by_cases hc0:c=0
       ·have:=(gQ0 hj);have:=(h0 hc0).1;omega
       ·rw[h1 hc0]at hj;cases hj;exact AZ rfl]
      exact D7
    ·rintro⟨j,hj,D7⟩
     have LB:j ≠ i:=fun e=>by rw[e,hw]at hj;cases hj;exact AZ rfl
     rw[show cU m' i m' j=0 from c8 LB]at D7
     exact⟨j,LA j kk hj LB,D7⟩
  ·have eN:∀ j,N m' j + cU m i m' j=N m' j:=fun j=>by rw[eU zV];rfl
   simp only[eN]
   rcases AI hl with ⟨rfl,rfl⟩ | ⟨AZ,hl⟩
   ·show(if decide (c=t.len - 1)=true then none else some (m:Int))=_↔_
    rw[← G.hold kk ln zJ m' t' h2]
    have a1:ln.h ≠ some (m':Int):=fun z=>by
     rw[z]at Ae
     by_cases hc0:c=0
     ·rw[if_pos hc0]at Ae;cases Ae
     ·rw[if_neg hc0]at Ae
      have:=Option.some.inj Ae
      omega
    refine⟨fun z=>?_,fun z=>absurd z a1⟩
    split at z
    ·cases z
    ·have:=Option.some.inj z
     exact absurd (show m' = m by omega) zV
   ·exact G.hold kk zZ hl m' t' h2
 ·rcases AI hl with ⟨rfl,rfl⟩ | ⟨AZ,hl⟩
  ·have z:(if decide (c=t.len - 1)=true then none else some (m:Int))=some z:=hz
   split at z
   ·cases z
   ·exact⟨m,t1,(Option.some.inj z).symm,Ee⟩
  ·obtain⟨m',t2,e,h2⟩:=G.BH kk zZ hl z hz
   obtain⟨t',h',_⟩:=back m' t2 h2
   exact⟨m',t',e,h'⟩
 ·rcases AI hl with ⟨rfl,rfl⟩ | ⟨AZ,hl⟩
  ·obtain⟨r1,r2,r3⟩:=G.room kk ln zJ
   refine⟨?_,by show 0 <= ln.r - 1;omega,r3⟩
   show s.rooms[kk]? = some (.int (ln.r - 1 + ln.b + ((ln.qs ++ [((m:Int),c)]).length:Nat)))
   rw[r1,length_append,length_singleton]
   congr 2;omega
  ·exact G.room kk zZ hl
 ·have up:L8 s p q->L8 (cf s m c l t ln) p q:=fun z=>by
   rcases z with z | ⟨z,m',t2,e,h2,e2⟩
   ·exact .inl z
   ·obtain⟨t',h',_,Rc⟩:=back m' t2 h2
    exact .inr ⟨z,m',t',e,h',by rw[Rc];exact e2⟩
  rcases AI hl with ⟨rfl,rfl⟩ | ⟨AZ,hl⟩
  ·have hp:(ln.qs ++ [((m:Int),c)])[j]? = some p:=hp
   have hq:(ln.qs ++ [((m:Int),c)])[j + 1]? = some q:=hq
   by_cases hj:j + 1 < ln.qs.length
   ·rw[getElem?_append_left (by omega)]at hp
    rw[getElem?_append_left hj]at hq
    exact up (G.Es kk ln zJ j p q hp hq)
   ·have zT:=(gQ0 hq)
    rw[length_append,length_singleton]at zT
    have ej:j + 1=ln.qs.length:=by omega
    rw[ej,getElem?_concat_length]at hq
    cases hq
    rw[getElem?_append_left (by omega)]at hp
    have CS:ln.qs.getLast? = some p:=by rw[List.getLast?_eq_getElem?,← ej];exact hp
    rcases G.lst kk ln zJ p CS with z | ⟨z,m',t2,e,h2,e2⟩
    ·by_cases hc0:c=0
     ·rw[if_pos hc0,z]at Ae;cases Ae
     ·rw[if_neg hc0,z]at Ae
      have e1:p.1=(m:Int):=Option.some.inj Ae
      obtain⟨e2,_⟩:=uy CS e1 NV.1
      exact .inl ⟨e1.symm,by show c=p.2 + 1;omega⟩
    ·by_cases hc0:c=0
     ·exact up (.inr ⟨hc0,m',t2,e,h2,e2⟩)
     ·rw[if_neg hc0,z]at Ae;cases Ae
  ·exact up (G.Es kk zZ hl j p q hp hq)
 ·rcases AI hl with ⟨rfl,rfl⟩ | ⟨AZ,hl⟩
  ·have hq:(ln.qs ++ [((m:Int),c)]).getLast? = some q:=hq
   rw[List.getLast?_concat]at hq
   cases hq
   show(if decide (c=t.len - 1)=true then none else some (m:Int))=_∨_
   by_cases e:c=t.len - 1
   ·exact .inr ⟨by show(if decide (c=t.len - 1)=true then none else some (m:Int))=none;rw[if_pos (decide_eq_true e)],m,t1,rfl,Ee,by rw[el];exact e⟩
   ·exact .inl (by rw[if_neg (by rw[decide_eq_true_eq];exact e)])
  ·rcases G.lst kk zZ hl q hq with z | ⟨z,m',t2,e,h2,e2⟩
   ·exact .inl z
   ·obtain⟨t',h',_,Rc⟩:=back m' t2 h2
    exact .inr ⟨z,m',t',e,h',by rw[Rc];exact e2⟩
theorem Az.lay {a:YA}{s:YS}{N:Nat->Nat->Nat}{m e:Nat}{c:Int}{t:aU}{qs:List (Int × Int)}(G:Az a s N (cU m t.way.length))(ht:s.U[m]? = some t)(hc:c=(N m t.way.length:Int))(hg:t.goal=(e:Int))(AV:s.lies[e]? = some qs)(hw:t.way ≠ []) :
  Az a { s with lies:=s.lies.set e (qs ++ [((m:Int),c)]) } (fun m' i'=>N m' i' + cU m t.way.length m' i') zr:=by
 have HI:0 < t.way.length:=List.length_pos_iff.mpr hw
 have eN:∀ m' j,(m' = m->j ≠ t.way.length)->N m' j + cU m t.way.length m' j=N m' j:=fun m' j h=>by
  by_cases e:m' = m
  ·rw[c8 (h e)];rfl
  ·rw[eU e];rfl
 refine⟨fun m' t' h=>?_,G.gl,fun m' t' h j hj=>?_,fun m' t' h FV=>?_,fun m' t' h j hj=>?_,fun m' t' h j kk ln hj hl=>?_,G.own,G.nd,fun m' t' h p LC hp=>?_,fun p LC hp q hq=>?_,fun kk ln hl m' t' h=>?_,G.BH,G.room,G.Es,G.lst⟩
 ·rw[← G.g0 m' t' h];rfl
 ·exact G.D6 m' t' h j hj
 ·show N m' 0 + cU m t.way.length m' 0=0
  rw[eN m' 0 (fun _=>by omega)];exact G.top m' t' h FV
 ·show N m' (j + 1) + cU m t.way.length m' (j + 1) + 0 <= N m' j + cU m t.way.length m' j/\0 < N m' j + cU m t.way.length m' j/\((N m' j + cU m t.way.length m' j:Nat):Int) <= t'.len
  rw[eN m' j (fun e=>by subst e;rw[ht]at h;cases h;omega)]
  exact G.dn m' t' h j hj
 ·show cnt m' ln.qs=ix (N m' (j + 1) + cU m t.way.length m' (j + 1) + 0) (N m' j + cU m t.way.length m' j)
  have D7:=(gQ0 hj)
  rw[eN m' j (fun e=>by subst e;rw[ht]at h;cases h;omega)]
  exact G.q m' t' h j kk ln hj hl
 ·show cnt m' LC = if (p:Int)=t'.goal then ix 0 (N m' t'.way.length + cU m t.way.length m' t'.way.length) else []
  have h:s.U[m']? = some t':=h
  rcases bF hp with ⟨rfl,rfl⟩ | ⟨zV,Hx⟩
  ·rw[dE,eP]
   have e1:=G.AK m' t' h p qs AV
   by_cases em:m' = m
   ·subst em
    rw[ht]at h;cases h
    rw[if_pos hg.symm]at e1
    rw[if_pos rfl,if_pos hg.symm,e1,fE,hc]
    exact(j1 (zero_le _)).symm
   ·rw[if_neg (Ne.symm em),append_nil,eN m' _ (fun z=>absurd z em)];exact e1
  ·by_cases em:m' = m
   ·subst em
    rw[ht]at h;cases h
    have e1:=G.AK m' t ht p LC Hx
    rw[if_neg (by rw[hg];omega)]at e1 ⊢
    exact e1
   ·rw[eN m' _ (fun z=>absurd z em)];exact G.AK m' t' h p LC Hx
 ·rcases bF hp with ⟨rfl,rfl⟩ | ⟨zV,hp⟩
  ·rcases mem_append.mp hq with hq | hq
   ·exact G.BX p qs AV q hq
   ·rw[mem_singleton.mp hq];exact⟨m,t,rfl,ht⟩
  ·exact G.BX p LC hp q hq
 ·show ln.h=some (m':Int)↔∃ j,t'.way[j]? = some kk/\((N m' j + cU m t.way.length m' j:Nat):Int) < t'.len
  have h:s.U[m']? = some t':=h
  rw[G.hold kk ln hl m' t' h]
  constructor
  ·rintro⟨j,hj,D7⟩
   have hjw:=(gQ0 hj)
   exact⟨j,hj,by rw[eN m' j (fun e=>by subst e;rw[ht]at h;cases h;omega)];exact D7⟩
  ·rintro⟨j,hj,D7⟩
   have hjw:=(gQ0 hj)
   rw[eN m' j (fun e=>by subst e;rw[ht]at h;cases h;omega)]at D7
   exact⟨j,hj,D7⟩
theorem Az.back {a:YA}{s:YS}{N D:Nat->Nat->Nat}(G:Az a s N D){k:Nat}{lk:bC}(hk:s.lanes[k]? = some lk)(hb:0 < lk.b):Az a { s with lanes:=s.lanes.set k (mH lk) } N D:=by
 have kl:∀ {kk:Nat}{ln:bC},(s.lanes.set k (mH lk))[kk]? = some ln->∃ l0,s.lanes[kk]? = some l0/\ln.qs=l0.qs/\ln.h=l0.h/\ln.r + ln.b=l0.r + l0.b/\l0.r <= ln.r/\(0 <= l0.b->0 <= ln.b):=fun h=>by
  rcases bF h with ⟨rfl,rfl⟩ | ⟨_,h⟩
  ·exact⟨lk,hk,rfl,rfl,by show lk.r + 1 + (lk.b - 1)=_;omega,by show lk.r <= lk.r + 1;omega,fun _=>by show 0 <= lk.b - 1;omega⟩
  ·exact⟨_,h,rfl,rfl,rfl,Int.le_refl _,id⟩
 refine⟨G.g0,G.gl,G.D6,G.top,G.dn,fun m' t' h j kk ln hj hl=>?_,fun kk ln hl p hp=>?_,G.nd,G.AK,G.BX,fun kk ln hl m' t' h=>?_,fun kk ln hl z hz=>?_,fun kk ln hl=>?_,fun kk ln hl j p q hp hq=>?_,fun kk ln hl q hq=>?_⟩
 ·obtain⟨l0,h0,e1,e2,e3,e4,e5⟩:=kl hl
  rw[e1];exact G.q m' t' h j kk l0 hj h0
 ·obtain⟨l0,h0,e1,e2,e3,e4,e5⟩:=kl hl
  rw[e1]at hp;exact G.own kk l0 h0 p hp
 ·obtain⟨l0,h0,e1,e2,e3,e4,e5⟩:=kl hl
  rw[e2];exact G.hold kk l0 h0 m' t' h
 ·obtain⟨l0,h0,e1,e2,e3,e4,e5⟩:=kl hl
  rw[e2]at hz;exact G.BH kk l0 h0 z hz
 ·obtain⟨l0,h0,e1,e2,e3,e4,e5⟩:=kl hl
  obtain⟨r1,r2,r3⟩:=G.room kk l0 h0
  exact⟨by rw[e1,e3];exact r1,by omega,e5 r3⟩
 ·obtain⟨l0,h0,e1,e2,e3,e4,e5⟩:=kl hl
  rw[e1]at hp hq;exact G.Es kk l0 h0 j p q hp hq
 ·obtain⟨l0,h0,e1,e2,e3,e4,e5⟩:=kl hl
  rw[e1]at hq;rw[e2];exact G.lst kk l0 h0 q hq
theorem pc {a:YA}{s:YS}{k m:Nat}{c:Int}{lk:bC}{t:aU}{l:Nat}(hk:s.lanes[k]? = some lk)(hq:lk.qs.head? = some ((m:Int),c))(ht:s.U[m]? = some t)(hl:l ∈ bj a s k):if c=0 then l ∉ t.way else l ∈ (t.way.drop (t.way.idxOf k + 1)).take 1:=by
 have ef:aL s k=some ((m:Int),c):=by unfold aL;rw[hk];exact hq
 unfold bj at hl
 rw[ef]at hl
 have hl:l ∈ (match s.U[(m:Int).toNat]? with | none=>[] | some t=>if c=0 then (n0 a k t.goal.toNat).filter fun l=>!decide (l ∈ t.way) else (t.way.drop (t.way.idxOf k + 1)).take 1):=hl
 rw[toNat_natCast,ht]at hl
 have hl:l ∈ (if c=0 then (n0 a k t.goal.toNat).filter fun l=>!decide (l ∈ t.way) else (t.way.drop (t.way.idxOf k + 1)).take 1):=hl
 by_cases h:c=0
 ·rw[if_pos h]at hl ⊢
  have:=(mem_filter.mp hl).2
  simpa using this
 ·rw[if_neg h]at hl ⊢;exact hl
theorem fS {l:List Nat}{j x:Nat}(h:x ∈ (l.drop j).take 1):l[j]? = some x:=by
 cases hd:l.drop j with
 | nil=>rw[hd]at h;cases h
 | cons y ys =>
  rw[hd]at h
  have h:x ∈ [y]:=h
  rw[mem_singleton]at h
  subst h
  have:=List.getElem?_drop (xs:=l) (i:=j) (j:=0)
  rw[hd]at this
  exact this.symm
theorem l9 {l:List Nat}(h:l.Nodup){i x:Nat}(hi:l[i]? = some x):l.idxOf x=i:=by
 obtain⟨h1,e1⟩:=List.getElem?_eq_some_iff.mp hi
 have hx:x ∈ l:=mem_of_getElem? hi
 have h2:l.idxOf x < l.length:=List.idxOf_lt_length_of_mem hx
 have h3:l[l.idxOf x]? = some x:=by rw[getElem?_eq_getElem h2,List.getElem_idxOf h2]
 exact dz h h3 hi
theorem Az.dn' {a:YA}{s:YS}{N D:Nat->Nat->Nat}(G:Az a s N D)(d:List (List V)):Az a { s with done:=d } N D:=⟨G.g0,G.gl,G.D6,G.top,G.dn,G.q,G.own,G.nd,G.AK,G.BX,G.hold,G.BH,G.room,G.Es,G.lst⟩
theorem Az.LD {a:YA}{s:YS}{N:Nat->Nat->Nat}(G:Az a s N zr){x y l u:Int}(hl:0 <= l):∃ N':Nat->Nat->Nat,(∀ m i,m ≠ s.U.length->N' m i=N m i)/\Az a (dP s x y l u) N' zr:=by
 have el:∀ (m:Nat)(t:aU),(dP s x y l u).U[m]? = some t->(m ≠ s.U.length/\s.U[m]? = some t)∨(m=s.U.length/\t = ⟨x,y,l,u,0,[]⟩):=fun m t ht=>by
  have ht:(s.U ++ [(⟨x,y,l,u,0,[]⟩:aU)])[m]? = some t:=ht
  by_cases hm:m < s.U.length
  ·rw[getElem?_append_left hm]at ht;exact .inl ⟨by omega,ht⟩
  ·have h3:=(gQ0 ht)
   rw[length_append,length_singleton]at h3
   have em:m=s.U.length:=by omega
   subst em
   rw[getElem?_concat_length]at ht
   cases ht
   exact .inr ⟨rfl,rfl⟩
 have eo:∀ {m:Nat}{t:aU},s.U[m]? = some t->(dP s x y l u).U[m]? = some t:=fun ht=>by
  show(s.U ++ [(⟨x,y,l,u,0,[]⟩:aU)])[_]? = some _
  rw[getElem?_append_left (gQ0 ht)];exact ht
 have nw:∀ {m:Nat}{t:aU},s.U[m]? = some t->m ≠ s.U.length:=fun ht z=>by
  rw[z,List.getElem?_eq_none (Nat.le_refl _)]at ht;cases ht
 refine⟨fun m i=>if m=s.U.length then 0 else N m i,(fun m i h=>if_neg h),fun m t h=>?_,fun m t h=>?_,fun m t h j hj=>?_,fun m t h hw=>?_,fun m t h j hj=>?_,fun m t h j kk ln hj hl=>?_,fun kk ln hl p hp=>?_,fun m t h=>?_,fun m t h p qs hp=>?_,fun p qs hp q hq=>?_,fun kk ln hl m t h=>?_,fun kk ln hl z hz=>?_,G.room,fun kk ln hl j p q hp hq=>?_,fun kk ln hl q hq=>?_⟩
 ·rcases el m t h with ⟨zV,h⟩ | ⟨e,rfl⟩
  ·simp only[if_neg zV];exact G.g0 m t h
  ·simp only[if_pos e];rfl
 ·rcases el m t h with ⟨zV,h⟩ | ⟨e,rfl⟩
  ·exact G.gl m t h
  ·exact hl
 ·rcases el m t h with ⟨zV,h⟩ | ⟨e,rfl⟩
  ·simp only[if_neg zV];exact G.D6 m t h j hj
  ·simp only[if_pos e];rfl
 ·rcases el m t h with ⟨zV,h⟩ | ⟨e,rfl⟩
  ·simp only[if_neg zV];exact G.top m t h hw
  ·simp only[if_pos e]
 ·rcases el m t h with ⟨zV,h⟩ | ⟨e,rfl⟩
  ·simp only[if_neg zV];exact G.dn m t h j hj
  ·cases hj
 ·rcases el m t h with ⟨zV,h⟩ | ⟨e,rfl⟩
  ·simp only[if_neg zV];exact G.q m t h j kk ln hj hl
  ·cases hj
 ·obtain⟨m,t,e,h,hw⟩:=G.own kk ln hl p hp
  exact⟨m,t,e,eo h,hw⟩
 ·rcases el m t h with ⟨zV,h⟩ | ⟨e,rfl⟩
  ·exact G.nd m t h
  ·exact nodup_nil
 ·rcases el m t h with ⟨zV,h⟩ | ⟨e,rfl⟩
  ·simp only[if_neg zV];exact G.AK m t h p qs hp
  ·simp only[if_pos e]
   rw[gY (Nat.le_refl _),ite_self]
   refine qq fun q hq e2=>?_
   obtain⟨m',t',e3,h'⟩:=G.BX p qs hp q hq
   have:=nw h'
   rw[e2]at e3
   omega
 ·obtain⟨m,t,e,h⟩:=G.BX p qs hp q hq
  exact⟨m,t,e,eo h⟩
 ·rcases el m t h with ⟨zV,h⟩ | ⟨e,rfl⟩
  ·simp only[if_neg zV];exact G.hold kk ln hl m t h
  ·refine⟨fun z=>?_,fun zk=>by obtain⟨j,hj,_⟩:=zk;cases hj⟩
   obtain⟨m',t',e3,h'⟩:=G.BH kk ln hl _ z
   have:=nw h'
   omega
 ·obtain⟨m,t,e,h⟩:=G.BH kk ln hl z hz
  exact⟨m,t,e,eo h⟩
 ·rcases G.Es kk ln hl j p q hp hq with z | ⟨z,m',t2,e,h2,e2⟩
  ·exact .inl z
  ·exact .inr ⟨z,m',t2,e,eo h2,e2⟩
 ·rcases G.lst kk ln hl q hq with z | ⟨z,m',t2,e,h2,e2⟩
  ·exact .inl z
  ·exact .inr ⟨z,m',t2,e,eo h2,e2⟩
theorem Rf {a:YA}{rs:List Int}{n:Nat}(h:∀ r ∈ rs,1 <= r/\r <= 60):Az a (Y0 (rs.map V.int) n) zr zr:=by
 have zJ:∀ {k:Nat}{ln:bC},(Y0 (rs.map V.int) n).lanes[k]? = some ln->∃ r,rs[k]? = some r/\ln = ⟨r,0,none,[]⟩:=fun {k ln} hl=>by
  have hl:(((rs.map V.int).map n8))[k]? = some ln:=hl
  rw[getElem?_map,getElem?_map]at hl
  cases hr:rs[k]? with
  | none=>rw[hr]at hl;cases hl
  | some r=>rw[hr]at hl;cases hl;exact⟨r,rfl,rfl⟩
 have nl:∀ {m:Nat}{t:aU},(Y0 (rs.map V.int) n).U[m]? = some t->False:=fun h=>by cases h
 have Rg:∀ {p:Nat}{qs:List (Int × Int)},(Y0 (rs.map V.int) n).lies[p]? = some qs->qs=[]:=fun {p qs} hp=>by
  have hp:(List.replicate n ([]:List (Int × Int)))[p]? = some qs:=hp
  rw[List.getElem?_replicate]at hp
  split at hp
  ·cases hp;rfl
  ·cases hp
 refine⟨fun m t h=>(nl h).elim,fun m t h=>(nl h).elim,fun m t h=>(nl h).elim,fun m t h=>(nl h).elim,fun m t h=>(nl h).elim,fun m t h=>(nl h).elim,fun kk ln hl p hp=>?_,fun m t h=>(nl h).elim,fun m t h=>(nl h).elim,fun p qs hp q hq=>?_,fun kk ln hl m t h=>(nl h).elim,fun kk ln hl z hz=>?_,fun kk ln hl=>?_,fun kk ln hl j p q hp hq=>?_,fun kk ln hl q hq=>?_⟩
 ·obtain⟨r,hr,rfl⟩:=zJ hl
  cases hp
 ·rw[Rg hp]at hq;cases hq
 ·obtain⟨r,hr,rfl⟩:=zJ hl
  cases hz
 ·obtain⟨r,hr,rfl⟩:=zJ hl
  have ET:=h r (mem_of_getElem? hr)
  refine⟨?_,by show 0 <= r;omega,Int.le_refl _⟩
  show(rs.map V.int)[kk]? = some (.int (r + 0 + ((0:Nat):Int)))
  rw[getElem?_map,hr]
  show some (V.int r)=_
  congr 2;omega
 ·obtain⟨r,hr,rfl⟩:=zJ hl
  cases hp
 ·obtain⟨r,hr,rfl⟩:=zJ hl
  cases hq
noncomputable abbrev uI (s s1:YS)(m:Mv):YS:={ s1 with done:=s.done ++ [fW m] }
inductive Et (a:YA)(s0:YS):Nat->YS->Prop
 | nil:Et a s0 0 s0
 | snoc {n:Nat} {s s1:YS} {m:Mv} (h:Et a s0 n s) (st:Bz a s m s1):Et a s0 (n + 1) (uI s s1 m)
theorem eK {l:List aU}{k:Nat}{x y:aU}(h:l[k]? = some x)(e:y.len=x.len):(l.set k y).map (·.len)=l.map (·.len):=by
 refine ext_getElem? fun i=>?_
 rw[getElem?_map,getElem?_map,List.getElem?_set]
 by_cases hi:k=i
 ·subst hi
  rw[if_pos rfl,if_pos (gQ0 h),h]
  show some y.len=some x.len
  rw[e]
 ·rw[if_neg hi]
theorem Bz.Rh {a:YA}{s s':YS}{m:Mv}(h:Bz a s m s'):s'.U.map (·.len)=s.U.map (·.len):=by
 cases h with
 | @AU k l t ln ht hg hl zJ ho =>
  have e1:(cx s k t).U.map (·.len)=s.U.map (·.len):=eK ht rfl
  have Ee:(cx s k t).U[k]? = some { t with gone:=t.gone + 1 }:=cK ht
  show(if t.gone=0 then (cx s k t).U.set k _ else (cx s k t).U).map (·.len)=_
  split
  ·exact(eK (y:={ ({ t with gone:=t.gone + 1 }:aU) with way:=t.way ++ [l] }) Ee rfl).trans e1
  ·exact e1
 | @on k l m c lk ln t hk hq ht hl zJ ho =>
  show(if c=0 then s.U.set m _ else s.U).map (·.len)=_
  split
  ·exact eK (y:={ t with way:=t.way ++ [l] }) ht rfl
  ·rfl
 | AK=>rfl
 | back=>rfl
inductive D8 (a:YA)(s0:YS):YS->Prop
 | nil:D8 a s0 s0
 | snoc {s:YS} {x y l u:Int} (h:D8 a s0 s) (hl:1 <= l/\l <= 4):D8 a s0 (dP s x y l u)
noncomputable def nO (s:YS):Int:=(s.lanes.map (·.b)).sum
noncomputable def wt (i:Nat):Nat:=if i=0 then 1 else 2
noncomputable def iw (L:Nat)(f:Nat->Nat):Nat:=((List.range (L + 1)).map fun i=>wt i * f i).sum
noncomputable def ir (k L:Nat)(N:Nat->Nat->Nat):Nat:=((List.range k).map fun m=>iw L (N m)).sum
noncomputable def l4 (s:YS):Int:=(s.U.map (·.len)).sum
theorem iX {f g:Nat->Nat}:∀ l:List Nat,(l.map fun i=>f i + g i).sum=(l.map f).sum + (l.map g).sum
 | []=>rfl
 | x :: l=>by rw[map_cons,map_cons,map_cons,sum_cons,sum_cons,sum_cons,iX l];omega
theorem gG {c:Nat}{i0:Nat}:∀ n:Nat,((List.range n).map fun i=>if i=i0 then c else 0).sum=if i0 < n then c else 0
 | 0=>rfl
 | n + 1=>by
  rw[range_succ,map_append,sum_append,gG n]
  show _ + (if n=i0 then c else 0) + 0=_
  by_cases h1:n=i0
  ·rw[if_pos h1,if_neg (by omega),if_pos (by omega)];omega
  ·rw[if_neg h1]
   by_cases h2:i0 < n
   ·rw[if_pos h2,if_pos (by omega)];omega
   ·rw[if_neg h2,if_neg (by omega)]
theorem sK {L m i:Nat}{N:Nat->Nat->Nat}(hi:i <= L):iw L (fun j=>N m j + cU m i m j)=iw L (N m) + wt i:=by
 unfold iw
 rw[show(fun j=>wt j * (N m j + cU m i m j))=fun j=>wt j * N m j + (if j=i then wt i else 0) from funext fun j=>by
  unfold cU
  by_cases h:j=i
  ·subst h;rw[if_pos ⟨rfl,rfl⟩,if_pos rfl,Nat.mul_add];omega
  ·rw[if_neg (fun z=>h z.2),if_neg h,add_zero,add_zero]]
 rw[iX,gG,if_pos (by omega)]
theorem jl {k L m i:Nat}{N:Nat->Nat->Nat}(hm:m < k)(hi:i <= L):ir k L (fun m' i'=>N m' i' + cU m i m' i')=ir k L N + wt i:=by
 unfold ir
 rw[show(fun m'=>iw L fun i'=>N m' i' + cU m i m' i')=fun m'=>iw L (N m') + (if m' = m then wt i else 0) from funext fun m'=>by
  by_cases h:m' = m
  ·subst h;rw[if_pos rfl];exact sK hi
  ·rw[if_neg h,show(fun i'=>N m' i' + cU m i m' i')=N m' from funext fun i'=>by rw[eU h];omega];omega]
 rw[iX,gG,if_pos hm]
theorem dL:∀ {l:List bC}{k:Nat}{x:bC}(y:bC),l[k]? = some x->((l.set k y).map (·.b)).sum=(l.map (·.b)).sum + (y.b - x.b)
 | [],_,_,_,h=>by cases h
 | z :: l,0,x,y,h=>by
  cases h
  rw[set_cons_zero,map_cons,map_cons,sum_cons,sum_cons];omega
 | z :: l,k + 1,x,y,h=>by
  rw[set_cons_succ,map_cons,map_cons,sum_cons,sum_cons,dL y (show l[k]? = some x from h)];omega
theorem py:∀ {l:List bC},(∀ x ∈ l,0 <= x.b)->0 <= (l.map (·.b)).sum
 | [],_=>Int.le_refl _
 | x :: l,h=>by
  rw[map_cons,sum_cons]
  have:=h x mem_cons_self
  have:=py fun y hy=>h y (mem_cons_of_mem _ hy)
  omega
theorem r6 {a:YA}{s:YS}(J:Ab a s){m:Nat}{t:aU}(ht:s.U[m]? = some t):t.way.length <= a.ps.length:=dQ _ _ (J.Ad m t ht).2 (J.Ad m t ht).1
structure Cc (a:YA)(s:YS)(N:Nat->Nat->Nat):Prop where
 G:Az a s N zr
 c:(s.done.length:Int) + nO s=s.U.length + ir s.U.length a.ps.length N
theorem Cc.step {a:YA}{s s':YS}{N:Nat->Nat->Nat}{mv:Mv}(C:Cc a s N)(J:Ab a s)(h:Bz a s mv s'):∃ N',Cc a (uI s s' mv) N':=by
 have G:=C.G
 have hc:=C.c
 have hd:((s.done ++ [fW mv]).length:Int)=s.done.length + 1:=by rw[length_append,length_singleton];omega
 have hlen:=h.len
 have fin:∀ {N':Nat->Nat->Nat}{x:Nat}{b:Int},Az a s' N' zr->ir s.U.length a.ps.length N' = ir s.U.length a.ps.length N + x->nO s' = nO s + b->1 + b=x->∃ N',Cc a (uI s s' mv) N':=fun {N' x b} G' h1 h2 h3 =>
  ⟨N',G'.dn' _,by
   show((s.done ++ [fW mv]).length:Int) + nO s' = (s'.U.length:Int) + ir s'.U.length a.ps.length N'
   rw[hd,h2,hlen,h1];omega⟩
 have lt:∀ {m:Nat}{t:aU},s.U[m]? = some t->m < s.U.length:=fun ht=>(gQ0 ht)
 cases h with
 | @AU m l t ln ht hg hl zJ ho =>
  have G1:=G.leave ht hg
  have g0:(N m 0:Int)=t.gone:=G.g0 m t ht
  have gl:=G.gl m t ht
  have Ee:(cx s m t).U[m]? = some { t with gone:=t.gone + 1 }:=cK ht
  refine fin (b:=0) (G1.enter Ee g0.symm (fun h0=>?_) (fun h0=>?_) (by show t.gone + 1 <= t.len;omega) zJ ho) (jl (lt ht) (zero_le _)) ?_ rfl
  ·have:=J.Ak m t ht h0
   show 0=t.way.length/\l ∉ t.way
   rw[this];exact⟨rfl,not_mem_nil⟩
  ·unfold aV at hl
   rw[if_neg h0]at hl
   exact fS (j:=0) hl
  ·exact(dL _ zJ).trans (by show(s.lanes.map (·.b)).sum + (ln.b - ln.b)=(s.lanes.map (·.b)).sum + 0;omega)
 | @on k l m c lk ln t hk hq ht hl zJ ho =>
  obtain⟨i,hi,CV,zT,G1⟩:=G.pull hk hq ht
  have hw:=pc hk hq ht hl
  have CD:=(gQ0 hi)
  obtain⟨d1,d2,d3⟩:=G.dn m t ht i CD
  have wl:=r6 J ht
  refine fin (b:=1) (G1.enter (t:=t) ht CV (fun h0=>?_) (fun h0=>?_) (by omega) zJ ho) (jl (lt ht) (by omega)) ?_ rfl
  ·rw[if_pos h0]at hw
   refine⟨?_,hw⟩
   rcases lt_or_ge (i + 1) t.way.length with h | h
   ·have:=(G.dn m t ht (i + 1) h).2.1
    omega
   ·omega
  ·rw[if_neg h0]at hw
   rw[l9 (G.nd m t ht) hi]at hw
   exact fS hw
  ·have e1:=dL (bX lk) hk
   have e2:=dL (eL ln (m:Int) c t.len) zJ
   have e3:(bX lk).b=lk.b + 1:=rfl
   have e4:(eL ln (m:Int) c t.len).b=ln.b:=rfl
   show(((s.lanes.set k (bX lk)).set l (eL ln (m:Int) c t.len)).map (·.b)).sum=(s.lanes.map (·.b)).sum + 1
   rw[e2,e1,e3,e4];omega
 | @AK k m e c lk t qs hk hq ht hg he AV =>
  obtain⟨i,hi,CV,zT,G1⟩:=G.pull hk hq ht
  have ew:i + 1=t.way.length:=J.last m t ht i k hi (by show(a.ps.getD k (0,0)).2=_;rw[he,hg])
  rw[ew]at CV G1
  have wl:=r6 J ht
  refine fin (b:=1) (G1.lay (t:=t) ht CV hg AV (fun z=>by rw[z]at hi;cases hi)) (jl (lt ht) wl) ?_ (by unfold wt;rw[if_neg (by omega)];rfl)
  exact(dL (bX lk) hk).trans (by show(s.lanes.map (·.b)).sum + (lk.b + 1 - lk.b)=(s.lanes.map (·.b)).sum + 1;omega)
 | @back k lk hk hb =>
  refine fin (x:=0) (b:=-1) (G.back hk hb) rfl ?_ rfl
  exact(dL (mH lk) hk).trans (by show(s.lanes.map (·.b)).sum + (lk.b - 1 - lk.b)=(s.lanes.map (·.b)).sum + -1;omega)
theorem Cc.Ri {a:YA}{s s':YS}{N:Nat->Nat->Nat}{n:Nat}(h:Et a s n s')(C:Cc a s N)(J:Ab a s):(∃ N',Cc a s' N')/\Ab a s'/\s'.done.length=s.done.length + n/\s'.U.length=s.U.length/\s'.U.map (·.len)=s.U.map (·.len):=by
 induction h with
 | nil=>exact⟨⟨N,C⟩,J,rfl,rfl,rfl⟩
 | @snoc n s1 s2 m h st ih =>
  obtain⟨⟨N1,C1⟩,J1,e1,e2,e3⟩:=ih
  refine⟨C1.step J1 st,(J1.step st).done _,?_,st.len.trans e2,?_⟩
  ·show(s1.done ++ [_]).length=_
   rw[length_append,length_singleton];omega
  ·rw[← e3]
   exact st.Rh
theorem Cc.post {a:YA}{s:YS}{N:Nat->Nat->Nat}(C:Cc a s N){x y l u:Int}(hl:1 <= l):∃ N',Cc a (dP s x y l u) N':=by
 obtain⟨N',he,G'⟩:=C.G.LD (x:=x) (y:=y) (l:=l) (u:=u) (by omega)
 refine⟨N',G',?_⟩
 have ht:(dP s x y l u).U[s.U.length]? = some ⟨x,y,l,u,0,[]⟩:=getElem?_concat_length
 have h0:∀ i,N' s.U.length i=0:=fun i=>by
  cases i with
  | zero=>have:=G'.g0 _ _ ht;have:((N' s.U.length 0 + 0:Nat):Int)=0:=this;omega
  | succ i=>have:N' s.U.length (i + 1) + 0=0:=G'.D6 _ _ ht (i + 1) (Nat.succ_pos _);omega
 have e1:iw a.ps.length (N' s.U.length)=0:=by
  unfold iw
  rw[show(fun i=>wt i * N' s.U.length i)=fun i=>if i=a.ps.length + 1 then 0 else 0 from funext fun i=>by rw[h0,Nat.mul_zero,ite_self]]
  rw[gG,ite_self]
 have e2:ir (s.U.length + 1) a.ps.length N' = ir s.U.length a.ps.length N:=by
  unfold ir
  rw[range_succ,map_append,sum_append]
  show _ + (iw a.ps.length (N' s.U.length) + 0)=_
  rw[e1,add_zero]
  congr 1
  refine map_congr_left fun m hm=>?_
  have:=mem_range.mp hm
  rw[show N' m=N m from funext fun i=>he m i (by omega)]
 show((s.done ++ [_]).length:Int) + nO s=((s.U ++ [(⟨x,y,l,u,0,[]⟩:aU)]).length:Int) + ir (s.U ++ [(⟨x,y,l,u,0,[]⟩:aU)]).length a.ps.length N'
 rw[length_append,length_singleton,length_append,length_singleton,e2]
 have:=C.c
 omega
theorem Cc.psd {a:YA}{s s':YS}{N:Nat->Nat->Nat}(h:D8 a s s')(C:Cc a s N):∃ N',Cc a s' N':=by
 induction h with
 | nil=>exact⟨N,C⟩
 | snoc h hl ih=>obtain⟨N1,C1⟩:=ih;exact C1.post hl.1
theorem D8.Ao {a:YA}{s s':YS}(h:D8 a s s')(hs:∀ t ∈ s.U,0 <= t.len/\t.len <= 4):∀ t ∈ s'.U,0 <= t.len/\t.len <= 4:=by
 induction h with
 | nil=>exact hs
 | @snoc s x y l u h hl ih =>
  intro t ht
  have ht:t ∈ s.U ++ [(⟨x,y,l,u,0,[]⟩:aU)]:=ht
  rcases mem_append.mp ht with ht | ht
  ·exact ih t ht
  ·rw[mem_singleton.mp ht];exact⟨by show 0 <= l;omega,hl.2⟩
theorem xP {L n W:Nat}{f:Nat->Nat}(h:∀ i,i <= L->f i <= n):iw L f <= n * (2 * L + 1):=by
 unfold iw
 have key:∀ L,(∀ i,i <= L->f i <= n)->((List.range (L + 1)).map fun i=>wt i * f i).sum <= n * (2 * L + 1):=by
  intro L
  induction L with
  | zero =>
   intro h
   show wt 0 * f 0 + 0 <= n * (2 * 0 + 1)
   have:=h 0 (Nat.le_refl _)
   show 1 * f 0 + 0 <= _
   omega
  | succ L ih =>
   intro h
   rw[range_succ,map_append,sum_append]
   have h1:=ih fun i hi=>h i (by omega)
   have h2:=h (L + 1) (Nat.le_refl _)
   show _ + (wt (L + 1) * f (L + 1) + 0) <= _
   have e:wt (L + 1)=2:=if_neg (by omega)
   rw[e,show n * (2 * (L + 1) + 1)=n * (2 * L + 1) + 2 * n by rw[show 2 * (L + 1) + 1=(2 * L + 1) + 2 by omega,Nat.mul_add];omega]
   omega
 exact key L h
theorem rE:∀ (l:List aU)(f:Nat->Nat)(c k0:Nat),(∀ (m:Nat)(t:aU),l[m]? = some t->(f (k0 + m):Int) <= t.len * c)->((((List.range' k0 l.length).map f).sum:Nat):Int) <= (l.map (·.len)).sum * c
 | [],f,c,k0,_=>by simp
 | t :: l,f,c,k0,h=>by
  have h1:=h 0 t rfl
  have h2:=rE l f c (k0 + 1) fun m t' hm=>by
   have:=h (m + 1) t' hm
   rw[show k0 + 1 + m=k0 + (m + 1) by omega];exact this
  rw[length_cons,List.range'_succ,map_cons,sum_cons,map_cons,sum_cons,Int.add_mul,natCast_add]
  have h1:(f k0:Int) <= t.len * c:=h1
  omega
theorem Cc.most {a:YA}{s:YS}{N:Nat->Nat->Nat}(C:Cc a s N)(J:Ab a s):(s.done.length:Int) <= s.U.length + l4 s * (2 * a.ps.length + 1:Nat):=by
 have hb:0 <= nO s:=py fun ln hl=>by
  obtain⟨k,hk⟩:=List.getElem?_of_mem hl
  exact(C.G.room k ln hk).2.2
 have hc:=C.c
 have hs:=rE s.U (fun m=>iw a.ps.length (N m)) (2 * a.ps.length + 1) 0 (fun m t ht=>?_)
 ·unfold l4
  have e:ir s.U.length a.ps.length N=((List.range' 0 s.U.length).map fun m=>iw a.ps.length (N m)).sum:=by unfold ir;rw[List.range_eq_range']
  rw[e]at hc
  omega
 ·rw[Nat.zero_add]
  have G:=C.G
  have g0:((N m 0 + 0:Nat):Int)=t.gone:=G.g0 m t ht
  have gl:=G.gl m t ht
  have hle:∀ i,i <= a.ps.length->N m i <= t.len.toNat:=fun i _=>by
   rcases lt_or_ge i t.way.length with h | h
   ·have:=(G.dn m t ht i h).2.2;omega
   ·rcases lt_or_ge t.way.length i with h2 | h2
    ·have:N m i + 0=0:=G.D6 m t ht i h2;omega
    ·have ei:i=t.way.length:=by omega
     cases hw:t.way.length with
     | zero=>rw[ei,hw];omega
     | succ j =>
      obtain⟨d1,d2,d3⟩:=G.dn m t ht j (by omega)
      have d1:N m (j + 1) + 0 <= N m j:=d1
      rw[ei,hw];omega
  have:=xP (W:=0) hle
  have h0:0 <= t.len:=by omega
  have e:((t.len.toNat * (2 * a.ps.length + 1):Nat):Int)=t.len * ((2 * a.ps.length + 1:Nat):Int):=by rw[natCast_mul,Int.toNat_of_nonneg h0]
  rw[← e]
  exact Int.ofNat_le.mpr this
theorem Rj {a:YA}{rs:List Int}{n:Nat}(h:∀ r ∈ rs,1 <= r/\r <= 60):Cc a (Y0 (rs.map V.int) n) zr:=by
 refine⟨Rf h,?_⟩
 have e:nO (Y0 (rs.map V.int) n)=0:=by
  show((((rs.map V.int).map n8).map (·.b))).sum=0
  have:∀ l:List Int,((((l.map V.int).map n8).map (·.b))).sum=0:=by
   intro l
   induction l with
   | nil=>rfl
   | cons x l ih=>show (0:Int) + _=0;rw[zero_add];exact ih
  exact this rs
 rw[e]
 rfl
structure CF (a:YA)(s:YS):Prop where
 b0:∀ (k:Nat)(ln:bC),s.lanes[k]? = some ln->ln.b <= 0
 LF:∀ (k m:Nat)(c:Int)(ln:bC)(t:aU),s.lanes[k]? = some ln->ln.qs.head? = some ((m:Int),c)->s.U[m]? = some t->t.goal ≠ jO a k
 VC:∀ (k m:Nat)(c:Int)(ln:bC),s.lanes[k]? = some ln->ln.qs.head? = some ((m:Int),c)->∀ l ∈ bj a s k,cI s l m c=false
 VD:∀ (m:Nat)(t:aU),s.U[m]? = some t->t.gone ≠ t.len->∀ l ∈ aV a t,cI s l m t.gone=false
theorem xr {a:YA}{s:YS}(h:bT a s=[]):CF a s:=by
 unfold bT at h
 have h1:=append_eq_nil_iff.mp h
 have h2:=append_eq_nil_iff.mp h1.1
 have h3:=append_eq_nil_iff.mp h2.1
 have part:∀ {n:Nat}{f:Nat->List Mv},(List.range n).flatMap f=[]->∀ k,k < n->f k=[]:=fun e k hk=>(List.flatMap_eq_nil_iff.mp e) k (mem_range.mpr hk)
 have lt:∀ {α:Type}{l:List α}{k:Nat}{x:α},l[k]? = some x->k < l.length:=fun e=>(gQ0 e)
 refine⟨fun k ln hk=>?_,fun k m c ln t hk hq ht=>?_,fun k m c ln hk hq l hl=>?_,fun m t ht hg l hl=>?_⟩
 ·have e:=part h1.2 k (lt hk)
  unfold dA at e
  rw[hk]at e
  dsimp only at e
  by_cases h0:0 < ln.b
  ·rw[if_pos h0]at e;cases e
  ·omega
 ·have e:=part h2.2 k (lt hk)
  unfold eV aL at e
  rw[hk]at e
  dsimp only at e
  rw[hq]at e
  dsimp only at e
  rw[toNat_natCast,ht]at e
  dsimp only at e
  intro he
  rw[if_pos (show t.goal=(a.ps.getD k (0,0)).2 from he)]at e;cases e
 ·have e:=part h3.2 k (lt hk)
  unfold iA aL at e
  rw[hk]at e
  dsimp only at e
  rw[hq]at e
  dsimp only at e
  have e:=map_eq_nil_iff.mp e
  have:=filter_eq_nil_iff.mp e l hl
  simpa using this
 ·have e:=part h3.1 m (lt ht)
  unfold ia at e
  rw[ht]at e
  dsimp only at e
  rw[if_neg hg]at e
  have e:=map_eq_nil_iff.mp e
  have:=filter_eq_nil_iff.mp e l hl
  simpa using this
theorem mQ {m:Nat}:∀ {qs:List (Int × Int)}{x:Int}{r:List Int},cnt m qs=x :: r->∃ i:Nat,qs[i]? = some ((m:Int),x)/\∀ j:Nat,j < i->∀ q:Int × Int,qs[j]? = some q->q.1 ≠ (m:Int)
 | [],x,r,h=>by cases h
 | q :: qs,x,r,h=>by
  obtain⟨q1,q2⟩:=q
  by_cases e:q1=(m:Int)
  ·subst e
   rw[show((m:Int),q2) :: qs=[((m:Int),q2)] ++ qs from rfl,dE,eP,if_pos rfl]at h
   have h:q2 :: cnt m qs=x :: r:=h
   exact⟨0,by rw[(List.cons.inj h).1];rfl,fun j hj=>absurd hj (Nat.not_lt_zero _)⟩
  ·have h:cnt m qs=x :: r:=by
    unfold cnt at h ⊢
    rw[filter_cons_of_neg (by simpa using e)]at h
    exact h
   obtain⟨i,h1,h2⟩:=mQ h
   refine⟨i + 1,h1,fun j hj q hq=>?_⟩
   cases j with
   | zero=>cases hq;exact e
   | succ j=>exact h2 j (by omega) q hq
theorem lG {m:Nat}{qs:List (Int × Int)}{c:Int}(h:((m:Int),c) ∈ qs):c ∈ cnt m qs:=by
 unfold cnt
 exact mem_map.mpr ⟨_,mem_filter.mpr ⟨h,by simp⟩,rfl⟩
theorem vb {x y:Nat}{c:Int}(h:c ∈ ix x y):(x:Int) <= c/\c < y:=by
 unfold ix at h
 obtain⟨z,hz,rfl⟩:=mem_map.mp h
 have:=List.mem_range'_1.mp hz
 exact⟨by omega,by omega⟩
section
variable {a:YA}{s:YS}{N:Nat->Nat->Nat}
theorem CF.right (S:CF a s)(G:Az a s N zr)(hr:∀ (k:Nat) (ln:bC),s.lanes[k]? = some ln->1 <= ln.r + ln.b + ln.qs.length){k:Nat}{ln:bC}(hk:s.lanes[k]? = some ln)(he:ln.qs=[]):ln.r ≠ 0:=by
 have h1:=hr k ln hk
 have h2:=S.b0 k ln hk
 rw[he]at h1
 have h1:1 <= ln.r + ln.b + 0:=h1
 omega
theorem CF.held (S:CF a s)(G:Az a s N zr)(J:Ab a s)(hr:∀ (k:Nat) (ln:bC),s.lanes[k]? = some ln->1 <= ln.r + ln.b + ln.qs.length){m:Nat}{t:aU}(ht:s.U[m]? = some t) :
  ∀ (j k:Nat)(ln:bC),t.way[j]? = some k->s.lanes[k]? = some ln->cnt m ln.qs=[]->(N m j:Int) < t.len->False:=by
 intro j
 induction j with
 | zero =>
  intro k ln hw hk hc hN
  have hh:ln.h=some (m:Int):=(G.hold k ln hk m t ht).mpr ⟨0,hw,hN⟩
  have hq:ln.qs=[]:=by
   cases hl:ln.qs.getLast? with
   | none=>exact List.getLast?_eq_none_iff.mp hl
   | some q =>
    rcases G.lst k ln hk q hl with z | ⟨z,_⟩
    ·rw[hh]at z
     have e:q.1=(m:Int):=(Option.some.inj z).symm
     have:=lG (m:=m) (c:=q.2) (show((m:Int),q.2) ∈ ln.qs from e ▸ List.mem_of_getLast? hl)
     rw[hc]at this;cases this
    ·rw[hh]at z;cases z
  have Dk:=S.right G hr hk hq
  have C4:=(gQ0 hw)
  have HI:=(G.dn m t ht 0 C4).2.1
  have g0:((N m 0 + 0:Nat):Int)=t.gone:=G.g0 m t ht
  have Ae:=S.VD m t ht (by omega) k (by
   unfold aV
   rw[if_neg (by omega)]
   cases hx:t.way with
   | nil=>rw[hx]at hw;cases hw
   | cons x xs=>rw[hx]at hw;cases hw;exact mem_cons_self)
  unfold cI at Ae
  rw[hk]at Ae
  dsimp only at Ae
  unfold bW at Ae
  rw[if_neg Dk,if_neg (by omega),hh]at Ae
  simp at Ae
 | succ j ih =>
  intro k ln hw hk hc hN
  have C4:=(gQ0 hw)
  have hh:ln.h=some (m:Int):=(G.hold k ln hk m t ht).mpr ⟨j + 1,hw,hN⟩
  have hq:ln.qs=[]:=by
   cases hl:ln.qs.getLast? with
   | none=>exact List.getLast?_eq_none_iff.mp hl
   | some q =>
    rcases G.lst k ln hk q hl with z | ⟨z,_⟩
    ·rw[hh]at z
     have e:q.1=(m:Int):=(Option.some.inj z).symm
     have:=lG (m:=m) (c:=q.2) (show((m:Int),q.2) ∈ ln.qs from e ▸ List.mem_of_getLast? hl)
     rw[hc]at this;cases this
    ·rw[hh]at z;cases z
  have Dk:=S.right G hr hk hq
  have HI:=(G.dn m t ht (j + 1) C4).2.1
  have hw1:t.way[j]? = some t.way[j]:=getElem?_eq_getElem (by omega)
  generalize t.way[j]'(by omega)=k1 at hw1
  have Rk:k1 < s.lanes.length:=by rw[J.lanes];exact(J.Ad m t ht).1 k1 (mem_of_getElem? hw1)
  have Cw:=getElem?_eq_getElem Rk
  generalize s.lanes[k1]=l1 at Cw
  have Iu:cnt m l1.qs=ix (N m (j + 1) + 0) (N m j):=G.q m t ht j k1 l1 hw1 Cw
  rw[add_zero]at Iu
  have AR:N m (j + 1) + 0 <= N m j:=(G.dn m t ht j (by omega)).1
  rcases lt_or_ge (N m (j + 1)) (N m j) with zT | F2
  ·rw[lZ zT]at Iu
   obtain⟨i,hi,Rl⟩:=mQ Iu
   have hi0:i=0:=by
    cases i with
    | zero=>rfl
    | succ i =>
     exfalso
     have CD:=(gQ0 hi)
     have hp:l1.qs[i]? = some l1.qs[i]:=getElem?_eq_getElem (by omega)
     rcases G.Es k1 l1 Cw i _ _ hp hi with ⟨z,_⟩ | ⟨z,_⟩
     ·exact Rl i (lt_succ_self _) _ hp z.symm
     ·have z:(N m (j + 1):Int)=0:=z
      omega
   subst hi0
   have VE:l1.qs.head? = some ((m:Int),(N m (j + 1):Int)):=by rw[List.head?_eq_getElem?];exact hi
   have Ae:=S.VC k1 m _ l1 Cw VE k (by
    unfold bj aL
    rw[Cw]
    dsimp only
    rw[VE]
    dsimp only
    rw[toNat_natCast,ht]
    dsimp only
    rw[if_neg (by omega),l9 (G.nd m t ht) hw1]
    have:(t.way.drop (j + 1))[0]? = some k:=by rw[List.getElem?_drop];exact hw
    cases hx:t.way.drop (j + 1) with
    | nil=>rw[hx]at this;cases this
    | cons x xs=>rw[hx]at this;cases this;exact mem_cons_self)
   unfold cI at Ae
   rw[hk]at Ae
   dsimp only at Ae
   unfold bW at Ae
   rw[if_neg Dk,if_neg (by omega),hh]at Ae
   simp at Ae
  ·exact ih k1 l1 hw1 Cw (by rw[Iu];exact gY F2) (by omega)
theorem CF.free (S:CF a s)(G:Az a s N zr)(J:Ab a s)(hr:∀ (k:Nat) (ln:bC),s.lanes[k]? = some ln->1 <= ln.r + ln.b + ln.qs.length){k:Nat}{ln:bC}(hk:s.lanes[k]? = some ln)(he:ln.qs=[]):ln.h=none:=by
 cases hh:ln.h with
 | none=>rfl
 | some z =>
  obtain⟨m,t,rfl,ht⟩:=G.BH k ln hk z hh
  obtain⟨j,hw,hN⟩:=(G.hold k ln hk m t ht).mp hh
  exact(S.held G J hr ht j k ln hw hk (by rw[he];rfl) hN).elim
theorem CF.wants (S:CF a s)(G:Az a s N zr)(J:Ab a s)(hr:∀ (k:Nat) (ln:bC),s.lanes[k]? = some ln->1 <= ln.r + ln.b + ln.qs.length){k m:Nat}{c:Int}{ln:bC}{t:aU}(hk:s.lanes[k]? = some ln)(hq:ln.qs.head? = some ((m:Int),c))(ht:s.U[m]? = some t){l:Nat}{lo:bC}(hl:l ∈ bj a s k)(BO:s.lanes[l]? = some lo):lo.qs ≠ []:=fun he=>by
 have hf:=S.free G J hr BO he
 have Dk:=S.right G hr BO he
 have Ae:=S.VC k m c ln hk hq l hl
 have hw:=pc hk hq ht hl
 unfold cI at Ae
 rw[BO]at Ae
 dsimp only at Ae
 unfold bW at Ae
 rw[if_neg Dk]at Ae
 by_cases h0:c=0
 ·rw[if_pos h0,hf]at Ae;simp at Ae
 ·rw[if_neg h0]at hw
  obtain⟨i,hi,CV,zT,_⟩:=G.pull hk hq ht
  rw[l9 (G.nd m t ht) hi]at hw
  have hw:=fS hw
  have CD:=(gQ0 hi)
  have h3:=(G.dn m t ht i CD).2.2
  have hh:lo.h=some (m:Int):=(G.hold l lo BO m t ht).mpr ⟨i + 1,hw,by omega⟩
  rw[hf]at hh;cases hh
theorem CF.head (S:CF a s)(G:Az a s N zr)(J:Ab a s){k m:Nat}{c:Int}{ln:bC}{t:aU}(hk:s.lanes[k]? = some ln)(hq:ln.qs.head? = some ((m:Int),c))(ht:s.U[m]? = some t)(he:bj a s k=[]):c=0:=by
 by_cases h0:c=0
 ·exact h0
 exfalso
 obtain⟨i,hi,CV,zT,_⟩:=G.pull hk hq ht
 have CD:=(gQ0 hi)
 unfold bj aL at he
 rw[hk]at he
 dsimp only at he
 rw[hq]at he
 dsimp only at he
 rw[toNat_natCast,ht]at he
 dsimp only at he
 rw[if_neg h0,l9 (G.nd m t ht) hi]at he
 have hlen:t.way.length <= i + 1:=by
  rcases lt_or_ge (i + 1) t.way.length with h | h
  ·have:(t.way.drop (i + 1)).length=t.way.length - (i + 1):=length_drop ..
   cases hx:t.way.drop (i + 1) with
   | nil=>rw[hx]at this;have:0=t.way.length - (i + 1):=this;omega
   | cons x xs=>rw[hx]at he;cases he
  ·exact h
 have CS:t.way.getLast? = some k:=by
  rw[List.getLast?_eq_getElem?,show t.way.length - 1=i by omega];exact hi
 rcases J.head m t ht k ln CS hk with z | z
 ·have h1:=lG z
  have Rm:cnt m ln.qs=ix (N m (i + 1) + 0) (N m i):=G.q m t ht i k ln hi hk
  rw[Rm]at h1
  have:=vb h1
  omega
 ·exact S.LF k m c ln t hk hq ht z.symm
theorem CF.starts (S:CF a s)(G:Az a s N zr)(J:Ab a s)(hr:∀ (k:Nat) (ln:bC),s.lanes[k]? = some ln->1 <= ln.r + ln.b + ln.qs.length){m:Nat}{t:aU}(ht:s.U[m]? = some t)(hg:t.gone ≠ t.len){l:Nat}{lo:bC}(hl:l ∈ aV a t)(BO:s.lanes[l]? = some lo):lo.qs ≠ []:=fun he=>by
 have hf:=S.free G J hr BO he
 have Dk:=S.right G hr BO he
 have Ae:=S.VD m t ht hg l hl
 unfold cI at Ae
 rw[BO]at Ae
 dsimp only at Ae
 unfold bW at Ae
 rw[if_neg Dk]at Ae
 by_cases h0:t.gone=0
 ·rw[if_pos h0,hf]at Ae;simp at Ae
 ·unfold aV at hl
  rw[if_neg h0]at hl
  have hw:=fS (j:=0) hl
  have g0:((N m 0 + 0:Nat):Int)=t.gone:=G.g0 m t ht
  have gl:=G.gl m t ht
  have hh:lo.h=some (m:Int):=(G.hold l lo BO m t ht).mpr ⟨0,hw,by omega⟩
  rw[hf]at hh;cases hh
end
end K67
namespace L2
open PySem PySem.Spec PyProof.Rows
section
variable {X:Cx}{a:Expr}{ta:TE}{pos:Pos}
noncomputable def LG (K:Frag)(ta:TE):TE:=fun σ H Q=>ta σ H fun x H1=>∃ k,yZ K x H1 k/\Q (.bl (!k)) H1
theorem vk (ha:PE X a ta):PE X (.UnaryOp .Not a pos) (LG X.K ta):=by
 intro pins s σ H Q I h
 refine UnaryOp_ (aW (ha pins s σ H _ I h) fun v s1 zk=>?_)
 obtain⟨x,H1,I1,r1,q1⟩:=zk
 obtain⟨k,t,q1⟩:=q1
 refine not_of (aW (rC pins s1 σ H1 x v (fun b H2=>b=k/\H2=H1) I1 r1 ⟨k,t,rfl,rfl⟩) fun b s2 zk=>?_)
 obtain⟨H2,I2,e1,e2⟩:=zk
 subst e1 e2
 exact⟨.bl (!b),H2,I2,rfl,q1⟩
end
end L2
namespace K67
open PySem L2
variable {P:Program}{w:World}{K:Frag}{mg:Str->Option Value}{base:Heap}
noncomputable def kS (a:YA)(s:YS):Bool:=(bT a s).isEmpty && !mS s
noncomputable def p5 (K:Frag)(c:Cs)(TC:Addr)(J:TJ)(ys:Ys):Sp:=fun vs H Q _=>∃ (a:YA)(s:YS),vs=[.ref a.y]/\B6 K c TC J ys H a s/\∀ H',zf H H'->Q (.bl (kS a s)) H'
noncomputable def cp (a:YA)(s:YS)(m:Nat):List (Nat × List Nat):=((List.range m).filter fun k=>(aL s k).isSome).map fun k=>(k,bj a s k)
noncomputable def Eu (H:Hp)(v:V)(w:Nat × List Nat):Prop:=∃ t u,v = .ref t/\H t=some (.tup [.int w.1, .ref u])/\H u=some (.tup (nV w.2))
theorem Eu.keep {H H':Hp}{v:V}{w:Nat × List Nat}(k:zG H H')(h:Eu H v w):Eu H' v w:=by
 obtain⟨t,u,e,h1,h2⟩:=h
 exact⟨t,u,e,k _ _ h1 True.intro,k _ _ h2 True.intro⟩
noncomputable def kU (K:Frag)(c:Cs)(TC:Addr)(J:TJ)(ys:Ys):Sp:=fun vs H Q _=>∃ (a:YA)(s:YS),vs=[.ref a.y]/\B6 K c TC J ys H a s /\
 ∀ (D:Addr)(zO:List V)(H':Hp),zf H H'->H D=none->H' D=some (.lst zO)->Paired (Eu H') zO (cp a s a.ps.length)->Q (.ref D) H'
theorem nA (a:YA)(s:YS)(i:Nat):cp a s (i + 1)=if (aL s i).isSome then cp a s i ++ [(i,bj a s i)] else cp a s i:=by
 unfold cp
 rw[range_succ,filter_append]
 cases h:(aL s i).isSome with
 | true=>simp[h]
 | false=>simp[h]
theorem kq (a:YA)(s:YS)(i:Nat):(cp a s i).length <= i:=by
 unfold cp
 rw[length_map]
 have:=length_filter_le (fun k=>(aL s k).isSome) (List.range i)
 rw[length_range]at this
 exact this
theorem LH:ao ["yard"] ["yard"] (ah oh):=L2.zQ
theorem tu {c:Cs}{ys:Ys}{J:TJ}{TC f fw fm fe:Addr}{fd dw dm de:FuncData}(F:zH K "still" "still" oh f fd)(Y:fU K ys)(W:Wy K TC fw dw J)
  (mm:bA K ys.zi "moves" fm) (bm:Binds K dm ["self"] []) (Gm:zg P w K mg base aD 7 fm dm ["self"] (gK K c TC J ys)) (me:bA K ys.zi "ended" fe) (be:Binds K de ["self"] []) (Ge:zg P w K mg base aD 1 fe de ["self"] (lf K ys)) :
  zg P w K mg base aD 8 f fd ["yard"] (p5 K c TC J ys):=by
 refine F.ok LH (fun _ _ _ _ h=>?_) (fun _ _ _ s H _ Q E hr h=>?_)
 ·obtain⟨a,s,rfl,_⟩:=h
  rfl
 ·obtain⟨a,st,rfl,hI,q⟩:=h
  have Ah:zm 1 _:=hr.mono (by decide)
  refine⟨_,ai (ar (c5 (vk (b7 (pv 0) Y.cl mm Gm hr bm .nil ap)) (c4 (lu (b7 (pv 0) Y.cl me Ge Ah be .nil ap))))),?_⟩
  have Dc:=hI.G.Ao
  have VF:=hI.G.lies
  have hn:=hI.T.K6
  refine⟨_,rfl,a.y,a.dy,_,rfl,hI.Y.ins,rfl,a,st,rfl,hI,fun D zK H1 s1 hD gD hp=>⟨_, .inl ⟨_,zj.of gD,rfl⟩,_,rfl,?_⟩⟩
  have hl:zK.isEmpty=(bT a st).isEmpty:=by
   have:=Paired.length hp
   rw[length_map]at this
   cases zK<;>cases h:bT a st<;>first | rfl | (rw[h]at this;cases this)
  unfold kS at q
  rw[hl]
  cases hb:(bT a st).isEmpty with
  | false =>
   rw[hb]at q
   exact aI (q H1 s1)
  | true =>
   rw[hb]at q
   have Ba:=hI.same W s1
   exact aJ ⟨_,rfl,a.y,a.dy,_,rfl,Ba.Y.ins,rfl,a.y,a.dy,a.tb,a.ro,a.la,a.le,a.li,a.dn,st,rfl,Ba.Y,by omega,by omega,fun H2 s2=>⟨_,rfl,q H2 (s1.trans s2)⟩⟩
noncomputable abbrev NWt:List Str:=["yard", "found", "lane"]
theorem HJ:ao NWt ["yard"] (ah nZ):=L2.zQ
theorem sZ {c:Cs}{ys:Ys}{J:TJ}{TC f fw ft fa:Addr}{fd dw dt da:FuncData}(F:zH K "waits" "waits" nZ f fd)(T:eW mg)(Y:fU K ys)(L:nu K c)(W:Wy K TC fw dw J)
  (mt:bA K ys.zi "lane_told" ft) (bt:Binds K dt ["self", "lane"] []) (Gt:zg P w K mg base aD 2 ft dt ["self", "lane"] (gL K ys))
  (ma:bA K ys.zi "wanted" fa) (ba:Binds K da ["self", "lane"] []) (Ga:zg P w K mg base aD 5 fa da ["self", "lane"] (gJ K c TC J ys)) :
  zg P w K mg base aD 6 f fd ["yard"] (kU K c TC J ys):=by
 refine F.ok HJ (fun _ _ _ _ h=>?_) (fun _ _ _ s H _ Q E hr h=>?_)
 ·obtain⟨a,s,rfl,_⟩:=h
  rfl
 ·obtain⟨a,st,rfl,hI,q⟩:=h
  have Ai:zm 2 _:=hr.mono (by decide)
  refine⟨_,af (az (i:=1) HJ.nd rfl (Or.inl rfl) (aP ad))
   (af (bR PassesOwn.never rfl (aX rfl T.range (aa (aw aq rfl T.len PySem.boot_len (aa (al (al (al (pv 0) rfl) rfl) rfl) ad)) ad)) (av (i:=2) HJ.nd rfl (Or.inl rfl))
    (ai (aM (fA (aA aE (aC (pv 0) Y.cl mt Gt Ai bt .nil ap (aa (pv 2) ad)) aj (fun _ _=>rfl)) (fun _=>rfl))
     (ai (aN (cv plainAttrs_list PySem.F.slot_list_append PySem.F.type_list_append bD (pv 1) (aa (bS (aa (pv 2) (aa (aY c7 rfl T.tuple PySem.Pv.boot_tuple (aa (aC (pv 0) Y.cl ma Ga hr ba .nil ap (aa (pv 2) ad)) ad)) ad))) ad)))) aF)))
   (ai (ar (pv 1)))),?_⟩
  have h40:=hI.T.Ao
  have zJ:=hI.G.lanes
  obtain⟨Bf,fst,AJ,zM,Af⟩:=hI.T.i
  have FY:a.zw.length=a.ps.length:=Paired.length hI.T.l.2.2
  refine⟨zero_le _,fun Fd Er=>?_⟩
  have s0:=(zf.refl H).new (o := .lst []) Er
  have g0:(upd H Fd (.lst [])) Fd=some (.lst []):=ac
  show dD 1 (V.ref Fd) _ _ _
  generalize upd H Fd (.lst [])=H0 at s0 g0 ⊢
  refine⟨_,rfl,a.y,ys.zi,a.dy,_,_,rfl,s0 _ _ hI.Y.ins,Y.cl,Y.n1,rfl,a.tb,TC,Bf,fst,_,rfl,s0 _ _ AJ,W.cl,W.nl,zM,a.lx,c.land,a.zX,_,_,rfl,s0 _ _ hI.T.l.1,L.cl,L.nl,rfl,a.lt,_,rfl, .inr (zt.of (s0 _ _ hI.T.l.2.1)),((a.zw.length:Nat):Int),rfl,by omega,by omega,?_⟩
  rw[toNat_natCast,FY]
  refine bP (n:=a.ps.length) (fun i σ H2=>∃ (a2:Option V)(zO:List V),zf H H2/\H2 Fd=some (.lst zO)/\Paired (Eu H2) zO (cp a st i)/\σ=[some (.ref a.y),some (.ref Fd),a2]) ⟨none,[],s0,g0, .nil,rfl⟩ ?_ ?_
  ·rintro i σ H2 hi ⟨a2,zO,s2,g2,p2,rfl⟩
   rw[zero_add]
   have AH:=hI.same W s2
   have CD:i < st.lanes.length:=by omega
   obtain⟨ln,LI⟩:∃ ln,st.lanes[i]? = some ln:=⟨_,getElem?_eq_getElem CD⟩
   have eF:aL st i=ln.qs.head?:=by unfold aL;rw[LI]
   have GS:zO.length <= 40:=by rw[Paired.length p2];have:=kq a st i;omega
   refine⟨_,rfl,a.y,a.dy,_,rfl,AH.Y.ins,rfl,_,rfl,a.y,a.dy,a.tb,a.ro,a.la,a.le,a.li,a.dn,st,i,ln,rfl,AH.Y,LI,fun t ql zB H3 s3 DQ gt Eo hL=>?_⟩
   refine⟨t,_,3,_,rfl,rfl,zt.of gt,ak (j:=3) rfl,_, .inl ⟨_,zj.of Eo,rfl⟩,?_⟩
   rw[nA,eF]
   have IP:=AH.same W s3
   cases AV:ln.qs with
   | nil =>
    have:zB=[]:=by rw[AV]at hL;exact length_eq_zero_iff.mp (Paired.length hL)
    subst this
    exact aI ⟨_,zO,s2.trans s3,s3 _ _ g2,Paired.mono (fun _ _ z=>z.keep (zf.zC s3)) p2,rfl⟩
   | cons q0 r0 =>
    have:∃ v r,zB=v :: r:=by
     have:=Paired.length hL
     rw[AV]at this
     cases zB with
     | nil=>cases this
     | cons v r=>exact⟨v,r,rfl⟩
    obtain⟨v,r,rfl⟩:=this
    refine aJ ⟨_,rfl, .inl ⟨rfl,_,zj.of (s3 _ _ g2)⟩,_,rfl,_,rfl,a.y,a.dy,_,rfl,IP.Y.ins,rfl,_,rfl,a,st,i,rfl,IP,CD,fun D H4 s4 hD gD=>⟨D,_,rfl, .inl ⟨zj.of gD,fun u hu=>?_⟩⟩⟩
    have s5:=s4.new (o := .tup (nV (bj a st i))) hu
    have g5:(upd H4 u (.tup (nV (bj a st i)))) u=some (.tup (nV (bj a st i))):=ac
    generalize upd H4 u (.tup (nV (bj a st i)))=H5 at s5 g5 ⊢
    refine⟨by show 2 <= sizeLine;decide,fun t6 VG=>?_⟩
    have s6:=(s3.trans s5).new (o := .tup [.int i, .ref u]) VG
    have g6:(upd H5 t6 (.tup [.int i, .ref u])) t6=some (.tup [.int i, .ref u]):=ac
    have VH:(upd H5 t6 (.tup [.int i, .ref u])) u=some (.tup (nV (bj a st i))):=by rw[ae (ag g5 VG)];exact g5
    generalize upd H5 t6 (.tup [.int i, .ref u])=H6 at s6 g6 VH ⊢
    have kk:zG H6 (upd H6 Fd (.lst (zO ++ [.ref t6]))):=jE (s6 _ _ g2)
    refine⟨Fd,zO,_,rfl,rfl,s6 _ _ g2,by rw[sizeLine_eq];omega,?_⟩
    refine⟨_,zO ++ [.ref t6],fun b o e=>by rw[ae (ag e Er)];exact s6 _ _ (s2 _ _ e),ac,?_,rfl⟩
    show Paired _ _ (cp a st i ++ [(i,bj a st i)])
    exact Paired.snoc ⟨t6,u,rfl,kk _ _ g6 True.intro,kk _ _ VH True.intro⟩ (Paired.mono (fun _ _ z=>z.keep (zG.trans (zf.zC s6) kk)) p2)
  ·rintro σ H2 ⟨a2,zO,s2,g2,p2,rfl⟩
   exact⟨_,rfl,q Fd zO H2 s2 Er g2 p2⟩
noncomputable def Rn:Option Nat->Nat
 | none=>0
 | some k=>k + 1
noncomputable def sL (r:Rw):Nat:=(r.g.toNat * 100 + Rn r.c) * 100 + r.p.toNat
theorem yC {a b:Rw}(h:bq a=bq b):sL a=sL b:=by
 unfold bq at h
 injection h with h1 h2
 injection h2 with h2 h3
 injection h3 with h3 _
 injection h1 with h1
 injection h2 with h2
 have h4:a.c=b.c:=by
  cases ha:a.c with
  | none=>cases hb:b.c with
   | none=>rfl
   | some k=>rw[ha,hb]at h3;cases h3
  | some k=>cases hb:b.c with
   | none=>rw[ha,hb]at h3;cases h3
   | some k' =>
    rw[ha,hb]at h3
    have h3:some (k:Int)=some (k':Int):=h3
    injection h3 with h3
    rw[show k=k' by omega]
 unfold sL
 rw[h1,h2,h4]
structure Dt (n:Nat)(ps:List (Int × Int))(B:Nat)(rs:List Rw):Prop where
 sort:(rs.map sL).Pairwise (· < ·)
 low:∀ r ∈ rs,sL r < B
 fit:∀ r ∈ rs,eY n ps r=true
 Ao:∀ r ∈ rs,r.s.length <= 40
theorem Dt.up {n:Nat}{ps:List (Int × Int)}{B B':Nat}{rs:List Rw}(h:Dt n ps B rs)(l:B <= B'):Dt n ps B' rs:=⟨h.sort,fun r hr=>lt_of_lt_of_le (h.low r hr) l,h.fit,h.Ao⟩
theorem Dt.snoc {n:Nat}{ps:List (Int × Int)}{B:Nat}{rs:List Rw}{r:Rw}(h:Dt n ps B rs)(hr:B <= sL r)(hf:eY n ps r=true)(hl:r.s.length <= 40):Dt n ps (sL r + 1) (rs ++ [r]):=by
 refine⟨?_,fun x hx=>?_,fun x hx=>?_,fun x hx=>?_⟩
 ·rw[map_append,List.pairwise_append]
  refine⟨h.sort,by simp,fun x hx y hy=>?_⟩
  obtain⟨r',I0,rfl⟩:=mem_map.mp hx
  have hy:y=sL r:=by simpa using hy
  rw[hy]
  exact lt_of_lt_of_le (h.low r' I0) hr
 ·rcases mem_append.mp hx with hx | hx
  ·have:=h.low x hx;omega
  ·rw[mem_singleton.mp hx];omega
 ·rcases mem_append.mp hx with hx | hx
  ·exact h.fit x hx
  ·rw[mem_singleton.mp hx];exact hf
 ·rcases mem_append.mp hx with hx | hx
  ·exact h.Ao x hx
  ·rw[mem_singleton.mp hx];exact hl
theorem Dt.good {n:Nat}{ps:List (Int × Int)}{B:Nat}{rs:List Rw}(h:Dt n ps B rs):dB n ps rs rs.length=none:=by
 refine fZ fun k hk=>?_
 have hr:rs[k]? = some rs[k]:=getElem?_eq_getElem hk
 have NB:rs.getD k ⟨0,0,none,[]⟩ = rs[k]:=by rw[getD_eq_getElem?_getD,hr];rfl
 rw[NB,im,h.fit _ (getElem_mem hk)]
 have Rp:((rs.take k).any fun a=>decide (bq a=bq rs[k]))=false:=by
  rw[List.any_eq_false]
  intro a ha hd
  have e:=yC (of_decide_eq_true hd)
  obtain⟨j,hj,ea⟩:=List.mem_take_iff_getElem.mp ha
  have Rb:j < k:=by omega
  have:=List.pairwise_iff_getElem.mp h.sort j k (by rw[length_map];omega) (by rw[length_map];exact hk) Rb
  rw[getElem_map,getElem_map,ea]at this
  omega
 rw[Rp];rfl
theorem kG {n:Int}{ps:List (Int × Int)}{r:Rw}(h:eY n ps r=true):∀ k ∈ r.s,k < ps.length:=by
 unfold eY at h
 simp only[Bool.and_eq_true,all_eq_true,decide_eq_true_eq]at h
 intro k hk
 exact mem_range.mp (mem_filter.mp (h.2.2 k hk)).1
noncomputable def lK (rs:List Rw)(k:gw):Nat:=match dW rs k with
 | some r=>Yd.Ar r.s 0
 | none=>0
theorem mG {rs:List Rw}{k:gw}{r:Rw}(h:dW rs k=some r):r ∈ rs:=mem_reverse.mp (List.mem_of_find?_eq_some h)
noncomputable def IQ (rs:List Rw):Wf:=fun p g k=>mN (lK rs (bq ⟨(p:Int),(g:Int),k,[]⟩))
noncomputable def zE (P:Program)(w:World)(ts:Ts):TJ:=fun H x n wy=>∃ (dx de:Addr)(lv:V)(zq:List ip)(rs:List Rw),H x=some (.ins ts.told dx [("land",lv),("entries", .ref de)])/\Ag P w H de zq/\(∀ k,dj zq k=(dW rs k).map sh)/\(∀ r ∈ rs,∀ k ∈ r.s,k < 40)/\wy=IQ rs
theorem zE.keep {P:Program}{w:World}{ts:Ts}{H H':Hp}{x:Addr}{n:Nat}{wy:Wf}(h:zE P w ts H x n wy)(k:zG H H'):zE P w ts H' x n wy:=by
 obtain⟨dx,de,lv,zq,rs,h1,⟨h2,h3⟩,h4⟩:=h
 exact⟨dx,de,lv,zq,rs,k _ _ h1 True.intro,⟨k _ _ h2 True.intro,fun y hy=>k _ _ (h3 y hy) True.intro⟩,h4⟩
theorem y8 {ks:List Nat}{z:Nat}(h:z ∈ mN (Yd.Ar ks 0)):z ∈ ks:=by
 have:=(mem_filter.mp h).2
 have h2:(Yd.Ar ks 0).testBit z=true:=this
 rw[qz,decide_eq_true_eq]at h2
 obtain⟨n,hn,e⟩:=Be.mp h2
 have:n=z:=by omega
 exact this ▸ hn
theorem tZ (m:Nat):(mN m).Nodup:=List.nodup_range.filter _
theorem rq {rs:List Rw}{n:Nat}(h:∀ r ∈ rs,∀ k ∈ r.s,k < n)(p g:Nat)(k:Option Nat):(∀ z ∈ IQ rs p g k,z < n)/\(IQ rs p g k).length <= n:=by
 have h1:∀ z ∈ IQ rs p g k,z < n:=fun z hz=>by
  unfold IQ lK at hz
  cases hl:dW rs (bq ⟨(p:Int),(g:Int),k,[]⟩) with
  | none=>rw[hl]at hz;exact absurd hz (by show z ∉ mN 0;intro h;cases h)
  | some r=>rw[hl]at hz;exact h r (mG hl) z (y8 hz)
 exact⟨h1,dQ n _ (tZ _) h1⟩
theorem nL {ts:Ts}{f:Addr}{fd:FuncData}(G:zg P w K mg base aD 3 f fd ["self", "place", "goal", "came"] (pz P w ts)):zg P w K mg base aD 3 f fd ["self", "place", "goal", "came"] (fM (zE P w ts)) :=
 G.imp fun vs H Q E zk=>by
 obtain⟨x,n,wy,p,g,k,e,⟨dx,de,lv,zq,rs,h1,h2,h3,h4,h5⟩,hp,hg,q⟩:=zk
 exact⟨x,dx,de,lv,zq,⟨(p:Int),(g:Int),k,[]⟩,lK rs (bq ⟨(p:Int),(g:Int),k,[]⟩),e,h1,h2,by
  rw[h3]
  unfold lK
  cases dW rs (bq ⟨(p:Int),(g:Int),k,[]⟩)<;>rfl,by
  unfold lK
  cases hl:dW rs (bq ⟨(p:Int),(g:Int),k,[]⟩) with
  | none=>exact Nat.two_pow_pos _
  | some r=>exact lt_of_lt_of_le (xv (h4 r (mG hl))) (Nat.pow_le_pow_right (by decide) (by decide)),fun H' D s' hD=>q D _ (s'.new hD) (s'.free hD) (by rw[ac,h5];rfl)⟩
theorem wn {sel:Int × Int->Int}{ps:List (Int × Int)}{pl:Int}{g:TG}{tt:TT}{te:TE}{σ0:St}{H:Hp}{Q:VK}(hn:ps.length < sizeLine)
  (hs:∀ (i:Nat)(acc:List V)(N:List V->Hp->Prop)(pr:Int × Int),ps[i]? = some pr->N (if decide (sel pr=pl)=true then acc ++ [V.int i] else acc) H->g (.int i) σ0 H fun σ2 H2=>tt σ2 H2 fun b H3=>if b=true then te σ2 H3 fun y H4=>N (acc ++ [y]) H4 else N acc H3)
  (hq:∀ D,H D=none->Q (.ref D) (upd H D (.lst (aZ (gy sel ps pl))))):c9 (uJ 0 ps.length) g tt te σ0 Q H:=by
 refine mX (lo:=0) (fun k=>decide (sel (ps.getD k (0,0))=pl)) (fun k=>V.int k) hn (fun i acc N hi h=>?_) hq
 obtain⟨pr,Cp⟩:∃ pr,ps[i]? = some pr:=⟨ps[i],getElem?_eq_getElem hi⟩
 have eg:ps.getD i (0,0)=pr:=by rw[getD_eq_getElem?_getD,Cp];rfl
 rw[zero_add]
 rw[eg]at h
 exact hs i acc N pr Cp h
noncomputable def Rq (x:Addr)(H:Hp)(v:V)(r:Rw):Prop:=∃ t l,v = .ref t/\GY H t l r/\l ≠ x
noncomputable abbrev BI (x:Addr)(H:Hp):List V->List Rw->Prop:=Paired (Rq x H)
theorem BI.imp {x:Addr}{H H':Hp}{G:V->Rw->Prop}(h:∀ v r,Rq x H v r->G v r):∀ {vs:List V}{rs:List Rw},BI x H vs rs->Paired G vs rs:=fun zk=>by
 induction zk with
 | nil=>exact .nil
 | cons z r ih=>exact .cons (h _ _ z) ih
theorem BI.rws {x:Addr}{H:Hp}{vs:List V}{rs:List Rw}(h:BI x H vs rs):CO H vs rs:=BI.imp (H':=H) (fun _ _ ⟨t,l,e,z,_⟩=>⟨t,l,e,z⟩) h
theorem BI.same {x:Addr}{H H':Hp}(s:zf H H'){vs:List V}{rs:List Rw}(h:BI x H vs rs):BI x H' vs rs:=BI.imp (H':=H) (fun _ _ ⟨t,l,e,z,n⟩=>⟨t,l,e,z.same s,n⟩) h
theorem BI.off {x:Addr}{H:Hp}{xs:List V}{o:HO}(hx:H x=some (.lst xs)){vs:List V}{rs:List Rw}(h:BI x H vs rs):BI x (upd H x o) vs rs :=
 BI.imp (H':=H) (fun _ _ zk=>by obtain⟨t,l,e,z,n⟩:=zk;exact⟨t,l,e,⟨by rw[ae (b8 z.1 hx (by intro z;cases z))];exact z.1,by rw[ae n];exact z.2⟩,n⟩) h
theorem BI.snoc {x:Addr}{H:Hp}{v:V}{r:Rw}(h:Rq x H v r):∀ {vs:List V}{rs:List Rw},BI x H vs rs->BI x H (vs ++ [v]) (rs ++ [r]):=fun zk=>by
 induction zk with
 | nil=>exact .cons h .nil
 | cons z t ih=>exact .cons z ih
theorem qT (us:List Nat)(k:Nat):aZ us ++ [V.int (k:Int)]=aZ (us ++ [k]):=by unfold aZ;rw[map_append];rfl
noncomputable def iK (m:Nat):List (Option Nat):=none :: (List.range m).map some
theorem yY (m:Nat):[V.zD] ++ ((List.range m).map fun k:Nat=>V.int (k:Int))=(iK m).map cV:=by
 unfold iK
 rw[map_cons,map_map]
 rfl
theorem uB {m j:Nat}{v:V}(h:((iK m).map cV)[j]? = some v):∃ c,v=cV c/\Rn c=j/\∀ k,c=some k->k < m:=by
 rw[getElem?_map]at h
 cases j with
 | zero=>exact⟨none,(Option.some.inj h).symm,rfl,fun k e=>by cases e⟩
 | succ j =>
  unfold iK at h
  rw[List.getElem?_cons_succ,getElem?_map]at h
  by_cases hj:j < m
  ·rw[List.getElem?_range hj]at h
   exact⟨some j,(Option.some.inj h).symm,rfl,fun k e=>by cases e;exact hj⟩
  ·rw[List.getElem?_eq_none (by rw[length_range];omega)]at h
   cases h
theorem Rr (m k:Nat):decide (V.int (Builtin.bitAnd ((m:Int) / 2 ^ (k:Int).toNat) 1)=V.int 1)=m.testBit k:=by
 rw[jH,toNat_natCast,← Yd.CK m k]
theorem iI {K:Frag}{a:Addr}{xs:List Nat}{g:TG}{tt:TT}{te:TE}{σ0:St}{H:Hp}{Q:VK}(q:Nat->Bool)(hn:xs.length < sizeLine)(ha:zj K H a (aZ xs))
  (hs:∀ (k:Nat)(acc:List V)(N:List V->Hp->Prop),k ∈ xs->N (if q k then acc ++ [V.int (k:Int)] else acc) H->g (.int (k:Int)) σ0 H fun σ2 H2=>tt σ2 H2 fun b H3=>if b=true then te σ2 H3 fun y H4=>N (acc ++ [y]) H4 else N acc H3)
  (hq:∀ D,H D=none->Q (.ref D) (upd H D (.lst (aZ (xs.filter q))))):c9 (rp K a) g tt te σ0 Q H:=by
 refine ik (xs:=aZ xs) (fun v=>match v with | .int k=>q k.toNat | _=>false) (fun v=>v) (by unfold aZ;rw[length_map];exact hn) ha (fun x acc N hx h=>?_) fun D hD=>?_
 ·obtain⟨k,hk,rfl⟩:=mem_map.mp hx
  exact hs k acc N hk h
 ·have e:((aZ xs).filter (fun v=>match v with | .int k=>q k.toNat | _=>false)).map (fun v=>v)=aZ (xs.filter q):=by
   unfold aZ
   rw[List.map_id'',List.filter_map]
   ·congr 1
   ·intro _;rfl
  rw[e]
  exact hq D hD
noncomputable def NW (w:Nat × List Nat):PyData := .tuple [.int w.1, .tuple (w.2.map fun z:Nat => .int z)]
theorem yO {K:Frag}{H:Hp}{v:V}{w:Nat × List Nat}(h:Eu H v w):jX K H v (NW w):=by
 obtain⟨t,u,rfl,h1,h2⟩:=h
 exact .tup (zt.of h1) (.cons (.int _) (.cons (.tup (zt.of h2) (eO _)) .nil))
theorem wk {K:Frag}{H:Hp}:∀ {vs:List V}{ws:List (Nat × List Nat)},Paired (Eu H) vs ws->iW K H vs (ws.map NW):=fun zk=>by
 induction zk with
 | nil=>exact .nil
 | cons h r ih=>exact .cons (yO h) ih
theorem xt (ws:List (Nat × List Nat)):Bx (.list (ws.map NW)) 64:=(fq (m:=2) fun z hz=>by
 obtain⟨w,_,rfl⟩:=mem_map.mp hz
 refine dM (m:=1) fun y hy=>?_
 simp only[mem_cons,not_mem_nil,or_false]at hy
 rcases hy with rfl | rfl
 ·exact(cy _).le (by decide)
 ·refine dM (m:=0) fun y hy=>?_
  obtain⟨u,_,rfl⟩:=mem_map.mp hy
  exact cy _).le (by decide)
end K67
namespace L2
open PySem PySem.Spec PyProof.Rows
theorem zg.ex {P:Program}{w:World}{K:Frag}{mg:Str->Option Value}{base:Heap}{CX:lJ}{k:Nat}{f:Addr}{fd:FuncData}{ps:List Str} {ι:Type} {sp:ι->Sp} (h:∀ i,zg P w K mg base CX k f fd ps (sp i)):zg P w K mg base CX k f fd ps (fun vs H Q E=>∃ i,sp i vs H Q E) :=
 ⟨fun vs H Q E zk=>by obtain⟨i,q⟩:=zk;exact(h i).len vs H Q E q,fun A outer s H args us vs Q E hr he hb hv zk=>by obtain⟨i,hs⟩:=zk;exact(h i).run A outer s H args us vs Q E hr he hb hv hs⟩
end L2
namespace K67
open PySem L2
variable {P:Program}{w:World}{K:Frag}{mg:Str->Option Value}{base:Heap}
noncomputable def kX (la:Addr)(S:Hp->Prop)(Ok:List V->Nat->Prop):Sp:=fun vs H Q _=>∃ (p:Addr)(zK Bn:List V)(k:Nat),vs=[.ref p]/\H p=some (.lst zK)/\p ≠ la/\H la=some (.lst Bn)/\Ok Bn (k + 1)/\(∀ H',zo [la] H H'->S H') /\
 ∀ (LJ:List V)(d:Int)(H':Hp),zo [la] H H'->H' la=some (.lst LJ)->Ok LJ k->Q (.int d) H'
noncomputable def kW (K:Frag)(c:Cs)(TC:Addr)(J:TJ)(ys:Ys)(pk la:Addr)(S:Hp->Prop)(Ok:List V->Nat->Prop):Sp:=fun vs H Q _=>∃ (a:YA)(s:YS)(most:Int)(Bn:List V),vs=[.ref a.y, .ref pk, .int most]/\B6 K c TC J ys H a s/\Ab a s/\la ∈ ys.ex/\la ∉ a.four/\H la=some (.lst Bn)/\Ok Bn most.toNat/\s.done.length <= 20000/\most <= 10000/\(∀ H',zo (la :: a.four) H H'->S H') /\
 ∀ (D:Addr)(zP Bn:List V)(n:Nat)(s':YS)(H':Hp),zo (la :: a.four) H H'->zW K ys H' a s'->Ab a s'->Et a s n s'->H D=none->H' D=some (.lst zP)->zP.length=n->H' la=some (.lst Bn)->Ok Bn (most.toNat - n)->(n:Int) <= max 0 most->((n:Int) < most->bT a s' = [])->Q (.ref D) H'
noncomputable abbrev NRu:List Str:=["yard", "pick", "most", "made", "moves", "number", "move"]
theorem Du:ao NRu ["yard", "pick", "most"] (ah xD):=L2.zQ
theorem yj {c:Cs}{ys:Ys}{J:TJ}{TC f fw fm VI pk la:Addr}{fd dw dm dd dp:FuncData}{S:Hp->Prop}{Ok:List V->Nat->Prop}(F:zH K "run" "run" xD f fd)(T:eW mg)(Y:fU K ys)(W:Wy K TC fw dw J)
  (mm:bA K ys.zi "moves" fm) (bm:Binds K dm ["self"] []) (Gm:∀ ex,zg P w K mg base aD 7 fm dm ["self"] (gK K c TC J (yx ys ex)))
  (md:bA K ys.zi "do" VI) (bd:Binds K dd ["self", "move"] []) (Gd:∀ ex,zg P w K mg base (e7 P w) 8 VI dd ["self", "move"] (uR K c TC J (yx ys ex)))
  (hp:PySem.W.FnAt pk base) (bp:Binds K dp ["_law_moves"] []) (Gp:zg P w K mg base aD 3 pk dp ["_law_moves"] (kX la S Ok)) :
  zg P w K mg base aD 9 f fd ["yard", "pick", "most"] (kW K c TC J ys pk la S Ok):=by
 refine F.ok Du (fun _ _ _ _ h=>?_) (fun _ _ _ s H _ Q E hr h=>?_)
 ·obtain⟨a,s,most,Bn,rfl,_⟩:=h
  rfl
 ·obtain⟨a,st,most,Rt,rfl,hI,hJ,hlx,NP,Ac,Ru,UC,hmo,Hh,q⟩:=h
  have EU:zm 3 _:=hr.mono (by decide)
  have IS:zm 7 _:=hr.mono (by decide)
  have GM:=zg.ex Gm
  have GD:=zg.ex Gd
  refine⟨_,af (az (i:=3) Du.nd rfl (Or.inl rfl) (aP ad))
   (af (az (i:=4) Du.nd rfl (Or.inl rfl) (b7 (pv 0) Y.cl mm GM IS bm .nil ap))
   (af (sN PassesOwn.never (PW.pt (iy (fA (pv 4) (fun _=>rfl)) (fN (au k8 (aw aq rfl T.len PySem.boot_len (aa (pv 3) ad)) (pv 2) (ax _)))))
    (af (az (i:=5) Du.nd rfl (Or.inl rfl) (sU (i:=1) Gp hp EU rfl (Or.inl rfl) bp .nil ap (aa (aY bU rfl T.list PySem.Pv.boot_list (aa (pv 4) ad)) ad)))
    (af (az (i:=6) Du.nd rfl (Or.inl rfl) (aA aQ (pv 4) (aB bH (pv 5) (aw aq rfl T.len PySem.boot_len (aa (pv 4) ad))) (fun _ _=>rfl)))
    (af (aN (aC (pv 0) Y.cl md GD hr bd .nil i5 (aa (pv 6) ad)))
    (af (aN (cv plainAttrs_list PySem.F.slot_list_append PySem.F.type_list_append bD (pv 3) (aa (pv 6) ad)))
    (ai (az (i:=4) Du.nd rfl (Or.inl rfl) (b7 (pv 0) Y.cl mm GM IS bm .nil ap))))))))
   (ai (ar (pv 3))))),?_⟩
  refine⟨zero_le _,fun D hD=>?_⟩
  have s1:=(zf.refl H).new (o := .lst []) hD
  have NX:(upd H D (.lst [])) D=some (.lst []):=ac
  generalize upd H D (.lst [])=H1 at s1 NX ⊢
  have Bg:zW K (yx ys (D :: ys.ex)) H1 a st:=zW.IM (e:=ys.ex) hI.Y s1 fun b hb=>by
   rcases mem_cons.mp hb with rfl | hb
   ·exact .inr ⟨hD,_,NX⟩
   ·exact .inl hb
  have Ba:B6 K c TC J (yx ys (D :: ys.ex)) H1 a st:=⟨Bg,An.keep W hI.T (zf.zC s1),hI.O,hI.G⟩
  have four:∀ z ∈ la :: a.four,∃ xs,H z=some (.lst xs):=fun z hz=>by
   rcases mem_cons.mp hz with rfl | hz
   ·exact⟨_,Ac⟩
   ·exact hI.Y.AS z hz
  have LK:∀ z,H z=none->z ∉ la :: a.four:=fun z hz hm=>by obtain⟨xs,e⟩:=four z hm;rw[hz]at e;cases e
  have nD:=LK D hD
  refine⟨_,rfl,a.y,a.dy,_,rfl,Bg.ins,rfl,D :: ys.ex,a,st,rfl,Ba,fun M zK H2 s2 hM gM pM=>?_⟩
  have IG:=s1.trans s2
  refine⟨fun m σ H'=>∃ (a5 a6:Option V)(M:Addr)(zK zP Bn:List V)(n:Nat)(s':YS),m=most.toNat - n/\zo (la :: a.four) H H'/\zW K (yx ys (D :: ys.ex)) H' a s'/\Ab a s'/\s'.done.length=st.done.length + n/\Et a st n s'/\H' D=some (.lst zP)/\zP.length=n/\H' la=some (.lst Bn)/\Ok Bn (most.toNat - n)/\(n:Int) <= max 0 most/\H M=none/\M ≠ D/\H' M=some (.lst zK)/\Paired (AQ H') zK ((bT a s').map fW) /\
    σ=[some (.ref a.y),some (.ref pk),some (.int most),some (.ref D),some (.ref M),a5,a6],
   ⟨most.toNat - 0,none,none,M,zK,[],Rt,0,st,rfl,zf.zS IG,zu.same Bg s2,hJ,rfl, .nil,s2 _ _ NX,rfl,IG _ _ Ac,Ru,by show (0:Int) <= _;omega,s1.free hM,Ne.symm (ag NX hM),gM,pM,rfl⟩,?_⟩
  rintro m σ H3 ⟨a5,a6,M,zK,zP,Bn,n,s',rfl,o3,B5,LL,AR,VJ,IT,Cu,LM,VL,hlen,nM,nMD,Rv,VM,rfl⟩
  have Hy:zK.length=(bT a s').length:=by rw[Paired.length VM,length_map]
  have fin:((n:Int) < most->bT a s' = [])->Q (.ref D) H3:=fun h2 =>
   q D zP Bn n s' H3 o3 (zW.IM (e:=D :: ys.ex) (e':=ys.ex) B5 (zf.refl _) fun b hb => .inl (mem_cons_of_mem _ hb)) LL VJ hD IT Cu LM VL hlen h2
  refine⟨_,rfl,_, .inl ⟨zK,zj.of Rv,rfl⟩,?_⟩
  cases VN:zK.isEmpty with
  | true =>
   refine aI (aI ⟨_,rfl,fin fun _=>?_⟩)
   have:zK=[]:=isEmpty_iff.mp VN
   rw[this]at Hy
   exact length_eq_zero_iff.mp Hy.symm
  | false =>
  refine aJ ⟨_,rfl,D,_,rfl, .inl (zj.of IT),_,rfl,_,_,rfl,rfl,_,rfl,?_⟩
  rw[Cu]
  by_cases Rx:(n:Int) < most
  rotate_left
  ·rw[decide_eq_false Rx]
   exact aI ⟨_,rfl,fin fun h=>absurd h Rx⟩
  rw[decide_eq_true Rx]
  have HI:0 < zK.length:=by
   cases zK with
   | nil=>cases VN
   | cons _ _=>exact Nat.succ_pos _
  have LN:∀ z ∈ la :: a.four,∃ xs,H3 z=some (.lst xs):=fun z hz=>by
   rcases mem_cons.mp hz with rfl | hz
   ·exact⟨_,LM⟩
   ·exact B5.AS z hz
  have old3:∀ z,H3 z=none->H z=none:=fun z hz=>by
   cases e:H z with
   | none=>rfl
   | some o =>
    by_cases hm:z ∈ la :: a.four
    ·obtain⟨xs,g⟩:=LN z hm;rw[hz]at g;cases g
    ·rw[o3 z o hm e]at hz;cases hz
  have Ry:la ≠ D:=fun e=>nD (by rw[e];exact mem_cons_self)
  refine aJ ⟨fun σ' H'=>∃ (M:Addr)(zK zP Bn:List V)(s1:YS)(mv:Mv)(a5 a6:Option V),zo (la :: a.four) H H'/\zW K (yx ys (D :: ys.ex)) H' a (uI s' s1 mv)/\Bz a s' mv s1/\H' D=some (.lst zP)/\zP.length=n + 1/\H' la=some (.lst Bn)/\Ok Bn (most.toNat - (n + 1))/\H M=none/\M ≠ D/\H' M=some (.lst zK)/\Paired (AQ H') zK ((bT a (uI s' s1 mv)).map fW) /\
    σ' = [some (.ref a.y),some (.ref pk),some (.int most),some (.ref D),some (.ref M),a5,a6],fun σ' H' hh=>?_,?_⟩
  ·obtain⟨M,zK,zP,Bn,s1,mv,a5,a6,h1,h2,h4,h5,h6,h7,h8,h9,h10,h11,h12,h13⟩:=hh;refine⟨most.toNat - (n + 1),by omega,a5,a6,M,zK,zP,Bn,n + 1,uI s' s1 mv,rfl,h1,h2,(LL.step h4).done _,?_, .snoc VJ h4,h5,h6,h7,h8,by omega,h9,h10,h11,h12,h13⟩
   show(s'.done ++ [_]).length=_
   rw[length_append,length_singleton];omega
  refine⟨rfl,_,rfl,M,zK,rfl, .inl (zj.of Rv),fun p hp=>?_⟩
  have s4:=(zf.refl H3).new (o := .lst zK) hp
  have Cw:most.toNat - n=most.toNat - (n + 1) + 1:=by omega
  refine⟨p,zK,Bn,most.toNat - (n + 1),rfl,ac,Ne.symm (ag LM hp),s4 _ _ LM,Cw ▸ VL,fun H' o'=>Hh H' fun b o hb e=>o' b o (fun z=>hb (by rw[mem_singleton.mp z];exact mem_cons_self)) (s4 _ _ (o3 b o hb e)),fun Rz d H5 o5 VO R0=>?_⟩
  have LO:zo [la] H3 H5:=fun b o hb e=>o5 b o hb (s4 _ _ e)
  clear o5
  have k35:zG H3 H5:=zo.zC (fun b hb=>by rw[mem_singleton.mp hb];exact⟨_,LM⟩) LO
  have En:zW K (yx ys (D :: ys.ex)) H5 a s':=zW.L7 B5 LO (fun b hb=>by rw[mem_singleton.mp hb];exact mem_cons_of_mem _ hlx) (fun b hb z=>NP (by rw[← mem_singleton.mp z];exact hb)) fun b hb=>by rw[mem_singleton.mp hb];exact⟨_,VO⟩
  have n1:∀ {z:Addr},z ∉ la :: a.four->z ∉ [la]:=fun h z=>h (by rw[mem_singleton.mp z];exact mem_cons_self)
  have VP:=LO _ _ (n1 (LK M nM)) Rv
  have gD5:=LO _ _ (n1 nD) IT
  have o5:zo (la :: a.four) H H5:=o3.trans (LO.mono fun b hb=>by rw[mem_singleton.mp hb];exact mem_cons_self)
  have pM5:=Paired.mono (fun v m z=>AQ.keep k35 z) VM
  have k5:zG H H5:=zo.zC four o5
  have np:(0:Int) < ((zK.length:Nat):Int):=by omega
  have z1:=emod_nonneg (d) (show((zK.length:Nat):Int) ≠ 0 by omega)
  have z2:=emod_lt_of_pos (d) np
  obtain⟨k,hk,hkm⟩:∃ k:Nat,d % ((zK.length:Nat):Int)=(k:Int)/\k < zK.length:=⟨(d % ((zK.length:Nat):Int)).toNat,by omega,by omega⟩
  have R1:=getElem?_eq_getElem hkm
  obtain⟨mv,EV,pm,hpe,hpm⟩:=Paired.at pM5 R1
  obtain⟨m,hmk,rfl⟩:∃ m,(bT a s')[k]? = some m/\fW m=mv:=by
   rw[getElem?_map]at EV
   cases hx:(bT a s')[k]? with
   | none=>rw[hx]at EV;cases EV
   | some m=>rw[hx]at EV;exact⟨m,rfl,Option.some.inj EV⟩
  rw[hpe]at R1
  refine⟨_,rfl,_,rfl,_,rfl,M,_,rfl, .inl (zj.of VP),_,_,rfl,rfl,np,M,zK,(k:Int), .ref pm,rfl,congrArg V.int hk,zj.of VP,ak R1,?_⟩
  have hI5:B6 K c TC J (yx ys (D :: ys.ex)) H5 a s':=⟨En,An.keep W hI.T k5,hI.O,LL.ok⟩
  refine⟨_,rfl,a.y,a.dy,_,rfl,En.ins,rfl,_,rfl,D :: ys.ex,a,s',pm,m,rfl,hI5,hpm,mem_of_getElem? hmk,LL.sml (by omega),fun H6 s6 D9 o6 hY6=>?_⟩
  have n4:∀ {z:Addr},z ∉ la :: a.four->z ∉ a.four:=fun h z=>h (mem_cons_of_mem _ z)
  have k56:zG H5 H6:=zo.zC (fun z hz=>En.AS z hz) o6
  have R3:=o6 _ _ (n4 nD) gD5
  have ga6:=o6 _ _ NP VO
  refine⟨_,rfl, .inl ⟨rfl,_,zj.of R3⟩,_,rfl,D,zP, .ref pm,rfl,rfl,R3,by rw[sizeLine_eq];omega,?_⟩
  have LP:zo [D] H6 (upd H6 D (.lst (zP ++ [.ref pm]))):=fun b o hb e=>by rw[ae (fun z=>hb (by rw[z];exact mem_cons_self))];exact e
  have NY:(upd H6 D (.lst (zP ++ [.ref pm]))) D=some (.lst (zP ++ [.ref pm])):=ac
  generalize upd H6 D (.lst (zP ++ [.ref pm]))=H7 at LP NY ⊢
  have k67:zG H6 H7:=zo.zC (fun b hb=>by rw[mem_singleton.mp hb];exact⟨_,R3⟩) LP
  have NZ:zW K (yx ys (D :: ys.ex)) H7 a (uI s' s6 m):=zW.L7 hY6 LP (fun b hb=>by rw[mem_singleton.mp hb];exact mem_cons_self) (fun b hb z=>nD (by rw[← mem_singleton.mp z];exact mem_cons_of_mem _ hb)) fun b hb=>by rw[mem_singleton.mp hb];exact⟨_,NY⟩
  have o7:zo (la :: a.four) H H7:=fun b o hb e=>LP b o (fun z=>by rw[mem_singleton.mp z,hD]at e;cases e) (o6 b o (n4 hb) (o5 b o hb e))
  have k7:zG H H7:=zo.zC four o7
  have hJ7:Ab a (uI s' s6 m):=(LL.step D9).done _
  have IU:B6 K c TC J (yx ys (D :: ys.ex)) H7 a (uI s' s6 m):=⟨NZ,An.keep W hI.T k7,hI.O,hJ7.ok⟩
  have VQ:=LP la _ (fun z=>Ry (mem_singleton.mp z)) ga6
  refine⟨_,rfl,a.y,a.dy,_,rfl,NZ.ins,rfl,D :: ys.ex,a,uI s' s6 m,rfl,IU,fun M8 R4 H8 s8 IV gM8 pM8=>?_⟩
  have R5:H M8=none:=by
   cases e:H M8 with
   | none=>rfl
   | some o =>
    by_cases hm:M8 ∈ la :: a.four
    ·rcases mem_cons.mp hm with z | z
     ·rw[z,VQ]at IV;cases IV
     ·obtain⟨xs,g⟩:=NZ.AS M8 z;rw[IV]at g;cases g
    ·rw[o7 M8 o hm e]at IV;cases IV
  exact⟨M8,R4,zP ++ [.ref pm],Rz,s6,m,_,_,fun b o hb e=>s8 _ _ (o7 b o hb e),zu.same NZ s8,D9,s8 _ _ NY,by rw[length_append,length_singleton,Cu],s8 _ _ VQ,R0,R5,Ne.symm (ag NY IV),gM8,pM8,rfl⟩
noncomputable def kZ (K:Frag)(c:Cs)(TC:Addr)(J:TJ)(ys:Ys):Sp:=fun vs H Q _=>∃ (a:YA)(s:YS),vs=[.ref a.y]/\B6 K c TC J ys H a s/\s.U.length <= 900/\∀ H',zf H H'->Q (.int (l4 s * ((2 * a.ps.length + 1:Nat):Int))) H'
theorem FZ:ao ["yard", "pieces"] ["yard"] (ah lU):=L2.zQ
noncomputable def R6 (s:Stmt):Scope:=match s with
 | .Assign _ (.Call _ (.ListComp _ _ sc _ :: _) _ _) _=>sc
 | _=>zQ0
theorem LQ:As ["yard", "pieces"] (ah lU) (R6 ((aG lU).getD 0 (.Pass ⟨0,0,0,0⟩))) ["yard"] [0]:=L2.Bs
theorem LR:(["number", "yard"]:List Str).Nodup:=by decide +kernel
theorem qf {H:Hp}:∀ {vs:List V}{l:List aU},Paired (fun (v:V)(t:aU)=>v = .int t.len) vs l->vs=(l.map (·.len)).map V.int
 | _,_, .nil=>rfl
 | _,_, .cons h r=>by rw[h,qf (H:=H) r];rfl
theorem vC {c:Cs}{ys:Ys}{J:TJ}{TC f fw fp fl:Addr}{fd dw dp dl:FuncData}(F:zH K "most_moves" "most_moves" lU f fd)(T:eW mg)(L:nu K c)(Y:fU K ys)(W:Wy K TC fw dw J)
  (mp:bA K ys.zi "posted" fp) (bp:Binds K dp ["self"] []) (Gp:zg P w K mg base aD 1 fp dp ["self"] (jp K ys))
  (ml:bA K ys.zi "letter_told" fl) (bl:Binds K dl ["self", "number"] []) (Gl:zg P w K mg base aD 1 fl dl ["self", "number"] (lb K ys)) :
  zg P w K mg base aD 2 f fd ["yard"] (kZ K c TC J ys):=by
 refine F.ok FZ (fun _ _ _ _ h=>?_) (fun _ _ _ s H _ Q E hr h=>?_)
 ·obtain⟨a,s,rfl,_⟩:=h
  rfl
 ·obtain⟨a,st,rfl,hI,hl9,q⟩:=h
  refine⟨_,af (az (i:=1) FZ.nd rfl (Or.inl rfl) (aw (jQ rfl) rfl T.sum PyProof.Rows.boot_sum (aa (aT (own:=["number"]) (capN:=["yard"]) (cap:=[0]) LQ rfl (aX rfl T.range (aa (b7 (pv 0) Y.cl mp Gp hr bp .nil ap) ad)) (fun C s' H' fp=>⟨av (i:=0) LR rfl (Or.inl rfl),ck,aA (show n9 _ (j5 K) from aE) (aC (pv 1) Y.cl ml Gl hr bl .nil ap (aa (pv 0) ad)) aj (fun _ _=>rfl)⟩)) ad)))
   (ai (ar (aB gk (pv 1) (aB bN (aB gk aj (aw aq rfl T.len PySem.boot_len (aa (al (al (al (pv 0) rfl) rfl) rfl) ad))) aj)))),?_⟩
  have hY:=hI.Y
  refine⟨_,rfl,a.y,a.dy,_,rfl,hY.ins,rfl,a.y,a.dy,a.tb,a.ro,a.la,a.le,a.li,a.dn,st,rfl,hY,(st.U.length:Int),rfl,by omega,by omega,?_⟩
  rw[toNat_natCast]
  refine uu (R:=fun _ (v:V) (t:aU)=>v = .int t.len) (fun _ v t h=>h) st.U (by rw[sizeLine_eq];omega) (fun i t H1 N ht s1 hN=>?_) (fun D vs H1 s1 hD pD=>?_)
  ·have Bg:=zu.same hY s1
   exact⟨_,rfl,a.y,a.dy,_,rfl,Bg.ins,rfl,_,rfl,a.y,a.dy,a.tb,a.ro,a.la,a.le,a.li,a.dn,st,i,t,rfl,Bg,ht,fun tp H2 s2 EW=>⟨tp,_,2,_,rfl,rfl,zt.of EW,ak (j:=2) rfl,hN _ H2 s2 rfl⟩⟩
  have s2:=s1.new (o := .lst vs) hD
  have gD:(upd H1 D (.lst vs)) D=some (.lst vs):=ac
  generalize upd H1 D (.lst vs)=H2 at s2 gD ⊢
  rw[qf (H:=H) pD]at gD
  have AH:=hI.same W s2
  obtain⟨Bf,fst,AJ,zM,Af⟩:=AH.T.i
  have FY:a.zw.length=a.ps.length:=Paired.length AH.T.l.2.2
  refine⟨D,_,rfl,zj.of gD,?_⟩
  refine⟨_,rfl,_,rfl,a.y,ys.zi,a.dy,_,_,rfl,AH.Y.ins,Y.cl,Y.n1,rfl,a.tb,TC,Bf,fst,_,rfl,AJ,W.cl,W.nl,zM,a.lx,c.land,a.zX,_,_,rfl,AH.T.l.1,L.cl,L.nl,rfl,a.lt,_,rfl, .inr (zt.of AH.T.l.2.1),_,_,rfl,rfl, .inl ⟨by decide,by decide⟩,_,_,rfl,rfl,_,_,rfl,rfl, .inr ?_,?_⟩
  ·have:=AH.T.Ao
   rw[FY]
   exact⟨by show -(2 ^ 64) < 2 * ((a.ps.length:Nat):Int) + 1;omega,by show 2 * ((a.ps.length:Nat):Int) + 1 < 2 ^ 64;omega⟩
  ·rw[FY]
   show Q (.int ((st.U.map (·.len)).sum * (2 * ((a.ps.length:Nat):Int) + 1))) H2
   rw[show(2 * ((a.ps.length:Nat):Int) + 1)=((2 * a.ps.length + 1:Nat):Int) by omega]
   exact q H2 s2
noncomputable def rP:Sp:=fun vs H Q _=>∃ (c:Int)(k:Nat),vs=[.int c, .int k]/\k <= 1000000/\∀ d:Int,0 <= d->d < 2147483647->Q (.int d) H
noncomputable def gN:Sp:=fun vs H Q _=>∃ (cl:Int)(am:Nat)(bs:Int),vs=[.int cl, .int am, .int bs]/\am <= 20000/\1 <= bs/\bs < 1000000/\∀ (D:Addr)(ds:List Int)(H':Hp),zf H H'->H D=none->H' D=some (.lst (ds.map V.int))->ds.length=am->(∀ d ∈ ds,0 <= d)->Q (.ref D) H'
noncomputable def pC (K:Frag):Sp:=fun vs H Q _=>∃ (sc:Addr)(ns:List Int)(n:Nat),vs=[.ref sc, .int n]/\zj K H sc (ns.map V.int)/\2 <= n/\n <= 12/\∀ (D:Addr)(zv:List V)(ps:List (Int × Int))(H':Hp),zf H H'->H D=none->H' D=some (.lst zv)->zN H' zv ps->(∀ p ∈ ps,iO n p=true)->2 <= ps.length->ps.length <= 6->Q (.ref D) H'
theorem jT {H H2:Hp}{D t1:Addr}{zv:List V}{ps:List (Int × Int)}{x y:Int}(hD:H D=none)(s2:zf H H2)(gD:H2 D=some (.lst zv))(Gh:zN H2 zv ps)(h1:H2 t1=none) :
  (upd H2 t1 (.tup [.int x, .int y])) D=some (.lst zv)/\zf H (upd (upd H2 t1 (.tup [.int x, .int y])) D (.lst (zv ++ [.ref t1])))/\zN (upd (upd H2 t1 (.tup [.int x, .int y])) D (.lst (zv ++ [.ref t1]))) (zv ++ [.ref t1]) (ps ++ [(x,y)]):=by
 have u1:=(zf.refl H2).new (o := .tup [.int x, .int y]) h1
 have v1:(upd H2 t1 (.tup [.int x, .int y])) t1=some (.tup [.int x, .int y]):=ac
 generalize upd H2 t1 (.tup [.int x, .int y])=H3 at u1 v1 ⊢
 have IT:=u1 _ _ gD
 have kk:zG H3 (upd H3 D (.lst (zv ++ [.ref t1]))):=jE IT
 exact⟨IT,fun b o e=>by rw[ae (ag e hD)];exact u1 _ _ (s2 _ _ e),zN.snoc (p:=(x,y)) ⟨t1,rfl,kk _ _ v1 True.intro⟩ (kk.Di (zN.same u1 Gh))⟩
theorem tM {n x y:Int}(h1:0 <= x)(h2:x < n)(h3:0 <= y)(h4:y < n)(h5:x ≠ y):iO n (x,y)=true:=by
 unfold iO
 simp only[Bool.and_eq_true,decide_eq_true_eq,Bool.not_eq_true',decide_eq_false_iff_not]
 exact⟨⟨by omega,by omega⟩,⟨by omega,by omega⟩,h5⟩
theorem pI {n x o:Int}(h1:0 <= x)(h2:x < n)(h3:0 <= o)(h4:o < n - 1):0 <= (x + 1 + o) % n/\(x + 1 + o) % n < n/\x ≠ (x + 1 + o) % n:=by
 have HK:0 < n:=by omega
 refine⟨emod_nonneg _ (by omega),emod_lt_of_pos _ HK,fun z=>?_⟩
 rcases Int.lt_or_le (x + 1 + o) n with h | h
 ·rw[emod_eq_of_lt (by omega) h]at z;omega
 ·rw[show x + 1 + o=(x + 1 + o - n) + n by omega,Int.add_emod_right,emod_eq_of_lt (by omega) (by omega)]at z;omega
theorem vD {f:Addr}{fd:FuncData}(F:zH K "_law_mixed" "_law_mixed" xH f fd):zg P w K mg base aD 1 f fd ["_law_cell", "_law_k"] rP:=by
 refine F.ok F6 (fun _ _ _ _ h=>?_) (fun _ _ _ s H _ Q E hr h=>?_)
 ·obtain⟨c,k,rfl,_⟩:=h
  rfl
 ·obtain⟨c,k,rfl,hk,q⟩:=h
  refine⟨_,af (az (i:=2) F6.nd rfl (Or.inl rfl) (aB bH (aB gk (aB bN (aB bN (aB bH (pv 0) aj) (aB gk aj (pv 1))) aj) aj) aj))
   (ai (ar (aB bH (aB gk (pv 2) (aB bN (aB c3 (pv 2) aj) aj)) aj))),?_⟩
  have pos:(0:Int) < 2147483647:=by decide
  refine⟨_,rfl,_,_,rfl,rfl,pos,_,rfl,_,_,rfl,rfl, .inl ⟨by decide,by decide⟩,_,_,rfl,rfl,_,_,rfl,rfl,_,_,rfl,rfl, .inr ⟨by decide,by decide⟩,_,_,rfl,rfl,pos,?_⟩
  dsimp only
  have h1:=emod_nonneg ((c % 2147483647 + 7919 * (k:Int) + 1) * 48271) (show (2147483647:Int) ≠ 0 by decide)
  have h2:=emod_lt_of_pos ((c % 2147483647 + 7919 * (k:Int) + 1) * 48271) pos
  generalize (c % 2147483647 + 7919 * (k:Int) + 1) * 48271 % 2147483647=m at h1 h2
  refine⟨_,rfl,_,rfl,_,_,rfl,rfl,⟨by decide,by decide⟩,_,_,rfl,rfl,_,_,rfl,rfl, .inl ⟨by omega,by omega⟩,_,_,rfl,rfl,pos,?_⟩
  exact q _ (emod_nonneg _ (by decide)) (emod_lt_of_pos _ pos)
noncomputable abbrev NDr:List Str:=["_law_cell", "_law_amount", "_law_base", "_law_drawn", "_law_rest", "_law_k", "_law_number"]
theorem Dv:ao NDr ["_law_cell", "_law_amount", "_law_base"] (ah oz):=L2.zQ
theorem tK {f fm:Addr}{fd dm:FuncData}(F:zH K "_law_draws" "_law_draws" oz f fd)(T:eW mg)(mm:mg "_law_mixed" = some (.ref fm))(km:keepIn K (.ref fm)=true)(bm:Binds K dm ["_law_cell", "_law_k"] [])(Gm:zg P w K mg base aD 1 fm dm ["_law_cell", "_law_k"] rP) :
  zg P w K mg base aD 2 f fd ["_law_cell", "_law_amount", "_law_base"] gN:=by
 refine F.ok Dv (fun _ _ _ _ h=>?_) (fun _ _ _ s H _ Q E hr h=>?_)
 ·obtain⟨cl,am,bs,rfl,_⟩:=h
  rfl
 ·obtain⟨cl,am,bs,rfl,ham,hb1,GN,q⟩:=h
  refine⟨_,af (az (i:=3) Dv.nd rfl (Or.inl rfl) (aP ad))
   (af (az (i:=4) Dv.nd rfl (Or.inl rfl) (aB c3 (pv 0) aj))
   (af (bR PassesOwn.never rfl (aX rfl T.range (aa (pv 1) ad)) (av (i:=5) Dv.nd rfl (Or.inl rfl))
    (ai (aM (au bK (aB bH (pv 0) aj) aj (ax _))
     (af (aN (cv plainAttrs_list PySem.F.slot_list_append PySem.F.type_list_append bD (pv 3) (aa (aB bH (pv 4) (pv 2)) ad)))
     (ai (az (i:=4) Dv.nd rfl (Or.inl rfl) (aB c3 (pv 4) (pv 2)))))
     (af (az (i:=6) Dv.nd rfl (Or.inl rfl) (ay Gm hr rfl mm km bm .nil ap (aa (pv 4) (aa (pv 5) ad))))
     (ai (aN (cv plainAttrs_list PySem.F.slot_list_append PySem.F.type_list_append bD (pv 3) (aa (aB bH (aB gk (pv 6) (aB bN (aB c3 (pv 6) aj) aj)) aj) ad))))))))
   (ai (ar (pv 3))))),?_⟩
  refine⟨zero_le _,fun D hD=>?_⟩
  have s0:=(zf.refl H).new (o := .lst []) hD
  refine⟨_,rfl,_,_,rfl,rfl,⟨by decide,by decide⟩,?_⟩
  dsimp only
  refine⟨_,rfl,(am:Int),rfl,by omega,by omega,?_⟩
  rw[toNat_natCast]
  refine bP (n:=am) (fun i σ H2=>∃ (a5 a6:Option V)(r:Int)(ds:List Int),zf H H2/\H2 D=some (.lst (ds.map V.int))/\ds.length=i/\(∀ d ∈ ds,0 <= d)/\σ=[some (.int cl),some (.int am),some (.int bs),some (.ref D),some (.int r),a5,a6])
   ⟨none,none,_,[],s0,ac,rfl,(fun d hd=>by cases hd),rfl⟩ ?_ ?_
  ·rintro i σ H2 hi ⟨a5,a6,r,ds,s2,gD,hl,R7,rfl⟩
   rw[zero_add]
   have more:∀ x:Int,0 <= x->zf H (upd H2 D (.lst (ds.map V.int ++ [.int x])))/\(upd H2 D (.lst (ds.map V.int ++ [.int x]))) D=some (.lst ((ds ++ [x]).map V.int))/\(ds ++ [x]).length=i + 1/\∀ d ∈ ds ++ [x],0 <= d:=fun x hx =>
    ⟨fun b o e=>by rw[ae (ag e hD)];exact s2 _ _ e,by rw[ac,map_append];rfl,by rw[length_append,hl];rfl,fun d hd=>by
     rcases mem_append.mp hd with hd | hd
     ·exact R7 d hd
     ·rw[mem_singleton.mp hd];exact hx⟩
   have hsz:(ds.map V.int).length < sizeLine:=by rw[length_map,sizeLine_eq];omega
   refine⟨_,rfl,_,_,rfl,rfl,(by show (0:Int) < 2;decide),rfl,_,rfl,?_⟩
   refine vY (fun _=>?_) fun _=>?_
   ·refine⟨_,rfl, .inl ⟨rfl,_,zj.of gD⟩,_,rfl,_,rfl,_,_,rfl,rfl,(by show 0 < bs;omega),D,_,_,rfl,rfl,gD,hsz,?_⟩
    obtain⟨m1,m2,m3,m4⟩:=more (r % bs) (emod_nonneg _ (by omega))
    exact⟨_,rfl,_,rfl,_,_,rfl,rfl,⟨by omega,by omega⟩,_,_,_,_,m1,m2,m3,m4,rfl⟩
   ·refine⟨_,rfl,_,rfl,r,i,rfl,by omega,fun d PQ hd2=>?_⟩
    have e1:0 <= d / 613:=Int.ediv_nonneg PQ (by decide)
    refine⟨_,rfl, .inl ⟨rfl,_,zj.of gD⟩,_,rfl,_,rfl,_,_,rfl,rfl,⟨by decide,by decide⟩,_,_,rfl,rfl,_,_,rfl,rfl, .inl ⟨by omega,by omega⟩,_,_,rfl,rfl,(by show (0:Int) < 2147483399;decide),D,_,_,rfl,rfl,gD,hsz,?_⟩
    obtain⟨m1,m2,m3,m4⟩:=more (d * (d / 613 + 40692) % 2147483399) (emod_nonneg _ (by decide))
    exact⟨_,_,_,_,m1,m2,m3,m4,rfl⟩
  ·rintro σ H2 ⟨a5,a6,r,ds,s2,gD,hl,R7,rfl⟩
   exact⟨_,rfl,q D ds H2 s2 hD gD hl R7⟩
noncomputable abbrev NLn:List Str:=["_law_script", "_law_places", "_law_amount", "_law_lanes_here", "_law_draw"]
theorem EX:ao NLn ["_law_script", "_law_places"] (ah oq):=L2.zQ
theorem tF {f fm fc:Addr}{fd dm dc:FuncData}(F:zH K "_law_lanes" "_law_lanes" oq f fd)(T:eW mg)(mm:mg "_law_draws" = some (.ref fm))(km:keepIn K (.ref fm)=true)(bm:Binds K dm ["_law_cell", "_law_amount", "_law_base"] [])(Gm:zg P w K mg base aD 2 fm dm ["_law_cell", "_law_amount", "_law_base"] gN)
  (mc:mg "_law_cell_at" = some (.ref fc)) (kc:keepIn K (.ref fc)=true) (bc:Binds K dc ["_law_script", "_law_k"] []) (Gc:zg P w K mg base aD 1 fc dc ["_law_script", "_law_k"] (nX K)):zg P w K mg base aD 3 f fd ["_law_script", "_law_places"] (pC K):=by
 refine F.ok EX (fun _ _ _ _ h=>?_) (fun _ _ _ s H _ Q E hr h=>?_)
 ·obtain⟨sc,ns,n,rfl,_⟩:=h
  rfl
 ·obtain⟨sc,ns,n,rfl,hS,CW,Qi,q⟩:=h
  have Ah:zm 1 _:=hr.mono (by decide)
  refine⟨_,af (az (i:=2) EX.nd rfl (Or.inl rfl) (aB bN aj (aB bH (aB c3 (ay Gc Ah rfl mc kc bc .nil ap (aa (pv 0) (aa aj ad))) aj) aj)))
   (af (az (i:=3) EX.nd rfl (Or.inl rfl) (aP ad))
   (af (bR PassesOwn.never rfl (bx (ay Gm hr rfl mm km bm .nil ap (aa (aB c3 (ay Gc Ah rfl mc kc bc .nil ap (aa (pv 0) (aa aj ad))) aj) (aa (pv 2) (aa aj ad))))) (av (i:=4) EX.nd rfl (Or.inl rfl))
    (ai (aM (jc (PW.pt (iy (au bK (aB bH (ay Gc Ah rfl mc kc bc .nil ap (aa (pv 0) (aa aj ad))) aj) aj (ax _)) (fN (au k8 (aw aq rfl T.len PySem.boot_len (aa (pv 3) ad)) (pv 1) (ax _))))))
     (ai (aN (cv plainAttrs_list PySem.F.slot_list_append PySem.F.type_list_append bD (pv 3) (aa (bS (aa (aw aq rfl T.len PySem.boot_len (aa (pv 3) ad)) (aa (aB bH (aB bN (aw aq rfl T.len PySem.boot_len (aa (pv 3) ad)) aj) (pv 1)) ad))) ad))))
     (ai (aN (cv plainAttrs_list PySem.F.slot_list_append PySem.F.type_list_append bD (pv 3) (aa (bS (aa (aB bH (pv 4) (pv 1)) (aa (aB bH (aB bN (aB bN (aB bH (pv 4) (pv 1)) aj) (aB bH (aB c3 (pv 4) (pv 1)) (aB eG (pv 1) aj))) (pv 1)) ad))) ad)))))))
   (ai (ar (pv 3))))),?_⟩
  have two:(2:Nat) <= sizeLine:=by decide
  have HK:(0:Int) < (n:Int):=by omega
  have VR:(0:Int) < (n:Int) - 1:=by omega
  refine⟨_,rfl,sc,ns,0,rfl,hS,fun d0=>⟨_,_,rfl,rfl,⟨by decide,by decide⟩,_,_,rfl,rfl,(by show (0:Int) < 5;decide),_,_,rfl,rfl,?_⟩⟩
  have am1:=emod_nonneg (d0 / 3) (show (5:Int) ≠ 0 by decide)
  have am2:=emod_lt_of_pos (d0 / 3) (show (0:Int) < 5 by decide)
  obtain⟨am,eam,ham⟩:∃ am:Nat,2 + d0 / 3 % 5=(am:Int)/\2 <= am/\am <= 6:=⟨(2 + d0 / 3 % 5).toNat,by omega,by omega,by omega⟩
  dsimp only
  rw[eam]
  refine⟨zero_le _,fun D hD=>?_⟩
  have s0:=(zf.refl H).new (o := .lst []) hD
  have g0:(upd H D (.lst [])) D=some (.lst []):=ac
  generalize upd H D (.lst [])=H1 at s0 g0 ⊢
  refine⟨_,rfl,sc,ns,1,rfl,s0.seq hS,fun d1=>⟨_,_,rfl,rfl,⟨by decide,by decide⟩,_,rfl,_,am,_,rfl,by omega,by decide,by decide,fun Dd ds H2 s2 VS VT Cu AR=>⟨Dd,rfl,⟨_,zj.of VT⟩,?_⟩⟩⟩
  have HL:=s0.trans s2
  have nDd:Dd ≠ D:=Ne.symm (ag g0 VS)
  have nHd:H Dd=none:=s0.free VS
  refine dX (K:=K) (a:=Dd) (xs:=ds.map V.int) (fun i σ H2=>∃ (a4:Option V)(zv:List V)(ps:List (Int × Int)),zf H H2/\H2 Dd=some (.lst (ds.map V.int))/\H2 D=some (.lst zv)/\zN H2 zv ps/\(∀ p ∈ ps,iO n p=true)/\ps.length=i/\σ=[some (.ref sc),some (.int n),some (.int am),some (.ref D),a4])
   ⟨none,[],[],HL,VT,s2 _ _ g0, .nil,(fun e he=>by cases he),rfl,rfl⟩ (fun i σ H2 _ zk=>by obtain⟨_,_,_,_,g,_⟩:=zk;exact zj.of g) ?_ ?_
  ·rintro i v σ H3 hv ⟨a4,zv,ps,s3,R8,gD,Gh,zp,hl,rfl⟩
   have hi:i < ds.length:=by have:=(gQ0 hv);rw[length_map]at this;exact this
   obtain⟨d,rfl⟩:∃ d,v=V.int d:=by
    rw[getElem?_map,getElem?_eq_getElem hi]at hv
    exact⟨_,(Option.some.inj hv).symm⟩
   have Gj:=s3.seq hS
   have BA:zv.length=ps.length:=Paired.length Gh
   have hsz:zv.length < sizeLine:=by rw[sizeLine_eq];omega
   have fin:∀ (x y:Int)(t1:Addr),H3 t1=none->iO n (x,y)=true->∃ (a4:Option V)(Hw:List V)(ps:List (Int × Int)),zf H (upd (upd H3 t1 (.tup [.int x, .int y])) D (.lst (zv ++ [.ref t1])))/\(upd (upd H3 t1 (.tup [.int x, .int y])) D (.lst (zv ++ [.ref t1]))) Dd=some (.lst (ds.map V.int))/\(upd (upd H3 t1 (.tup [.int x, .int y])) D (.lst (zv ++ [.ref t1]))) D=some (.lst Hw)/\zN (upd (upd H3 t1 (.tup [.int x, .int y])) D (.lst (zv ++ [.ref t1]))) Hw ps/\(∀ p ∈ ps,iO n p=true)/\ps.length=i + 1/\([some (.ref sc),some (.int n),some (.int am),some (.ref D),some (.int d)]:St)=[some (.ref sc),some (.int n),some (.int am),some (.ref D),a4]:=fun x y t1 h1 FX=>by
    obtain⟨e1,e2,e3⟩:=jT (x:=x) (y:=y) hD s3 gD Gh h1
    refine⟨_,_,_,e2,by rw[ae nDd,ae (ag R8 h1)];exact R8,ac,e3,fun p hp=>?_,by rw[length_append,hl];rfl,rfl⟩
    rcases mem_append.mp hp with hp | hp
    ·exact zp p hp
    ·rw[mem_singleton.mp hp];exact FX
   refine⟨fun b H'=>H' = H3/\(b=true->zv.length < n),?_,?_⟩
   ·refine⟨_,rfl,sc,ns,1,rfl,Gj,fun d2=>⟨_,_,rfl,rfl,(by show (0:Int) < 2;decide),rfl,_,rfl,?_⟩⟩
    refine vY (fun _=>⟨_,rfl,D,_,rfl, .inl (zj.of gD),_,rfl,_,_,rfl,rfl,_,rfl,rfl,fun h=>?_⟩) fun _=>⟨rfl,fun h=>by cases h⟩
    have:=of_decide_eq_true h
    omega
   rintro b H' ⟨rfl,hb⟩
   refine vY (fun h=>?_) fun _=>?_
   ·have zT:=hb h
    refine⟨_,rfl, .inl ⟨rfl,_,zj.of gD⟩,_,rfl,D,_,rfl, .inl (zj.of gD),_,rfl,D,_,rfl, .inl (zj.of gD),_,_,rfl,rfl,_,rfl,_,_,rfl,rfl,HK,two,fun t1 h1=>?_⟩
    have r:=pI (n:=n) (x:=(zv.length:Int)) (o:=0) (by omega) (by omega) (by omega) (by omega)
    rw[Int.add_zero]at r
    obtain⟨e1,_,_⟩:=jT (x:=(zv.length:Int)) (y:=((zv.length:Int) + 1) % (n:Int)) hD s3 gD Gh h1
    exact⟨D,zv,_,rfl,rfl,e1,hsz,fin _ _ t1 h1 (tM (by omega) (by omega) r.1 r.2.1 r.2.2)⟩
   ·have e1:=emod_nonneg d (show (n:Int) ≠ 0 by omega)
    have e2:=emod_lt_of_pos d HK
    have e3:=emod_nonneg (d / (n:Int)) (show (n:Int) - 1 ≠ 0 by omega)
    have e4:=emod_lt_of_pos (d / (n:Int)) VR
    have r:=pI e1 e2 e3 e4
    refine⟨_,rfl, .inl ⟨rfl,_,zj.of gD⟩,_,rfl,_,rfl,_,_,rfl,rfl,HK,_,rfl,_,rfl,_,_,rfl,rfl,HK,_,_,rfl,rfl,_,rfl,_,rfl,_,_,rfl,rfl,⟨by omega,by omega⟩,_,rfl,_,_,rfl,rfl,_,_,rfl,rfl,VR,_,_,rfl,rfl,_,rfl,_,_,rfl,rfl,HK,two,fun t1 h1=>?_⟩
    obtain⟨f1,_,_⟩:=jT (x:=d % (n:Int)) (y:=(d % (n:Int) + 1 + d / (n:Int) % ((n:Int) - 1)) % (n:Int)) hD s3 gD Gh h1
    exact⟨D,zv,_,rfl,rfl,f1,hsz,fin _ _ t1 h1 (tM e1 e2 r.1 r.2.1 r.2.2)⟩
  ·rintro σ H3 ⟨a4,zv,ps,s3,R8,gD,Gh,zp,hl,rfl⟩
   rw[length_map]at hl
   exact⟨_,rfl,q D zv ps H3 s3 hD gD Gh zp (by omega) (by omega)⟩
theorem Dt.len {n:Nat}{ps:List (Int × Int)}{B:Nat}{rs:List Rw}(h:Dt n ps B rs):rs.length <= B:=by
 have:=dQ B (rs.map sL) (h.sort.imp fun h=>ne_of_lt h) fun x hx=>by
  obtain⟨r,hr,rfl⟩:=mem_map.mp hx
  exact h.low r hr
 rw[length_map]at this
 exact this
noncomputable def lim (xs:List Nat)(t:Nat):Nat:=if t=0 then 0 else xs.getD (t - 1) 0 + 1
theorem y9 {xs:List Nat}(hs:xs.Pairwise (· < ·)){t p:Nat}(h:xs[t]? = some p):lim xs t <= p:=by
 unfold lim
 by_cases h0:t=0
 ·rw[if_pos h0];omega
 ·rw[if_neg h0]
  obtain⟨ht,e⟩:=List.getElem?_eq_some_iff.mp h
  have h1:=List.pairwise_iff_getElem.mp hs (t - 1) t (by omega) ht (by omega)
  rw[getD_eq_getElem?_getD,getElem?_eq_getElem (by omega)]
  rw[e]at h1
  exact h1
theorem ua {xs:List Nat}{t p:Nat}(h:xs[t]? = some p):lim xs (t + 1)=p + 1:=by
 unfold lim
 rw[if_neg (by omega),Nat.add_sub_cancel,getD_eq_getElem?_getD,h];rfl
theorem vW {xs:List Nat}(h:∀ p ∈ xs,p < 100):lim xs xs.length <= 100:=by
 unfold lim
 by_cases h0:xs.length=0
 ·rw[if_pos h0];omega
 ·rw[if_neg h0,getD_eq_getElem?_getD,getElem?_eq_getElem (show xs.length - 1 < xs.length by omega)]
  exact h _ (getElem_mem _)
theorem uk {n:Nat}{ps:List (Int × Int)}(h1:1 <= n)(h2:n <= 12)(h3:ps.length <= 40)(h:∀ p ∈ ps,iO n p=true):fJ n ps = .good:=by
 unfold fJ
 rw[decide_eq_true (show (1:Int) <= (n:Int)/\(n:Int) <= 12 by omega),if_neg (by decide),if_neg (by omega),jS h]
noncomputable def rT (P:Program)(w:World)(c:Cs)(ts:Ts):Sp:=fun vs H Q _=>∃ (l:Addr)(zv:List V)(ps:List (Int × Int))(n:Nat)(cl:Int),vs=[.ref l, .int n, .int cl]/\H l=some (.lst zv)/\zN H zv ps/\(∀ p ∈ ps,iO n p=true)/\ps.length <= 6/\2 <= n/\n <= 4 /\
 ∀ (x lx zX lt:Addr)(zw:List V)(wy:Wf)(H':Hp),zf H H'->H x=none->An c ts.told (zE P w ts) H' x lx zX lt n zw ps wy->(∀ p g k,(wy p g k).length <= 400)->Q (.ref x) H'
noncomputable abbrev Oa:List Str:=["_law_lanes_here", "_law_places", "_law_cell", "_law_rows", "_law_goal", "_law_came", "_law_some", "_law_place", "_law_draw", "_law_out", "_law_ways", "_law_draws_here"]
noncomputable def gr (s:Stmt):List Stmt:=match s with
 | .For _ _ b _ _=>b
 | _=>[]
noncomputable def R9 (s:Stmt):Scope:=match s with
 | .For _ (.ListComp _ _ sc _) _ _ _=>sc
 | _=>zQ0
noncomputable def LS (s:Stmt):Scope:=match s with
 | .Assign _ (.ListComp _ _ sc _) _=>sc
 | _=>zQ0
noncomputable def gq (b:List Stmt)(i:Nat):Stmt:=b.getD i (.Pass ⟨0,0,0,0⟩)
noncomputable def wV:Stmt:=gq (gr (gq (gr (gq (aG jx) 2)) 0)) 2
noncomputable def qg:List Stmt:=gr wV
noncomputable def wX (n:Nat):Nat->Nat
 | 0=>0
 | j + 1=>n + j
structure HM (H:Hp)(DD:Addr)(ds:List Int)(H2:Hp):Prop where
 s:zf H H2
 d:H2 DD=some (.lst (ds.map V.int))
theorem HM.trans {H H2 H3:Hp}{DD:Addr}{ds:List Int}(h:HM H DD ds H2)(k:zf H2 H3):HM H DD ds H3:=⟨h.s.trans k,k _ _ h.d⟩
theorem Bu:ao Oa ["_law_lanes_here", "_law_places", "_law_cell"] (ah jx):=L2.zQ
theorem LU:As Oa (ah jx) (R9 wV) ["_law_goal"] [4]:=L2.Bs
theorem LV:(["_law_place", "_law_goal"]:List Str).Nodup:=by decide +kernel
theorem LW:As Oa (ah jx) (LS (gq qg 1)) ["_law_lanes_here", "_law_place"] [0,7]:=L2.Bs
theorem LX:As Oa (ah jx) (LS (gq qg 2)) ["_law_draw"] [8]:=L2.Bs
theorem LY:(["_law_lane", "_law_lanes_here", "_law_place"]:List Str).Nodup:=by decide +kernel
theorem LZ:(["_law_lane", "_law_draw"]:List Str).Nodup:=by decide +kernel
theorem vE {c:Cs}{ts:Ts}{f fm fi ft:Addr}{fd dm di dt:FuncData}(F:zH K "_law_table" "_law_table" jx f fd)(T:eW mg)(mm:mg "_law_draws" = some (.ref fm))(km:keepIn K (.ref fm)=true)(bm:Binds K dm ["_law_cell", "_law_amount", "_law_base"] [])(Gm:zg P w K mg base aD 2 fm dm ["_law_cell", "_law_amount", "_law_base"] gN)
  (mi:mg "Land" = some (.ref c.land)) (Mi:Mk K c.land fi) (bi:Binds K di ["self", "places", "lanes"] []) (Gi:zg P w K mg base (e7 P w) 4 fi di ["self", "places", "lanes"] (rW K c))
  (mt:mg "Told" = some (.ref ts.told)) (Mt:Mk K ts.told ft) (bt:Binds K dt ["self", "land", "rows"] []) (Gt:zg P w K mg base (e7 P w) 5 ft dt ["self", "land", "rows"] (rK P w K c ts)) :
  zg P w K mg base aD 7 f fd ["_law_lanes_here", "_law_places", "_law_cell"] (rT P w c ts):=by
 refine F.ok Bu (fun _ _ _ _ h=>?_) (fun _ _ _ s H _ Q E hr h=>?_)
 ·obtain⟨l,zv,ps,n,cl,rfl,_⟩:=h
  rfl
 ·obtain⟨l,zv,ps,n,cl,rfl,gl,EI,zp,Bj,CW,RA,q⟩:=h
  have hu:=hr.units
  have Ai:zm 2 _:=hr.mono (by decide)
  have IK:zm 5 _:=hr.mono (by decide)
  refine⟨_,af (az (i:=3) Bu.nd rfl (Or.inl rfl) (aP ad))
   (af (az (i:=11) Bu.nd rfl (Or.inl rfl) (ay Gm Ai rfl mm km bm .nil ap (aa (pv 2) (aa (aB gk (pv 1) (aB bN (pv 1) (aw aq rfl T.len PySem.boot_len (aa (pv 0) ad)))) (aa (aB oC aj aj) ad)))))
   (af (bR PassesOwn.never rfl (aX rfl T.range (aa (pv 1) ad)) (av (i:=4) Bu.nd rfl (Or.inr rfl))
    (ai (bR PassesOwn.never rfl (bx (aB ye (aP (aa ce ad)) (aY (ge rfl) rfl T.list PySem.Pv.boot_list (aa (aY nc rfl T.range PyProof.Rows.boot_range (aa (aw aq rfl T.len PySem.boot_len (aa (pv 0) ad)) ad)) ad)))) (av (i:=5) Bu.nd rfl (Or.inl rfl))
     (af (az (i:=6) Bu.nd rfl (Or.inl rfl) (aY (ge rfl) rfl T.list PySem.Pv.boot_list (aa (aY nc rfl T.range PyProof.Rows.boot_range (aa (pv 1) ad)) ad)))
     (af (hU (aM (au pN (pv 5) ce (ax _)) (ai (az (i:=6) Bu.nd rfl (Or.inl rfl) (aP (aa (aA aE (aA aQ (pv 0) (pv 5) (fun _ _=>rfl)) aj (fun _ _=>rfl)) ad)))) aF))
     (ai (bR PassesOwn.never rfl (bx (aT (own:=["_law_place"]) (capN:=["_law_goal"]) (cap:=[4]) LU rfl (bx (pv 6))
       (fun C s' H' fp=>⟨av (i:=0) LV rfl (Or.inl rfl),cb (au m5 (pv 0) (pv 1) (ax _)),pv 0⟩))) (av (i:=7) Bu.nd rfl (Or.inr rfl))
      (af (az (i:=8) Bu.nd rfl (Or.inr rfl) (aA aQ (pv 11) (aw aq rfl T.len PySem.boot_len (aa (pv 3) ad)) (fun _ _=>rfl)))
      (af (j6 (i:=9) (own:=["_law_lane"]) (capN:=["_law_lanes_here", "_law_place"]) (cap:=[0,7]) LW rfl Bu.nd rfl rfl (aX rfl T.range (aa (aw aq rfl T.len PySem.boot_len (aa (pv 0) ad)) ad))
       (fun C s' H' fp=>⟨av (i:=0) LY rfl (Or.inl rfl),cb (au bK (aA (show n9 _ (j5 K) from aE) (aA (show n9 _ (vd K) from aQ) (pv 1) (pv 0) (fun _ _=>rfl)) aj (fun _ _=>rfl)) (pv 2) (ax _)),pv 0⟩))
      (af (j6 (i:=10) (own:=["_law_lane"]) (capN:=["_law_draw"]) (cap:=[8]) LX rfl Bu.nd rfl rfl (bx (pv 9))
       (fun C s' H' fp=>⟨av (i:=0) LZ rfl (Or.inl rfl),cb (au bK (aB sY (aB sX (pv 1) (pv 0)) aj) aj (ax _)),pv 0⟩))
      (af (hU (aM (PW.pt (iy (au (yd hu) (pv 10) (aP ad) (ax _)) (fN (au m6 (aB bH (aB c3 (pv 8) aj) aj) aj (ax _)))))
       (ai (az (i:=10) Bu.nd rfl (Or.inl rfl) (fB gQ (pv 9) lr (eB aj)))) aF))
      (ai (aN (cv plainAttrs_list PySem.F.slot_list_append PySem.F.type_list_append bD (pv 3) (aa (bS (aa (pv 7) (aa (pv 4) (aa (pv 5) (aa (pv 10) ad))))) ad)))))))))))))))
   (ai (ar (eE Mt Gt hr rfl mt bt .nil i5 (aa (eE Mi Gi IK rfl mi bi .nil i5 (aa (pv 1) (aa (aY bU rfl T.list PySem.Pv.boot_list (aa (pv 0) ad)) ad))) (aa (pv 3) ad))))))),?_⟩
  have BA:zv.length=ps.length:=Paired.length EI
  refine⟨zero_le _,fun D hD=>?_⟩
  have s0:=(zf.refl H).new (o := .lst []) hD
  have g0:(upd H D (.lst [])) D=some (.lst []):=ac
  show dD 3 (V.ref D) _ _ _
  generalize upd H D (.lst [])=H0' at s0 g0 ⊢
  refine⟨_,rfl,_,rfl,_,rfl,_,rfl,l,_,rfl, .inl (zj.of (s0 _ _ gl)),_,_,rfl,rfl,_,_,rfl,rfl, .inl ⟨by omega,by omega⟩,_,_,rfl,rfl,⟨by decide,by decide,by decide⟩,cl,n * (n + ps.length),100000,?_,?_,by decide,by decide,fun DD ds H0 sd hDD gDD Cu AR=>?_⟩
  ·rw[BA,natCast_mul,natCast_add];rfl
  ·have:=Nat.mul_le_mul RA (show n + ps.length <= 10 by omega);omega
  have gD0:=sd _ _ g0
  have nDD:DD ≠ D:=Ne.symm (ag g0 hDD)
  have z0:HM H DD ds H0:=⟨s0.trans sd,gDD⟩
  refine⟨_,rfl,(n:Int),rfl,by omega,by omega,?_⟩
  rw[toNat_natCast]
  refine bP (n:=n) (fun i σ H2=>∃ (a4 a5 a6 a7 a8 a9 BB:Option V)(zA:List V)(rs:List Rw),HM H DD ds H2/\H2 D=some (.lst zA)/\BI D H2 zA rs/\Dt n ps (i * 10000) rs/\rs.length <= i * (n + ps.length)/\σ=[some (.ref l),some (.int n),some (.int cl),some (.ref D),a4,a5,a6,a7,a8,a9,BB,some (.ref DD)])
   ⟨none,none,none,none,none,none,none,[],[],z0,gD0, .nil,⟨List.Pairwise.nil,(fun r hr=>by cases hr),(fun r hr=>by cases hr),(fun r hr=>by cases hr)⟩,zero_le _,rfl⟩ ?_ ?_
  rotate_left
  ·rintro σ H2 ⟨a4,a5,a6,a7,a8,a9,BB,zA,rs,s2,g2,hR,hO,VU,rfl⟩
   have Em:zA.length=rs.length:=Paired.length hR
   have hrm:=hO.len
   have gd:=uk (ps:=ps) (n:=n) (by omega) (by omega) (by omega) zp
   refine⟨_,rfl,_,rfl,l,_,rfl, .inl (zj.of (s2.s _ _ gl)),fun l2 DE=>?_⟩
   have s3:=(zf.refl H2).new (o := .lst zv) DE
   have g3:(upd H2 l2 (.lst zv)) l2=some (.lst zv):=ac
   generalize upd H2 l2 (.lst zv)=H3 at s3 g3 ⊢
   refine fun xl By nx KJ F9=>?_
   have s4:zf H3 (upd (upd H3 By (.own xl)) xl (.ins c.land By [])):=zf.new (zf.new (zf.refl H3) KJ) (by rw[ae (Ne.symm F9)];exact nx)
   refine⟨xl,By,(n:Int),l2,zv,ps,rfl,ac,zj.of (s4 _ _ g3),zN.same (s2.s.trans (s3.trans s4)) EI,by omega,(fun h=>by rw[gd]at h;cases h),(fun k h=>by rw[gd]at h;cases h),(fun k h=>by rw[gd]at h;cases h),fun _ H5 lt zw off hL=>⟨rfl,?_⟩⟩
   have s5:zf H3 H5:=fun b o e=>off b o (ag e nx) (s4 _ _ e)
   refine⟨_,rfl,fun tb Mb nt ndt net=>?_⟩
   have s6:zf H5 (upd (upd H5 Mb (.own tb)) tb (.ins ts.told Mb [])):=zf.new (zf.new (zf.refl H5) ndt) (by rw[ae (Ne.symm net)];exact nt)
   have VV:=s3.trans (s5.trans s6)
   refine⟨tb,Mb,xl,By,lt,D,(n:Int),zw,zA,ps,rs,rfl,ac,⟨s6 _ _ hL.1,s6 _ _ hL.2.1,zN.same s6 hL.2.2⟩,zj.of (VV _ _ g2),CO.same VV hR.rws,by omega,by omega,fun r hr=>⟨fun k hk=>by have:=kG (hO.fit r hr) k hk;omega,by have:=hO.Ao r hr;omega⟩,(fun i e=>by rw[hO.good]at e;cases e),fun _ H7 de zq RB VW hd7 hv7=>⟨rfl,?_⟩⟩
   have s7:zf H5 H7:=fun b o e=>RB b o (ag e nt) (s6 _ _ e)
   have ER:∀ r ∈ rs,∀ k ∈ r.s,k < ps.length:=fun r hr=>kG (hO.fit r hr)
   refine q tb xl By lt zw (IQ rs) H7 (s2.s.trans (s3.trans (s5.trans s7))) (s2.s.free (s3.free (s5.free nt))) ⟨⟨Mb,de,_,zq,rs,VW,hd7,hv7,(fun r hr k hk=>by have:=ER r hr k hk;omega),rfl⟩,⟨Mb,_,VW,rfl,rfl⟩,⟨s7 _ _ hL.1,s7 _ _ hL.2.1,zN.same s7 hL.2.2⟩,by omega,by omega,fun p g k _ _ z hz=>(rq ER p g k).1 z hz⟩ (fun p g k=>by have:=(rq ER p g k).2;omega)
  rintro i σ H2 hi ⟨a4,a5,a6,a7,a8,a9,BB,zA,rs,s2,g2,hR,hO,VU,rfl⟩
  rw[zero_add]
  refine⟨by show 1 <= sizeLine;decide,fun o1 ho1=>?_⟩
  have t1:=(zf.refl H2).new (o := .lst [.zD]) ho1
  have g1:(upd H2 o1 (.lst [.zD])) o1=some (.lst [.zD]):=ac
  generalize upd H2 o1 (.lst [.zD])=H3 at t1 g1 ⊢
  refine⟨_,rfl,l,_,rfl, .inl (zj.of (t1 _ _ (s2.s _ _ gl))),_,rfl,fun o2 Bq=>?_⟩
  rw[BA]
  have t2:=t1.new (o:=iV o2 (ps.length:Int)) Bq
  have NR:(upd H3 o2 (iV o2 (ps.length:Int))) o2=some (iV o2 (ps.length:Int)):=ac
  have Ly:(upd H3 o2 (iV o2 (ps.length:Int))) o1=some (.lst [.zD]):=by rw[ae (ag g1 Bq)];exact g1
  generalize upd H3 o2 (iV o2 (ps.length:Int))=H4 at t2 NR Ly ⊢
  refine⟨o2,ps.length,rfl,NR,by omega,fun o3 VX=>?_⟩
  have t3:=t2.new (o := .lst ((List.range ps.length).map fun k:Nat=>V.int (k:Int))) VX
  have g3:(upd H4 o3 (.lst ((List.range ps.length).map fun k:Nat=>V.int (k:Int)))) o3=some (.lst ((List.range ps.length).map fun k:Nat=>V.int (k:Int))):=ac
  have Mc:(upd H4 o3 (.lst ((List.range ps.length).map fun k:Nat=>V.int (k:Int)))) o1=some (.lst [.zD]):=by rw[ae (ag Ly VX)];exact Ly
  generalize upd H4 o3 (.lst ((List.range ps.length).map fun k:Nat=>V.int (k:Int)))=H5 at t3 g3 Mc ⊢
  refine⟨o1,o3,_,_,rfl,rfl,Mc,g3,by rw[length_map,length_range,sizeLine_eq];simp only[length_singleton];omega,fun C hC=>?_⟩
  rw[yY]
  have t4:=t3.new (o := .lst ((iK ps.length).map cV)) hC
  have gC:(upd H5 C (.lst ((iK ps.length).map cV))) C=some (.lst ((iK ps.length).map cV)):=ac
  have nC:C ≠ D:=Ne.symm (ag (t3 _ _ g2) hC)
  generalize upd H5 C (.lst ((iK ps.length).map cV))=H6 at t4 gC ⊢
  refine⟨C,rfl,⟨_,zj.of gC⟩,?_⟩
  have VY:((iK ps.length).map cV).length=ps.length + 1:=by unfold iK;rw[length_map,length_cons,length_map,length_range]
  refine dX (K:=K) (a:=C) (xs:=(iK ps.length).map cV) (fun j σ H7=>∃ (a5 a6 a7 a8 a9 BB:Option V)(zA:List V)(rs:List Rw),HM H DD ds H7/\H7 D=some (.lst zA)/\H7 C=some (.lst ((iK ps.length).map cV))/\BI D H7 zA rs/\Dt n ps ((i * 100 + j) * 100) rs/\rs.length <= i * (n + ps.length) + wX n j/\σ=[some (.ref l),some (.int n),some (.int cl),some (.ref D),some (.int (i:Int)),a5,a6,a7,a8,a9,BB,some (.ref DD)])
   ⟨_,_,_,_,_,_,zA,rs,s2.trans t4,t4 _ _ g2,gC,hR.same t4,hO.up (by omega),VU,rfl⟩ (fun j σ H7 _ zk=>by obtain⟨_,_,_,_,_,_,_,_,_,_,g,_⟩:=zk;exact zj.of g) ?_ ?_
  rotate_left
  ·rintro σ H7 ⟨a5,a6,a7,a8,a9,BB,zA,rs,s7,g7,_,RC,Ob,EY,rfl⟩
   rw[VY]at Ob EY
   exact⟨_,_,_,_,_,_,_,zA,rs,s7,g7,RC,Ob.up (by omega),by rw[Nat.succ_mul];exact EY,rfl⟩
  rintro j v σ H7 hv ⟨a5,a6,a7,a8,a9,BB,zA,rs,s7,g7,gC7,RC,Ob,EY,rfl⟩
  have hj:j < ps.length + 1:=by rw[← VY];exact(gQ0 hv)
  obtain⟨cc,rfl,HN,CV⟩:=uB hv
  refine⟨_,rfl,_,rfl,fun o5 ho5=>?_⟩
  have t5:=(zf.refl H7).new (o:=iV o5 (n:Int)) ho5
  have g5:(upd H7 o5 (iV o5 (n:Int))) o5=some (iV o5 (n:Int)):=ac
  generalize upd H7 o5 (iV o5 (n:Int))=H8 at t5 g5 ⊢
  refine⟨o5,n,rfl,g5,by omega,fun o6 VZ=>?_⟩
  have t6:=t5.new (o := .lst ((List.range n).map fun k:Nat=>V.int (k:Int))) VZ
  have g6:(upd H8 o6 (.lst ((List.range n).map fun k:Nat=>V.int (k:Int)))) o6=some (.lst (aZ (List.range n))):=ac
  have n6:o6 ≠ D:=Ne.symm (ag (t5 _ _ g7) VZ)
  generalize upd H8 o6 (.lst ((List.range n).map fun k:Nat=>V.int (k:Int)))=H9 at t6 g6 ⊢
  refine⟨fun σ Ha=>∃ (So:Addr)(xs:List Nat),zf H7 Ha/\Ha So=some (.lst (aZ xs))/\So ≠ D/\xs.Pairwise (· < ·)/\(∀ p ∈ xs,p < n/\∀ k,cc=some k->k ∈ gy Prod.snd ps (p:Int))/\wX n j + xs.length <= wX n (j + 1)/\σ=[some (.ref l),some (.int n),some (.int cl),some (.ref D),some (.int (i:Int)),some (cV cc),some (.ref So),a7,a8,a9,BB,some (.ref DD)],?_,?_⟩
  ·refine⟨_,rfl,rfl,_,rfl,?_⟩
   cases cc with
   | none=>exact aI ⟨o6,List.range n,t6,g6,n6,List.pairwise_lt_range,(fun p hp=>⟨mem_range.mp hp,fun k e=>by cases e⟩),by rw[← HN,length_range];show 0 + n <= n + 0;omega,rfl⟩
   | some k =>
    have hk:=CV k rfl
    obtain⟨v,Im,u,rfl,gu⟩:=zN.GX EI (getElem?_eq_getElem hk)
    have s9:=s7.s.trans t6
    refine aJ ⟨_,rfl,_,rfl,l,zv,(k:Int),_,rfl,rfl,zj.of (s9 _ _ gl),ak Im,u,_,1,_,rfl,rfl,zt.of (s9 _ _ gu),ak (j:=1) rfl,by show 1 <= sizeLine;decide,fun So Md=>?_⟩
    have Ed:=zp _ (getElem_mem hk)
    unfold iO at Ed
    simp only[Bool.and_eq_true,decide_eq_true_eq,Bool.not_eq_true',decide_eq_false_iff_not]at Ed
    obtain⟨p0,We⟩:∃ p0:Nat,(ps[k]).2=(p0:Int):=⟨(ps[k]).2.toNat,by omega⟩
    have RD:ps.getD k (0,0)=ps[k]:=by rw[getD_eq_getElem?_getD,getElem?_eq_getElem hk];rfl
    refine⟨So,[p0],t6.new Md,by rw[ac,We];rfl,Ne.symm (ag (t6 _ _ g7) Md),by simp,(fun p hp=>?_),by rw[← HN];show n + k + 1 <= n + (k + 1);omega,rfl⟩
    rw[mem_singleton.mp hp]
    refine⟨by omega,fun k' e=>?_⟩
    cases e
    exact mem_filter.mpr ⟨mem_range.mpr hk,decide_eq_true (by show(ps.getD k (0,0)).2=_;rw[RD];exact We)⟩
  rintro σ Ha ⟨Mf,IW,Wg,Wh,nS',Mg,Mj,Mn,rfl⟩
  refine⟨_,rfl,Mf,rfl,⟨_,zj.of Wh⟩,?_⟩
  have EM:IW.length <= n + ps.length:=by cases j<;>simp only[wX]at Mn<;>omega
  refine iI (fun k=>decide (k ≠ i)) (by rw[sizeLine_eq];omega) (zj.of Wh) (fun k acc N hk h=>?_) (fun So Md=>?_)
  ·refine⟨_,rfl,_,rfl,rfl,_,rfl,?_⟩
   rw[jH]
   by_cases hb:k=i
   ·rw[decide_eq_true (show (k:Int)=(i:Int) by omega)]
    rw[decide_eq_false (fun z:k ≠ i=>z hb)]at h
    exact aI h
   ·rw[decide_eq_false (show ¬ (k:Int)=(i:Int) by omega)]
    rw[decide_eq_true (show k ≠ i from hb)]at h
    exact aJ ⟨_,rfl,h⟩
  have tS:=Wg.new (o := .lst (aZ (IW.filter fun k=>decide (k ≠ i)))) Md
  have gS:(upd Ha So (.lst (aZ (IW.filter fun k=>decide (k ≠ i))))) So=some (.lst (aZ (IW.filter fun k=>decide (k ≠ i)))):=ac
  have nS:So ≠ D:=Ne.symm (ag (Wg _ _ g7) Md)
  generalize upd Ha So (.lst (aZ (IW.filter fun k=>decide (k ≠ i))))=Ha2 at tS gS ⊢
  obtain⟨xs,IM,RE,Wi,UO⟩:∃ xs,(IW.filter fun k=>decide (k ≠ i))=xs/\xs.Pairwise (· < ·)/\(∀ p ∈ xs,p < n/\(∀ k,cc=some k->k ∈ gy Prod.snd ps (p:Int))/\p ≠ i)/\wX n j + xs.length <= wX n (j + 1):=by
   refine⟨_,rfl,Mg.filter _,fun p hp=>?_,le_trans (Nat.add_le_add_left (length_filter_le _ _) _) Mn⟩
   obtain⟨h1,h2⟩:=mem_filter.mp hp
   exact⟨(Mj p h1).1,(Mj p h1).2,of_decide_eq_true h2⟩
  rw[IM]at gS
  refine⟨So,rfl,⟨_,zj.of gS⟩,?_⟩
  refine dX (K:=K) (a:=So) (xs:=aZ xs) (fun t σ Hb=>∃ (a7 a8 a9 BB:Option V)(zA:List V)(rs:List Rw),HM H DD ds Hb/\Hb D=some (.lst zA)/\Hb C=some (.lst ((iK ps.length).map cV))/\Hb So=some (.lst (aZ xs))/\BI D Hb zA rs/\Dt n ps ((i * 100 + j) * 100 + lim xs t) rs/\rs.length <= i * (n + ps.length) + wX n j + t/\σ=[some (.ref l),some (.int n),some (.int cl),some (.ref D),some (.int (i:Int)),some (cV cc),some (.ref Mf),a7,a8,a9,BB,some (.ref DD)])
   ⟨_,_,_,_,zA,rs,s7.trans tS,tS _ _ g7,tS _ _ gC7,gS,RC.same tS,Ob.up (by omega),EY,rfl⟩ (fun t σ Hb _ zk=>by obtain⟨_,_,_,_,_,_,_,_,_,g,_⟩:=zk;exact zj.of g) ?_ ?_
  rotate_left
  ·rintro σ Hb ⟨a7,a8,a9,BB,zA,rs,sb,gb,RF,Wj,Oc,Mo,Mp,rfl⟩
   have RG:(aZ xs).length=xs.length:=by unfold aZ;rw[length_map]
   rw[RG]at Mo Mp
   have:=vW (xs:=xs) fun p hp=>by have:=(Wi p hp).1;omega
   exact⟨_,_,_,_,_,_,zA,rs,sb,gb,RF,Oc,Mo.up (by omega),by omega,rfl⟩
  rintro t v σ Hb hv2 ⟨a7,a8,a9,BB,zA,rs,sb,gb,RF,Wj,Oc,Mo,Mp,rfl⟩
  obtain⟨p,hp,rfl⟩:=m9 hv2
  obtain⟨hpn,hpc,hpi0⟩:=Wi p (mem_of_getElem? hp)
  have hlp:=y9 RE hp
  have hls:=ua hp
  have Em:zA.length=rs.length:=Paired.length Oc
  have hrm:=Mo.len
  have ht:t < xs.length:=(gQ0 hp)
  have Rm:=Nat.mul_le_mul_right (n + ps.length) (show i + 1 <= n from hi)
  rw[Nat.succ_mul]at Rm
  have hbm:wX n (j + 1) <= n + ps.length:=by show n + j <= _;omega
  have zT:zA.length < ds.length:=by rw[Cu,Em];omega
  obtain⟨m,hm⟩:∃ m:Nat,ds[zA.length]=(m:Int):=⟨(ds[zA.length]).toNat,by have:=AR _ (getElem_mem zT);omega⟩
  refine⟨_,rfl,_,rfl,D,_,rfl, .inl (zj.of gb),DD,ds.map V.int,(zA.length:Int), .int m,rfl,rfl,zj.of sb.d,ak (by rw[getElem?_map,getElem?_eq_getElem zT,hm];rfl),?_⟩
  refine⟨_,rfl,l,_,rfl, .inl (zj.of (sb.s _ _ gl)),(zv.length:Int),rfl,by omega,by omega,?_⟩
  rw[toNat_natCast,BA]
  refine wn (sel:=Prod.fst) (ps:=ps) (pl:=(p:Int)) (by rw[sizeLine_eq];omega) (fun z acc N pr Cp h=>?_) (fun Ou hOu=>?_)
  ·obtain⟨v,hv,u,rfl,gu⟩:=zN.GX EI Cp
   refine⟨_,rfl,_,rfl,l,zv,_,_,rfl,rfl,zj.of (sb.s _ _ gl),ak hv,u,_,0,_,rfl,rfl,zt.of (sb.s _ _ gu),ak (j:=0) rfl,_,rfl,rfl,_,rfl,?_⟩
   rw[jH]
   cases hb:decide (pr.1=(p:Int)) with
   | true =>
    have B9:decide (Prod.fst pr=(p:Int))=true:=hb
    rw[B9]at h
    exact aJ ⟨_,rfl,h⟩
   | false =>
    have B9:decide (Prod.fst pr=(p:Int))=false:=hb
    rw[B9]at h
    exact aI h
  have CD:(gy Prod.fst ps (p:Int)).length <= 6:=by
   have:=length_filter_le (fun k=>decide (Prod.fst (ps.getD k (0,0))=(p:Int))) (List.range ps.length)
   rw[length_range]at this
   unfold gy
   omega
  have u1:=(zf.refl Hb).new (o := .lst (aZ (gy Prod.fst ps (p:Int)))) hOu
  have gO:(upd Hb Ou (.lst (aZ (gy Prod.fst ps (p:Int))))) Ou=some (.lst (aZ (gy Prod.fst ps (p:Int)))):=ac
  show dD 9 (V.ref Ou) _ (upd Hb Ou (.lst (aZ (gy Prod.fst ps (p:Int))))) _
  generalize upd Hb Ou (.lst (aZ (gy Prod.fst ps (p:Int))))=Hc at u1 gO ⊢
  generalize RH:gy Prod.fst ps (p:Int)=out at CD gO ⊢
  refine⟨_,rfl,Ou,rfl,⟨_,zj.of gO⟩,?_⟩
  refine iI (fun k=>m.testBit k) (by rw[sizeLine_eq];omega) (zj.of gO) (fun k acc N hk h=>?_) (fun Wa Od=>?_)
  ·refine⟨_,rfl,_,rfl,_,_,rfl,rfl,(show (0:Int) <= (k:Int) by omega),_,_,rfl,rfl,rfl,_,rfl,?_⟩
   dsimp only
   rw[Rr]
   cases hb:m.testBit k with
   | true=>rw[hb]at h;exact aJ ⟨_,rfl,h⟩
   | false=>rw[hb]at h;exact aI h
  have u2:=u1.new (o := .lst (aZ (out.filter fun k=>m.testBit k))) Od
  have gW:(upd Hc Wa (.lst (aZ (out.filter fun k=>m.testBit k)))) Wa=some (.lst (aZ (out.filter fun k=>m.testBit k))):=ac
  have RI:(upd Hc Wa (.lst (aZ (out.filter fun k=>m.testBit k)))) Ou=some (.lst (aZ out)):=by rw[ae (ag gO Od)];exact gO
  have nW:Wa ≠ D:=Ne.symm (ag (u1 _ _ gb) Od)
  show dD 10 (V.ref Wa) _ (upd Hc Wa (.lst (aZ (out.filter fun k=>m.testBit k)))) _
  generalize upd Hc Wa (.lst (aZ (out.filter fun k=>m.testBit k)))=Hd at u2 gW RI ⊢
  refine⟨fun σ He=>∃ (Wb:Addr)(us:List Nat),zf Hb He/\He Wb=some (.lst (aZ us))/\Wb ≠ D/\(∀ k ∈ us,k ∈ out)/\us.length <= 6/\σ=[some (.ref l),some (.int n),some (.int cl),some (.ref D),some (.int (i:Int)),some (cV cc),some (.ref Mf),some (.int (p:Int)),some (.int (m:Int)),some (.ref Ou),some (.ref Wb),some (.ref DD)],?_,?_⟩
  ·refine⟨_,rfl,zero_le _,fun o7 CG=>?_⟩
   have u3:=u2.new (o := .lst []) CG
   have RJ:(upd Hd o7 (.lst [])) Wa=some (.lst (aZ (out.filter fun k=>m.testBit k))):=by rw[ae (ag gW CG)];exact gW
   have Wk:(upd Hd o7 (.lst [])) Ou=some (.lst (aZ out)):=by rw[ae (ag RI CG)];exact RI
   have Wl:(upd Hd o7 (.lst [])) o7=some (.lst (([]:List Int).map V.int)):=ac
   generalize upd Hd o7 (.lst [])=He at u3 RJ Wk Wl ⊢
   have AA:∃ (Wb:Addr)(us:List Nat),zf Hb He/\He Wb=some (.lst (aZ us))/\Wb ≠ D/\(∀ k ∈ us,k ∈ out)/\us.length <= 6/\([some (.ref l),some (.int n),some (.int cl),some (.ref D),some (.int (i:Int)),some (cV cc),some (.ref Mf),some (.int (p:Int)),some (.int (m:Int)),some (.ref Ou),some (.ref Wa),some (.ref DD)]:St)=[some (.ref l),some (.int n),some (.int cl),some (.ref D),some (.int (i:Int)),some (cV cc),some (.ref Mf),some (.int (p:Int)),some (.int (m:Int)),some (.ref Ou),some (.ref Wb),some (.ref DD)] :=
    ⟨Wa,_,u3,RJ,nW,(fun k hk=>(mem_filter.mp hk).1),le_trans (length_filter_le _ _) CD,rfl⟩
   refine⟨Wa,o7,iz (out.filter fun k=>m.testBit k),[],rfl,rfl,by rw[← hZ];exact zj.of RJ,zj.of Wl,_,rfl,?_⟩
   cases hb:decide (iz (out.filter fun k=>m.testBit k)=[]) with
   | false=>exact aI (aI AA)
   | true =>
    refine aJ ⟨_,rfl,_,_,rfl,rfl,⟨by decide,by decide⟩,_,_,rfl,rfl,(by show (0:Int) < 4;decide),_,_,rfl,rfl,_,rfl,?_⟩
    dsimp only
    cases GN:decide ((0:Int) < (m:Int) / 64 % 4) with
    | false=>exact aI AA
    | true =>
     refine aJ ⟨_,rfl,_,rfl,Ou,_,rfl,zj.of Wk,fun Wb Oe=>?_⟩
     refine⟨Wb,out.take 1,u3.new Oe,?_,Ne.symm (ag (u3 _ _ gb) Oe),(fun k hk=>mem_of_mem_take hk),by rw[length_take];omega,rfl⟩
     rw[ac,show((1:Int))=((1:Nat):Int) from rfl]
     exact congrArg (fun z=>some (HO.lst z)) (oU out 1)
  rintro σ He ⟨Wb,us,u4,IX,nWb,hus,NQ,rfl⟩
  have hpi:¬ (p:Int)=(i:Int):=by omega
  refine⟨_,rfl, .inl ⟨rfl,_,zj.of (u4 _ _ gb)⟩,_,rfl,_,rfl,_,rfl,_,rfl,by show 4 <= sizeLine;decide,fun tt Eh=>?_⟩
  have u5:=u4.new (o := .tup [.int (p:Int), .int (i:Int),cV cc, .ref Wb]) Eh
  have gT:(upd He tt (.tup [.int (p:Int), .int (i:Int),cV cc, .ref Wb])) tt=some (.tup [.int (p:Int), .int (i:Int),cV cc, .ref Wb]):=ac
  have Mq:(upd He tt (.tup [.int (p:Int), .int (i:Int),cV cc, .ref Wb])) Wb=some (.lst (aZ us)):=by rw[ae (ag IX Eh)];exact IX
  generalize upd He tt (.tup [.int (p:Int), .int (i:Int),cV cc, .ref Wb])=Hf at u5 gT Mq ⊢
  have Wm:=u5 _ _ gb
  refine⟨D,zA,_,rfl,rfl,Wm,by rw[sizeLine_eq];omega,?_⟩
  have RK:eY n ps ⟨(p:Int),(i:Int),cc,us⟩ = true:=by
   unfold eY
   have ho:iO n ((p:Int),(i:Int))=true:=by
    unfold iO
    simp only[Bool.and_eq_true,decide_eq_true_eq,Bool.not_eq_true',decide_eq_false_iff_not]
    exact⟨⟨by omega,by omega⟩,⟨by omega,by omega⟩,hpi⟩
   rw[ho,Bool.true_and]
   have hs:(us.all fun z=>decide (z ∈ gy Prod.fst ps (p:Int)))=true:=by
    rw[all_eq_true]
    exact fun z hz=>decide_eq_true (by rw[RH];exact hus z hz)
   dsimp only
   rw[hs,Bool.and_true]
   cases cc with
   | none=>rfl
   | some k=>exact decide_eq_true (hpc k rfl)
  have Wo:sL ⟨(p:Int),(i:Int),cc,us⟩ = (i * 100 + j) * 100 + p:=by
   unfold sL
   show(((i:Int)).toNat * 100 + Rn cc) * 100 + ((p:Int)).toNat=_
   rw[toNat_natCast,toNat_natCast,HN]
  have hOn:=Mo.snoc (r:=⟨(p:Int),(i:Int),cc,us⟩) (by rw[Wo];omega) RK (by show us.length <= 40;omega)
  refine⟨_,_,_,_,zA ++ [.ref tt],rs ++ [⟨(p:Int),(i:Int),cc,us⟩],⟨fun b o e=>by rw[ae (ag e hD)];exact u5 _ _ (sb.s _ _ e),by rw[ae nDD];exact u5 _ _ sb.d⟩,ac,?_,?_,?_,hOn.up (by rw[Wo,hls];omega),by rw[length_append,length_singleton];omega,rfl⟩
  ·rw[ae nC];exact u5 _ _ RF
  ·rw[ae nS];exact u5 _ _ Wj
  ·have hRf:=BI.snoc (r:=⟨(p:Int),(i:Int),cc,us⟩) ⟨tt,Wb,rfl,⟨gT,Mq⟩,nWb⟩ (Oc.same u5)
   exact BI.off Wm hRf
noncomputable def nY (t:aU):Int × Int:=(t.start,t.goal)
noncomputable def Ew (a:YA)(s:YS):Prop:=∀ p ∈ s.U.map nY,a.wy p.1.toNat p.2.toNat none ≠ []
theorem jD {l:List aU}{k:Nat}{x y:aU}(h:l[k]? = some x)(e:nY y=nY x):(l.set k y).map nY=l.map nY:=by
 refine ext_getElem? fun i=>?_
 rw[getElem?_map,getElem?_map,List.getElem?_set]
 by_cases hi:k=i
 ·subst hi
  rw[if_pos rfl,if_pos (gQ0 h),h]
  show some (nY y)=some (nY x)
  rw[e]
 ·rw[if_neg hi]
theorem Bz.sgs {a:YA}{s s':YS}{m:Mv}(h:Bz a s m s'):s'.U.map nY=s.U.map nY:=by
 cases h with
 | @AU k l t ln ht hg hl zJ ho =>
  have e1:(cx s k t).U.map nY=s.U.map nY:=jD ht rfl
  have Ee:(cx s k t).U[k]? = some { t with gone:=t.gone + 1 }:=cK ht
  show(if t.gone=0 then (cx s k t).U.set k _ else (cx s k t).U).map nY=_
  split
  ·exact(jD (y:={ ({ t with gone:=t.gone + 1 }:aU) with way:=t.way ++ [l] }) Ee rfl).trans e1
  ·exact e1
 | @on k l m c lk ln t hk hq ht hl zJ ho =>
  show(if c=0 then s.U.set m _ else s.U).map nY=_
  split
  ·exact jD (y:={ t with way:=t.way ++ [l] }) ht rfl
  ·rfl
 | AK=>rfl
 | back=>rfl
theorem Ew.Ri {a:YA}{s s':YS}{n:Nat}(h:Et a s n s')(W:Ew a s):Ew a s':=by
 induction h with
 | nil=>exact W
 | snoc _ st ih =>
  intro p hp
  exact ih p (st.sgs ▸ hp)
theorem Ew.post {a:YA}{s:YS}(W:Ew a s){x y:Nat}{l u:Int}(h:a.wy x y none ≠ []):Ew a (dP s x y l u):=fun p hp=>by
 have hp:p ∈ (s.U ++ [(⟨(x:Int),(y:Int),l,u,0,[]⟩:aU)]).map nY:=hp
 rw[map_append]at hp
 rcases mem_append.mp hp with hp | hp
 ·exact W p hp
 ·rw[mem_singleton.mp hp];exact h
noncomputable def pE (K:Frag)(c:Cs)(TC:Addr)(J:TJ)(ys:Ys):Sp:=fun vs H Q _=>∃ (a:YA)(s:YS)(cs:Addr)(ns:List Int),vs=[.ref a.y, .ref a.tb, .int a.n, .ref cs]/\zW K ys H a s/\zc c TC J H a/\Ab a s/\Ew a s/\H cs=some (.lst (ns.map V.int))/\cs ∉ a.four/\ns.length <= 10/\s.U.length <= 40/\s.done.length <= 100/\2 <= a.n /\
 ∀ (H':Hp)(s':YS),zo [a.le,a.dn] H H'->zW K ys H' a s'->Ab a s'->Ew a s'->D8 a s s'->s'.U.length <= s.U.length + ns.length->s'.done.length <= s.done.length + ns.length->Q .zD H'
noncomputable abbrev NLp:List Str:=["_law_yard", "_law_table_here", "_law_places", "_law_cells", "_law_cell", "_law_start", "_law_goal"]
theorem EZ:ao NLp ["_law_yard", "_law_table_here", "_law_places", "_law_cells"] (ah ou):=L2.zQ
theorem tE {c:Cs}{ys:Ys}{x:Xs}{J:TJ}{TC f fw fp:Addr}{fd dw dp:FuncData}(F:zH K "_law_post" "_law_post" ou f fd)(Y:fU K ys)(W:Wy K TC fw dw J)(Gw:zg P w K mg base aD 3 fw dw ["self", "place", "goal", "came"] (fM J))
  (mp:bA K ys.zi "post" fp) (bp:Binds K dp Lg []) (Gp:zg P w K mg base (e7 P w) 4 fp dp Lg (nR K c TC J ys x)) :
  zg P w K mg base aD 5 f fd ["_law_yard", "_law_table_here", "_law_places", "_law_cells"] (pE K c TC J ys):=by
 refine F.ok EZ (fun _ _ _ _ h=>?_) (fun _ _ _ s H _ Q E hr h=>?_)
 ·obtain⟨a,s,cs,ns,rfl,_⟩:=h
  rfl
 ·obtain⟨a,st,cs,ns,rfl,hY,hT,hP,hW,Mr,RL,hnl,Pz,Cu,CW,q⟩:=h
  have hu:=hr.units
  have EU:zm 3 _:=hr.mono (by decide)
  refine⟨_,ai (bR PassesOwn.never rfl (bx (pv 3)) (av (i:=4) EZ.nd rfl (Or.inl rfl))
   (af (az (i:=5) EZ.nd rfl (Or.inl rfl) (aB bH (pv 4) (pv 2)))
   (af (az (i:=6) EZ.nd rfl (Or.inl rfl) (aB bH (aB bN (aB bN (pv 5) aj) (aB bH (aB c3 (pv 4) aj) (aB eG (pv 2) aj))) (pv 2)))
   (ai (aM (au (yb hu) (aC (pv 1) W.cl W.m Gw EU W.b .nil ap (aa (pv 5) (aa (pv 6) (aa ce ad)))) (aP ad) (ax _))
    (ai (aN (aC (pv 0) Y.cl mp Gp hr bp .nil i5 (aa (pv 5) (aa (pv 6) (aa (aB bN aj (aB bH (aB c3 (pv 4) aj) aj)) (aa (aB bH (pv 4) (aB oC aj aj)) ad))))))) aF))))),?_⟩
  have np:(0:Int) < (a.n:Int):=by omega
  have Wq:(0:Int) < (a.n:Int) - 1:=by omega
  refine⟨_,rfl,cs,rfl,⟨_,zj.of Mr⟩,?_⟩
  refine dX (K:=K) (a:=cs) (xs:=ns.map V.int) (fun i σ H2=>∃ (a4 a5 a6:Option V)(s2:YS),zo [a.le,a.dn] H H2/\H2 cs=some (.lst (ns.map V.int))/\zW K ys H2 a s2/\Ab a s2/\Ew a s2/\D8 a st s2/\s2.U.length <= st.U.length + i/\s2.done.length <= st.done.length + i/\σ=[some (.ref a.y),some (.ref a.tb),some (.int a.n),some (.ref cs),a4,a5,a6])
   ⟨none,none,none,st,zf.zS (zf.refl H),Mr,hY,hP,hW, .nil,by omega,by omega,rfl⟩ (fun i σ H2 _ zk=>by obtain⟨_,_,_,_,_,g,_⟩:=zk;exact zj.of g) ?_ ?_
  rotate_left
  ·rintro σ H2 ⟨a4,a5,a6,s2,o2,_,BF,Of,Og,AF,h1,h2,rfl⟩
   rw[length_map]at h1 h2
   exact q H2 s2 o2 BF Of Og AF h1 h2
  rintro i v σ H2 hv ⟨a4,a5,a6,s2,o2,g2,BF,Of,Og,AF,h1,h2,rfl⟩
  have hi:i < ns.length:=by have:=(gQ0 hv);rw[length_map]at this;exact this
  obtain⟨d,rfl⟩:∃ d,v=V.int d:=by
   rw[getElem?_map,getElem?_eq_getElem hi]at hv
   exact⟨_,(Option.some.inj hv).symm⟩
  have IY:zc c TC J H2 a:=An.keep W hT (zo.zC (fun b hb=>by
   simp only[mem_cons,not_mem_nil,or_false]at hb
   rcases hb with rfl | rfl
   ·exact hY.AS _ (by simp)
   ·exact hY.AS _ (by simp)) o2)
  refine⟨_,rfl,_,rfl,_,_,rfl,rfl,np,?_⟩
  show dD 5 (V.int (d % (a.n:Int))) _ _ _
  have e1:=emod_nonneg d (show(a.n:Int) ≠ 0 by omega)
  have e2:=emod_lt_of_pos d np
  obtain⟨a',HP,RM⟩:∃ a':Nat,d % (a.n:Int)=(a':Int)/\a' < a.n:=⟨(d % (a.n:Int)).toNat,by omega,by omega⟩
  rw[HP]
  refine⟨_,rfl,_,_,rfl,rfl,_,rfl,_,_,rfl,rfl,⟨by decide,by decide⟩,_,rfl,_,_,rfl,rfl,_,_,rfl,rfl,Wq,_,_,rfl,rfl,_,rfl,_,_,rfl,rfl,np,?_⟩
  show dD 6 (V.int (((a':Int) + 1 + d / 4 % ((a.n:Int) - 1)) % (a.n:Int))) _ _ _
  have e3:=emod_nonneg (d / 4) (show(a.n:Int) - 1 ≠ 0 by omega)
  have e4:=emod_lt_of_pos (d / 4) Wq
  obtain⟨b',B9,RN,Ho⟩:∃ b':Nat,((a':Int) + 1 + d / 4 % ((a.n:Int) - 1)) % (a.n:Int)=(b':Int)/\b' < a.n/\a' ≠ b':=by
   generalize d / 4 % ((a.n:Int) - 1)=f at e3 e4 ⊢
   have e5:=emod_nonneg ((a':Int) + 1 + f) (show(a.n:Int) ≠ 0 by omega)
   have e6:=emod_lt_of_pos ((a':Int) + 1 + f) np
   refine⟨(((a':Int) + 1 + f) % (a.n:Int)).toNat,by omega,by omega,fun z=>?_⟩
   rcases Int.lt_or_le ((a':Int) + 1 + f) (a.n:Int) with h | h
   ·rw[emod_eq_of_lt (by omega) h]at z;omega
   ·have:((a':Int) + 1 + f) % (a.n:Int)=(a':Int) + 1 + f - a.n:=by
     rw[show (a':Int) + 1 + f=((a':Int) + 1 + f - a.n) + a.n by omega,Int.add_emod_right,emod_eq_of_lt (by omega) (by omega)];omega
    omega
  rw[B9]
  obtain⟨Bf,fst,AJ,zM,Af⟩:=IY.i
  refine⟨_,rfl,a.tb,Bf,fst,rfl,AJ,Af,_,rfl,_,rfl,a.tb,a.n,a.wy,a',b',none,rfl,IY.j,RM,RN,fun D H3 s3 hD gD=>⟨zero_le _,fun o7 CG=>?_⟩⟩
  have s4:=s3.new (o := .lst []) CG
  have IZ:(upd H3 o7 (.lst [])) D=some (.lst (nV (a.wy a' b' none))):=by rw[ae (ag gD CG)];exact gD
  have g7:(upd H3 o7 (.lst [])) o7=some (.lst (([]:List Int).map V.int)):=ac
  generalize upd H3 o7 (.lst [])=H4 at s4 IZ g7 ⊢
  have Lj:=zu.same BF s4
  have o4:zo [a.le,a.dn] H H4:=o2.trans (zf.zS s4)
  refine⟨D,o7,iz (a.wy a' b' none),[],rfl,rfl,by rw[← pS];exact zj.of IZ,zj.of g7,_,rfl,?_⟩
  by_cases hw:a.wy a' b' none=[]
  ·rw[decide_eq_true (show iz (a.wy a' b' none)=[] by rw[hw];rfl)]
   exact aI ⟨_,_,_,s2,o4,s4 _ _ g2,Lj,Of,Og,AF,by omega,by omega,rfl⟩
  have hiz:¬ iz (a.wy a' b' none)=[]:=fun z=>hw (by unfold iz at z;exact map_eq_nil_iff.mp z)
  rw[decide_eq_false hiz]
  refine aJ ⟨_,rfl,a.y,a.dy,_,rfl,Lj.ins,rfl,_,rfl,_,rfl,_,rfl,_,_,rfl,rfl,⟨by decide,by decide⟩,_,_,rfl,rfl,(by show (0:Int) < 4;decide),_,_,rfl,rfl,_,rfl,_,_,rfl,rfl,⟨by decide,by decide,by decide⟩,_,_,rfl,rfl,(by show (0:Int) < 10 ^ (60:Int).toNat;decide +kernel),?_⟩
  have w1:=emod_nonneg d (show(10 ^ (60:Int).toNat:Int) ≠ 0 by decide +kernel)
  have w2:=emod_lt_of_pos d (show (0:Int) < 10 ^ (60:Int).toNat by decide +kernel)
  have l1:=emod_nonneg (d / 12) (show (4:Int) ≠ 0 by decide)
  have l2:=emod_lt_of_pos (d / 12) (show (0:Int) < 4 by decide)
  dsimp only
  generalize d % 10 ^ (60:Int).toNat=wd at w1 w2 ⊢
  have hwd:IC (.int wd)=true:=by
   unfold IC
   exact decide_eq_true (by rw[if_neg (by omega)];exact w2)
  obtain⟨len,hlen,K4⟩:∃ len:Int,1 + d / 12 % 4=len/\1 <= len/\len <= 4:=⟨_,rfl,by omega,by omega⟩
  rw[hlen]
  have gd:=qJ (n:=a.n) (wy:=a.wy) (m:=s2.U.length) RM RN ⟨K4.1,by omega⟩ hwd Ho hw (by omega)
  have Hg:zc c TC J H4 a:=An.keep W IY (zf.zC s4)
  refine⟨a.y,a.dy,a.tb,a.ro,a.la,a.le,a.li,a.dn,a.lx,a.zX,a.lt,a.n,a.zw,a.ps,a.wy,s2, .int a', .int b', .int len, .int wd,rfl,Lj,Hg, .int _, .int _, .int _, .int _,by omega,by omega,(fun h=>by rw[gd]at h;cases h),(fun h=>by rw[gd]at h;cases h),(fun h=>by rw[gd]at h;cases h),(fun h=>by rw[gd]at h;cases h),(fun h=>by rw[gd]at h;cases h),fun _ H5 o5 En=>?_⟩
  refine⟨_,_,_,dP s2 a' b' len wd,o4.trans o5,?_,En,Of.post RM RN ⟨by omega,by omega⟩ (by omega),Og.post hw,AF.snoc K4,?_,?_,rfl⟩
  ·exact o5 _ _ (fun z=>RL (by simp only[mem_cons,not_mem_nil,or_false]at z ⊢;rcases z with z | z<;>simp[z])) (s4 _ _ g2)
  ·show(s2.U ++ [_]).length <= _
   rw[length_append,length_singleton];omega
  ·show(s2.done ++ [_]).length <= _
   rw[length_append,length_singleton];omega
end K67
namespace L2
open PySem
theorem zg.exP {P:Program}{w:World}{K:Frag}{mg:Str->Option Value}{base:Heap}{CX:lJ}{k:Nat}{f:Addr}{fd:FuncData}{ps:List Str} {ι:Type} {p:ι->Prop} {sp:ι->Sp} (h:∀ i,p i->zg P w K mg base CX k f fd ps (sp i)) (h0:∀ i vs H Q E,sp i vs H Q E->vs.length=ps.length):zg P w K mg base CX k f fd ps (fun vs H Q E=>∃ i,p i/\sp i vs H Q E) :=
 ⟨fun vs H Q E zk=>by obtain⟨i,_,q⟩:=zk;exact h0 i vs H Q E q,fun A outer s H args us vs Q E hr he hb hv zk=>by obtain⟨i,hp,hs⟩:=zk;exact(h i hp).run A outer s H args us vs Q E hr he hb hv hs⟩
end L2
namespace K67
open PySem L2
variable {P:Program}{w:World}{K:Frag}{mg:Str->Option Value}{base:Heap}
theorem pZ {H:Hp}{Tb:Addr}{ps:Array Value}{u:HO}(g:H Tb=some (.Bb ps)):zG H (upd H Tb u):=fun b o e n=>by
 by_cases h:b=Tb
 ·subst h;rw[g]at e;cases e;exact n.elim
 ·rw[ae h];exact e
theorem zW.tb {K:Frag}{ys:Ys}{H:Hp}{a:YA}{s:YS}{Tb:Addr}{ps:Array Value}{u:HO}(g:H Tb=some (.Bb ps))(h:zW K ys H a s):zW K ys (upd H Tb u) a s:=by
 have k:=pZ (u:=u) g
 have l:∀ b xs,H b=some (.lst xs)->upd H Tb u b=some (.lst xs):=fun b xs e=>by rw[ae (b8 e g (by intro z;cases z))];exact e
 obtain⟨v1,a1,p1⟩:=h.Ap
 obtain⟨v2,a2,p2⟩:=h.hle
 obtain⟨v3,a3,p3⟩:=h.BE
 obtain⟨v4,a4,p4⟩:=h.AR
 refine⟨k _ _ h.ins True.intro,?_,⟨v1,l _ _ a1,Paired.mono (fun v ln z=>?_) p1⟩,⟨v2,l _ _ a2,Paired.mono (fun v t z=>?_) p2⟩,⟨v3,l _ _ a3,Paired.mono (fun v q z=>z.keep k) p3⟩,⟨v4,l _ _ a4,Paired.mono (fun v m z=>z.keep k) p4⟩,h.ne,fun b hb=>let ⟨xs,e⟩:=h.hex b hb; ⟨xs,l _ _ e⟩⟩
 ·rcases h.ID with (e | ⟨o,e⟩) | e
  ·exact .inl (.inl (k _ _ e True.intro))
  ·exact .inl (.inr ⟨o,k _ _ e True.intro⟩)
  ·exact .inr e
 ·obtain⟨x,dx,pa,zB,e,L,n⟩:=z
  exact⟨x,dx,pa,zB,e,⟨k _ _ L.ins True.intro,l _ _ L.lst,k.Di L.Au⟩,n⟩
 ·obtain⟨x,dx,wa,e,h1,h2,n⟩:=z
  exact⟨x,dx,wa,e,k _ _ h1 True.intro,l _ _ h2,n⟩
noncomputable abbrev dN:Stmt:=(aG jy).getD 2 (.Pass ⟨0,0,0,0⟩)
noncomputable abbrev NPk:List Str:=["_law_moves", "_law_draws_here"]
noncomputable abbrev RO:List Str:=["_law_draws_here"]
noncomputable def Wr (Bn:List V)(k:Nat):Prop:=k <= Bn.length/\∃ ds:List Int,Bn=ds.map V.int
noncomputable def iT (a:YA)(s:YS):Int:=l4 s * ((2 * a.ps.length + 1:Nat):Int)
noncomputable def rU (K:Frag)(c:Cs)(TC:Addr)(J:TJ)(ys:Ys)(Tb:Addr):Sp:=fun vs H Q _=>∃ (a:YA)(s:YS)(N:Nat->Nat->Nat)(cl:Int),vs=[.ref a.y, .int cl]/\B6 K c TC J (yx ys []) H a s/\Ab a s/\Cc a s N/\s.done.length=s.U.length/\0 <= iT a s/\iT a s <= 1000/\H Tb=some (.Bb #[]) /\
 ∀ (D:Addr)(zP:List V)(n:Nat)(s':YS)(N':Nat->Nat->Nat)(H':Hp),zo (Tb :: a.four) H H'->zW K (yx ys []) H' a s'->Ab a s'->Et a s n s'->Cc a s' N'->H' D=some (.lst zP)->zP.length=n->(n:Int) <= iT a s'->bT a s' = []->Q (.ref D) H'
theorem RP:jU NPk ["_law_moves"] RO (ah dN):=⟨rfl,rfl,rfl,by decide +kernel,rfl,by decide +kernel,by decide +kernel,by decide +kernel,by decide +kernel⟩
theorem v6 {f c' la:Addr}{clos:List (Str × Addr)}{doc pm AX:Value}{oc:Obj}(lk:base.get? f=some (PySem.W.fnMade "_law_pick" "_law_run.<locals>._law_pick" (bB dN) (aG dN) (ah dN) clos doc pm c' AX))(Dy:base.get? c' = some oc)(Bc:jW oc "_law_run.<locals>._law_pick")(C:Kc base clos RO [.ref la]) :
  zg P w K mg base aD 3 f (PySem.W.fnX "_law_pick" "_law_run.<locals>._law_pick" (bB dN) (aG dN) (ah dN) clos .none .none doc pm none (.ref c') AX) ["_law_moves"] (kX la (fun _=>True) Wr):=by
 refine yK lk Dy Bc RP C (fun vs H Q E h=>?_) (fun A outer s H vs Q E hr h=>?_)
 ·obtain⟨p,zK,Bn,k,rfl,_⟩:=h
  rfl
 ·obtain⟨p,zK,Bn,k,rfl,gp,Vq,gl,⟨Ms,ds,rfl⟩,_,q⟩:=h
  refine⟨_,ai (ar (cv plainAttrs_list PySem.F.slot_list_pop PySem.F.type_list_pop mD (pv 1) (aa aj ad))),?_⟩
  cases ds with
  | nil=>exact absurd Ms (by show ¬ k + 1 <= 0;omega)
  | cons d ds =>
   refine⟨_,rfl, .inl ⟨rfl,_,zj.of gl⟩,la,(d :: ds).map V.int,0,0, .int d,rfl,rfl,gl,by decide,by decide,Ky _,rfl,?_⟩
   exact q (ds.map V.int) d _ (fun b o hb e=>by rw[ae (fun z=>hb (by rw[z];exact mem_cons_self))];exact e) ac ⟨Nat.le_of_succ_le_succ Ms,ds,rfl⟩
noncomputable abbrev NRn:List Str:=["_law_yard", "_law_cell", "_law_most", "_law_draws_here", "_law_pick"]
theorem Fb:ao NRn ["_law_yard", "_law_cell"] (ah jy):=L2.zQ
noncomputable abbrev CSk:List (Nat × Str):=[(3, "_law_draws_here")]
noncomputable abbrev rM (K:Frag)(c:Cs)(TC:Addr)(J:TJ)(ys:Ys)(pk:Addr)(zO:List V):Sp:=fun vs H Q E=>∃ i:List Addr × Addr,zO=[.ref i.2]/\kW K c TC J (yx ys i.1) pk i.2 (fun _=>True) Wr vs H Q E
theorem qB {c:Cs}{TC:Addr}{J:TJ}{ys:Ys}{pk la:Addr}{S:Hp->Prop}{Ok:List V->Nat->Prop}{vs:List V}{H:Hp}{Q:VK}{E:XK}(h:kW K c TC J ys pk la S Ok vs H Q E):vs.length=3:=by
 obtain⟨_,_,_,_,rfl,_⟩:=h
 rfl
theorem yT {clos:List (Str × Addr)}{doc pm AX:Value}{c':Addr}:Binds K (PySem.W.fnX "_law_pick" "_law_run.<locals>._law_pick" (bB dN) (aG dN) (ah dN) clos .none .none doc pm none (.ref c') AX) ["_law_moves"] [] :=
 .all fun us hl=>by cases us with | nil=>cases hl | cons a t=>cases t with
  | nil=>rfl | cons=>cases hl
theorem vF {c:Cs}{ys:Ys}{J:TJ}{TC f cc Tb fw fm fo fr:Addr}{df dw dm HQ dr:FuncData}(F:zH K "_law_run" "_law_run" jy f df)(Bc:df.code = .ref cc)(NS:Ek mg base cc Tb)(T:eW mg)(Y:fU K ys)(W:Wy K TC fw dw J)
  (mm:mg "_law_draws" = some (.ref fm)) (km:keepIn K (.ref fm)=true) (bm:Binds K dm ["_law_cell", "_law_amount", "_law_base"] []) (Gm:zg P w K mg base aD 2 fm dm ["_law_cell", "_law_amount", "_law_base"] gN)
  (mo:mg "most_moves" = some (.ref fo)) (ko:keepIn K (.ref fo)=true) (bo:Binds K HQ ["yard"] []) (Go:∀ ex,zg P w K mg base aD 2 fo HQ ["yard"] (kZ K c TC J (yx ys ex)))
  (mr:mg "run" = some (.ref fr)) (kr:keepIn K (.ref fr)=true) (br:Binds K dr ["yard", "pick", "most"] [])
  (Gr:∀ (zy:Heap)(pk la:Addr)(dp:FuncData)(S:Hp->Prop)(Ok:List V->Nat->Prop),PySem.W.FnAt pk zy->Binds K dp ["_law_moves"] []->zg P w K mg zy aD 3 pk dp ["_law_moves"] (kX la S Ok)->∀ ex,zg P w K mg zy aD 9 fr dr ["yard", "pick", "most"] (kW K c TC J (yx ys ex) pk la S Ok)) :
  zg P w K mg base aD 10 f df ["_law_yard", "_law_cell"] (rU K c TC J ys Tb):=by
 refine F.okC Fb (fun vs H Q E h=>?_) (fun cdv A0 outer s H vs Q E Ws hr h=>?_)
 ·obtain⟨a,s,N,cl,rfl,_⟩:=h
  rfl
 ·obtain⟨a,st,N,cl,rfl,hI,hJ,hC,Cu,hM0,hM1,Cv,q⟩:=h
  rw[Bc]at Ws
  have Ai:zm 2 _:=hr.mono (by decide)
  have GO:=zg.ex Go
  have GR:∀ {clos:List (Str × Addr)}{pk c':Addr}{oc:Obj}{doc pm AX:Value}{zO:List V}{zy:Heap},zy.get? pk=some (PySem.W.fnMade "_law_pick" "_law_run.<locals>._law_pick" (bB dN) (aG dN) (ah dN) clos doc pm c' AX)->zy.get? c' = some oc->jW oc "_law_run.<locals>._law_pick"->Kc zy clos RO zO->zg P w K mg zy aD 9 fr dr ["yard", "pick", "most"] (rM K c TC J ys pk zO) :=
   fun {clos pk c' oc doc pm AX zO zy} h1 h2 h3 h4=>zg.exP (fun i hi=>Gr zy pk i.2 _ _ _ ⟨_,_,_,_,h1⟩ yT (v6 (la:=i.2) h1 h2 h3 (hi ▸ h4)) i.1) fun i vs H Q E h=>qB h
  refine⟨_,mj 2 (af (az (i:=2) Fb.nd rfl (Or.inl rfl) (ay GO Ai rfl mo ko bo .nil ap (aa (pv 0) ad)))
   (ai (az (i:=3) Fb.nd rfl (Or.inr rfl) (ay Gm Ai rfl mm km bm .nil ap (aa (pv 1) (aa (aB bN (pv 2) aj) (aa aj ad)))))))
   (vg (i:=4) (qual := "_law_run.<locals>._law_pick") (clos:=[("_law_draws_here",s.heap.objs.size + 1)]) NS Fb.nd rfl (Or.inl rfl) Ws.symm rfl rfl rfl rfl rfl (fun pk c' oc doc pm AX hco =>
    (ai (ar (sV (cs:=CSk) (sps:=rM K c TC J ys pk) (fun zO zy B=>GR (B.pn _ (mem_cons_self ..)) (B.pn _ (mem_cons_of_mem _ (mem_cons_self ..))) hco (B.cap rfl (List.forall_mem_cons.mpr ⟨rfl,fun _ h=>nomatch h⟩))) (List.forall_mem_cons.mpr ⟨⟨rfl,rfl,rfl⟩,fun _ h=>nomatch h⟩) hr rfl mr kr br .nil ap (aa (pv 0) (aa (pv 4) (aa (aB bN (pv 2) aj) ad)))))))),?_⟩
  obtain⟨M,hMe⟩:∃ M:Nat,iT a st=(M:Int):=⟨(iT a st).toNat,by omega⟩
  refine⟨fun σ Hc=>∃ (la:Addr)(ds:List Int),zf H Hc/\H la=none/\Hc la=some (.lst (ds.map V.int))/\ds.length=M + 5/\σ=[some (.ref a.y),some (.int cl),some (.int M),some (.ref la),none],?_,?_⟩
  ·refine⟨_,rfl,[],a,st,rfl,hI,by have:=hJ.Ao;omega,fun H1 s1=>?_⟩
   show dD 2 (V.int (iT a st)) _ _ _
   rw[hMe]
   exact⟨_,rfl,_,rfl,_,_,rfl,rfl,cl,M + 5,48,rfl,by omega,by decide,by decide,fun la ds H2 s2 Ap Ac hl _=>⟨la,ds,s1.trans s2,s1.free Ap,Ac,hl,rfl⟩⟩
  rintro σ Hc ⟨la,ds,s1,Ap,Ac,hl,rfl⟩
  have HR:=s1 _ _ Cv
  refine⟨#[],HR,True.intro,rfl,fun pk c' oc doc pm AX Iy hpk=>?_⟩
  have lTb:la ≠ Tb:=b8 Ac HR (by intro z;cases z)
  have DV:upd Hc Tb (.Bb Iy) la=some (.lst (ds.map V.int)):=by rw[ae lTb];exact Ac
  have hYc:zW K (yx ys [la]) Hc a st:=zW.IM (e:=[]) hI.Y s1 fun z hz=>by rw[mem_singleton.mp hz];exact .inr ⟨Ap,_,Ac⟩
  have Wt:B6 K c TC J (yx ys [la]) (upd Hc Tb (.Bb Iy)) a st:=⟨zW.tb HR hYc,An.keep W (An.keep W hI.T (zf.zC s1)) (pZ HR),hI.O,hI.G⟩
  have Ry:la ∉ a.four:=fun z=>by obtain⟨xs,e⟩:=hI.Y.AS la z;rw[Ap]at e;cases e
  have Wu:zo (Tb :: a.four) H (upd Hc Tb (.Bb Iy)):=fun b o hb e=>by
   rw[ae (fun z=>hb (by rw[z];exact mem_cons_self))];exact s1 _ _ e
  generalize upd Hc Tb (.Bb Iy)=Hd at DV Wt Wu ⊢
  refine⟨[.ref la], .cons rfl .nil,_,rfl,_,rfl,_,rfl,_,_,rfl,rfl,([la],la),rfl,a,st,(M:Int) + 5,_,rfl,Wt,hJ,mem_cons_self,Ry,DV,⟨by rw[length_map,hl];omega,ds,rfl⟩,by have:=hJ.Ao;omega,by omega,fun _ _=>True.intro,fun D zP Bn n s' H' o' EL Fc hR hD gD AR _ _ hle RQ=>?_⟩
  obtain⟨⟨N',C'⟩,_,Fm,CM,zJ⟩:=hC.Ri hR hJ
  have mo:=C'.most Fc
  have eM:iT a s' = iT a st:=by
   show(s'.U.map (·.len)).sum * _=(st.U.map (·.len)).sum * _
   rw[zJ]
  have mo:(s'.done.length:Int) <= s'.U.length + iT a s':=mo
  refine q D zP n s' N' H' (fun b o hb e=>?_) (zW.IM (e:=[la]) (e':=[]) EL (zf.refl _) fun b hb=>by cases hb) Fc hR C' gD AR (by omega) (RQ (by omega))
  exact o' b o (fun z=>by
   rcases mem_cons.mp z with z | z
   ·rw[z,Ap]at e;cases e
   ·exact hb (mem_cons_of_mem _ z)) (Wu b o hb e)
noncomputable def bO (s:YS)(m:Nat):List Nat:=(List.range m).filter fun k=>(aL s k).isSome
theorem rg (s:YS)(i:Nat):bO s (i + 1)=if (aL s i).isSome then bO s i ++ [i] else bO s i:=by
 unfold bO
 rw[range_succ,filter_append]
 cases h:(aL s i).isSome with
 | true=>rw[if_pos rfl,filter_cons_of_pos (by simpa using h)];rfl
 | false=>rw[if_neg (by decide),filter_cons_of_neg (by simpa using h)];simp
theorem mR (s:YS)(m:Nat):(bO s m).length <= m:=by
 have:=length_filter_le (fun k=>(aL s k).isSome) (List.range m)
 rw[length_range]at this
 exact this
theorem cS {s:YS}{k:Nat}{ln:bC}(h:s.lanes[k]? = some ln):(aL s k).isSome = !ln.qs.isEmpty:=by
 unfold aL
 rw[h]
 cases hq:ln.qs<;>simp[hq]
theorem jC {s:YS}{m k:Nat}{ln:bC}(hk:k < m)(h:s.lanes[k]? = some ln)(hq:ln.qs ≠ []):k ∈ bO s m :=
 mem_filter.mpr ⟨mem_range.mpr hk,by rw[cS h];cases hh:ln.qs with
  | nil=>exact absurd hh hq
  | cons _ _=>rfl⟩
theorem qw (a:YA)(s:YS)(m:Nat):(cp a s m).map (·.1)=bO s m:=by
 unfold cp bO
 rw[map_map]
 exact List.map_id _
theorem pf (L:Nat):∀ (w:List Nat)(f:Nat->Nat),w.Nodup->(∀ x ∈ w,x < L)->(w.map f).sum <= ((List.range L).map f).sum:=by
 intro w
 induction w with
 | nil=>intro f _ _;exact zero_le _
 | cons x w ih =>
  intro f hn hl
  obtain⟨hx,hn⟩:=nodup_cons.mp hn
  have e1:((List.range L).map f).sum=((List.range L).map fun i=>if i=x then 0 else f i).sum + f x:=by
   have e2:=gG (c:=f x) (i0:=x) L
   rw[if_pos (hl x mem_cons_self)]at e2
   have e3:=iX (f:=fun i=>if i=x then 0 else f i) (g:=fun i=>if i=x then f x else 0) (List.range L)
   rw[e2]at e3
   rw[← e3]
   congr 1
   refine map_congr_left fun i _=>?_
   by_cases h:i=x
   ·simp[h]
   ·simp[h]
  have e4:=ih (fun i=>if i=x then 0 else f i) hn fun y hy=>hl y (mem_cons_of_mem _ hy)
  have e5:(w.map fun i=>if i=x then 0 else f i)=w.map f:=map_congr_left fun i hi=>if_neg fun z=>hx (by rw[← z];exact hi)
  rw[e5]at e4
  rw[map_cons,sum_cons,e1]
  omega
noncomputable def uH (s:YS)(m k:Nat):Nat:=match s.lanes[k]? with
 | some ln=>(cnt m ln.qs).length
 | none=>0
noncomputable def vZ (s:YS)(m p:Nat):Nat:=match s.lies[p]? with
 | some qs=>(cnt m qs).length
 | none=>0
noncomputable def pG (a:YA)(s:YS)(m:Nat):Nat:=((List.range a.n).map (vZ s m)).sum + ((List.range a.ps.length).map (uH s m)).sum
theorem uU {a:YA}{s:YS}{N:Nat->Nat->Nat}(G:Az a s N zr)(J:Ab a s){m:Nat}{t:aU}(ht:s.U[m]? = some t):t.gone <= (pG a s m:Int):=by
 have g0:((N m 0 + 0:Nat):Int)=t.gone:=G.g0 m t ht
 have hw:=J.Ad m t ht
 have h1:∀ j,j <= t.way.length->((t.way.take j).map (uH s m)).sum + N m j=N m 0:=by
  intro j
  induction j with
  | zero=>intro _;show 0 + _=_;omega
  | succ j ih =>
   intro hj
   have ih:=ih (by omega)
   have hk:t.way[j]? = some (t.way[j]'(by omega)):=getElem?_eq_getElem (by omega)
   generalize t.way[j]'(by omega)=k at hk
   have AZ:k < s.lanes.length:=by rw[J.lanes];exact hw.1 k (mem_of_getElem? hk)
   have zJ:=getElem?_eq_getElem AZ
   have hq:cnt m (s.lanes[k]).qs=ix (N m (j + 1) + 0) (N m j):=G.q m t ht j k _ hk zJ
   have hd:N m (j + 1) + 0 <= N m j:=(G.dn m t ht j (by omega)).1
   rw[take_succ,hk]
   show(((t.way.take j) ++ [k]).map (uH s m)).sum + _=_
   rw[map_append,sum_append]
   have e:uH s m k=N m j - N m (j + 1):=by unfold uH;rw[zJ];dsimp only;rw[hq,pJ];omega
   show _ + (uH s m k + 0) + _=_
   rw[e]
   omega
 have h2:=h1 t.way.length (Nat.le_refl _)
 rw[take_length]at h2
 have h3:=pf a.ps.length t.way (uH s m) hw.2 hw.1
 obtain⟨x,y,_,eg,_,hy⟩:=J.lets m t ht
 have Wv:y < s.lies.length:=by rw[J.lies];exact hy
 have hl:=G.AK m t ht y _ (getElem?_eq_getElem Wv)
 rw[if_pos eg.symm]at hl
 have h4:=pf a.n [y] (vZ s m) (by simp) (fun z hz=>by rw[mem_singleton.mp hz];exact hy)
 have e5:vZ s m y=N m t.way.length:=by unfold vZ;rw[getElem?_eq_getElem Wv];dsimp only;rw[hl,pJ];omega
 have h4:vZ s m y + 0 <= _:=h4
 unfold pG
 omega
noncomputable def rZ (K:Frag)(c:Cs)(TC:Addr)(J:TJ)(ys:Ys):Sp:=fun vs H Q _=>∃ (a:YA)(s:YS),vs=[.ref a.y, .ref a.tb]/\B6 K c TC J ys H a s/\s.lanes.length=a.ps.length/\a.ps.length <= 40/\(∀ (k:Nat)(ln:bC),s.lanes[k]? = some ln->ln.b=0) /\
 ∀ (D:Addr)(H':Hp),zf H H'->H D=none->H' D=some (.lst (aZ (bO s a.ps.length)))->Q (.ref D) H'
noncomputable abbrev NFi:List Str:=["_law_yard", "_law_table_here", "_law_filled_here", "_law_lane", "_law_rights", "_law_back", "_law_holder", "_law_queue"]
theorem CH:ao NFi ["_law_yard", "_law_table_here"] (ah sH):=L2.zQ
theorem vO {c:Cs}{ys:Ys}{J:TJ}{TC f fw ft:Addr}{fd dw dt:FuncData}(F:zH K "_law_filled" "_law_filled" sH f fd)(T:eW mg)(L:nu K c)(Y:fU K ys)(W:Wy K TC fw dw J)
  (mt:bA K ys.zi "lane_told" ft) (bt:Binds K dt ["self", "lane"] []) (Gt:zg P w K mg base aD 2 ft dt ["self", "lane"] (gL K ys)) :
  zg P w K mg base aD 3 f fd ["_law_yard", "_law_table_here"] (rZ K c TC J ys):=by
 refine F.ok CH (fun _ _ _ _ h=>?_) (fun _ _ _ s H _ Q E hr h=>?_)
 ·obtain⟨a,s,rfl,_⟩:=h
  rfl
 ·obtain⟨a,st,rfl,hI,BA,h40,F7,q⟩:=h
  have hu:=hr.units
  have Ai:zm 2 _:=hr.mono (by decide)
  refine⟨_,af (az (i:=2) CH.nd rfl (Or.inl rfl) (aP ad))
   (af (bR PassesOwn.never rfl (aX rfl T.range (aa (aw aq rfl T.len PySem.boot_len (aa (al (al (pv 1) rfl) rfl) ad)) ad)) (av (i:=3) CH.nd rfl (Or.inl rfl))
    (af (i4 (aC (pv 0) Y.cl mt Gt Ai bt .nil ap (aa (pv 3) ad)) (eD rfl (aO (av (i:=4) CH.nd rfl (Or.inl rfl)) (aO (av (i:=5) CH.nd rfl (Or.inl rfl)) (aO (av (i:=6) CH.nd rfl (Or.inl rfl)) (aO (av (i:=7) CH.nd rfl (Or.inl rfl)) cO))))))
    (af (aM (au m5 (pv 5) aj (ax _)) (ai (ar ce)) aF)
    (ai (aM (au (i7 hu) (pv 7) (aP ad) (ax _)) (ai (aN (cv plainAttrs_list PySem.F.slot_list_append PySem.F.type_list_append bD (pv 2) (aa (pv 3) ad)))) aF)))))
   (ai (ar (pv 2)))),?_⟩
  refine⟨zero_le _,fun D hD=>?_⟩
  have s1:=(zf.refl H).new (o := .lst []) hD
  have g1:(upd H D (.lst [])) D=some (.lst []):=ac
  show dD 2 (V.ref D) _ _ _
  generalize upd H D (.lst [])=H1 at s1 g1 ⊢
  have Ba:=hI.same W s1
  obtain⟨Bf,fst,AJ,zM,Af⟩:=Ba.T.i
  have FY:a.zw.length=a.ps.length:=Paired.length Ba.T.l.2.2
  refine⟨_,rfl,a.tb,TC,Bf,fst,_,rfl,AJ,W.cl,W.nl,zM,a.lx,c.land,a.zX,_,_,rfl,Ba.T.l.1,L.cl,L.nl,rfl,a.lt,_,rfl, .inr (zt.of Ba.T.l.2.1),(a.zw.length:Int),rfl,by omega,by omega,?_⟩
  rw[toNat_natCast,FY]
  refine bP (n:=a.ps.length) (fun i σ H2=>∃ a3 a4 a5 a6 a7:Option V,zf H H2/\H2 D=some (.lst (aZ (bO st i)))/\σ=[some (.ref a.y),some (.ref a.tb),some (.ref D),a3,a4,a5,a6,a7])
   ⟨none,none,none,none,none,s1,g1,rfl⟩ ?_ ?_
  ·rintro i σ H2 hi ⟨a3,a4,a5,a6,a7,s2,g2,rfl⟩
   rw[zero_add]
   have AH:=hI.same W s2
   have zJ:=getElem?_eq_getElem (show i < st.lanes.length by rw[BA];exact hi)
   generalize st.lanes[i]'(by rw[BA];exact hi)=ln at zJ
   refine⟨_,rfl,a.y,a.dy,_,rfl,AH.Y.ins,rfl,_,rfl,a.y,a.dy,a.tb,a.ro,a.la,a.le,a.li,a.dn,st,i,ln,rfl,AH.Y,zJ,fun tp ql zB H3 s3 DQ EW Eo Mu=>?_⟩
   refine⟨tp,_,rfl,zt.of EW,rfl,_,_,rfl,_,_,rfl,_,_,rfl,_,_,rfl,rfl,?_⟩
   refine⟨_,rfl,rfl,_,rfl,?_⟩
   rw[decide_eq_true (show V.int ln.b=V.int 0 by rw[F7 i ln zJ])]
   refine aI ⟨_,rfl,zero_le _,fun o7 CG=>?_⟩
   have u4:=(zf.refl H3).new (o := .lst []) CG
   have g4:(upd H3 o7 (.lst [])) o7=some (.lst []):=ac
   generalize upd H3 o7 (.lst [])=H4 at u4 g4 ⊢
   have IZ:=u4 _ _ (s3 _ _ g2)
   refine neN (f:=sW) (l:=ln.qs) (.lst (zj.of (u4 _ _ Eo)) (um (zN.same u4 Mu))) (.lst (zj.of g4) .nil) (qC _) ⟨_,rfl,?_⟩
   have hs:=rg st i
   rw[cS zJ]at hs
   have Ww:=s2.trans (s3.trans u4)
   cases Bh:ln.qs.isEmpty with
   | true =>
    rw[Bh]at hs
    exact aI ⟨_,_,_,_,_,Ww,by rw[hs];exact IZ,rfl⟩
   | false =>
    rw[Bh]at hs
    have GS:=mR st i
    refine aJ ⟨_,rfl, .inl ⟨rfl,_,zj.of IZ⟩,_,rfl,D,_,_,rfl,rfl,IZ,by unfold aZ;rw[length_map,sizeLine_eq];omega,_,_,_,_,_,fun b o e=>by rw[ae (ag e hD)];exact Ww _ _ e,?_,rfl⟩
    rw[hs]
    show(upd H4 D _) D=some (.lst (aZ (bO st i ++ [i])))
    rw[ac,← qT]
  ·rintro σ H2 ⟨a3,a4,a5,a6,a7,s2,g2,rfl⟩
   exact⟨_,rfl,q D H2 s2 hD g2⟩
theorem ux (m:Nat)(qs:List (Int × Int))(l c:Int):cnt m (qs ++ [(l,c)])=if l=(m:Int) then cnt m qs ++ [c] else cnt m qs:=by
 rw[dE]
 unfold cnt
 by_cases h:l=(m:Int)
 ·rw[if_pos h,filter_cons_of_pos (by simpa using h)];rfl
 ·rw[if_neg h,filter_cons_of_neg (by simpa using h)];simp
theorem wo (m:Nat)(qs:List (Int × Int)):(cnt m qs).length <= qs.length:=by
 unfold cnt;rw[length_map];exact length_filter_le _ _
theorem kL {K:Frag}{a:Addr}{vs:List V}{qs:List (Int × Int)}{m:Nat}{g:TG}{tt:TT}{te:TE}{σ0:St}{H:Hp}{Q:VK}(ha:H a=some (.lst vs))(hL:zN H vs qs)(hn:qs.length < sizeLine)
  (hs:∀ (x:Addr)(l c:Int)(acc:List V)(N:List V->Hp->Prop),H x=some (.tup [.int l, .int c])->N (if l=(m:Int) then acc ++ [.ref x] else acc) H->g (.ref x) σ0 H fun σ2 H2=>tt σ2 H2 fun b H3=>if b=true then te σ2 H3 fun y H4=>N (acc ++ [y]) H4 else N acc H3)
  (hq:∀ D acc,H D=none->acc.length=(cnt m qs).length->Q (.ref D) (upd H D (.lst acc))):c9 (rp K a) g tt te σ0 Q H:=by
 have hl:vs.length=qs.length:=Paired.length hL
 refine bM qs.length hn (fun i acc H'=>H' = H/\acc.length=(cnt m (qs.take i)).length) ⟨rfl,rfl⟩ (fun i acc H' h=>by rw[h.2];exact le_trans (wo _ _) (length_take_le _ _)) (fun i acc H' hi h=>?_) (fun acc H' h=>?_)
 ·obtain⟨rfl,HP⟩:=h
  have hx:vs[i]? = some (vs[i]'(by omega)):=getElem?_eq_getElem (by omega)
  refine⟨⟨vs,_,zj.of ha,hx⟩,fun v H2 y=>?_⟩
  obtain⟨rfl,y⟩:=y
  have hv:=y vs (zj.of ha)
  obtain⟨pr,Cp,x,rfl,gx⟩:=Paired.at hL hv
  obtain⟨l,c⟩:=pr
  refine hs x l c _ (fun Aa H3=>H3=H2/\Aa.length=(cnt m (qs.take (i + 1))).length) gx ⟨rfl,?_⟩
  rw[take_succ,Cp]
  show _=(cnt m (qs.take i ++ [(l,c)])).length
  rw[ux]
  split
  ·rw[length_append,length_append,HP];rfl
  ·exact HP
 ·obtain⟨rfl,HP⟩:=h
  rw[take_of_length_le (Nat.le_refl _)]at HP
  exact⟨⟨vs,zj.of ha,by omega⟩,fun D hD=>hq D acc hD HP⟩
theorem jr (xs:List Nat):Bx (.list (xs.map fun z:Nat=>PyData.int z)) 64:=(fq (m:=0) fun z hz=>by
 obtain⟨x,_,rfl⟩:=mem_map.mp hz
 exact cy _).le (by decide)
theorem lO (f:Nat->Nat)(i:Nat):((List.range (i + 1)).map f).sum=((List.range i).map f).sum + f i:=by
 rw[range_succ,map_append,sum_append];rfl
theorem Ab.qsm {a:YA}{s:YS}(J:Ab a s){k:Nat}{ln:bC}(h:s.lanes[k]? = some ln):ln.qs.length <= 3600:=by
 have h1:=dU (fun ln:bC=>ln.qs.length) h
 have h2:=J.Ec.2
 have h1:ln.qs.length <= iq s:=h1
 omega
theorem Ab.lsm {a:YA}{s:YS}(J:Ab a s){k:Nat}{qs:List (Int × Int)}(h:s.lies[k]? = some qs):qs.length <= 3600:=by
 have h1:=dU (fun q:List (Int × Int)=>q.length) h
 have h2:=J.Ec.2
 have h1:qs.length <= gH s:=h1
 omega
theorem qS {xs F:List Nat}(h:∀ x ∈ xs,x ∈ F):(xs.filter fun k:Nat=>!decide ((k:Int) ∈ iz F))=[]:=by
 rw[filter_eq_nil_iff]
 intro x hx
 rw[decide_eq_true (show (x:Int) ∈ iz F from mem_map_of_mem (h x hx))]
 decide
structure Mw (K:Frag)(c:Cs)(TC:Addr)(J:TJ)(ys:Ys)(H:Hp)(a:YA)(s:YS)(N:Nat->Nat->Nat):Prop where
 I:B6 K c TC J ys H a s
 J:Ab a s
 G:Az a s N zr
 S:CF a s
 r:∀ (k:Nat)(ln:bC),s.lanes[k]? = some ln->1 <= ln.r + ln.b + ln.qs.length
theorem Mw.same {K:Frag}{c:Cs}{TC fw:Addr}{dw:FuncData}{J:TJ}{ys:Ys}{H H':Hp}{a:YA}{s:YS}{N:Nat->Nat->Nat}(W:Wy K TC fw dw J)(h:Mw K c TC J ys H a s N)(e:zf H H'):Mw K c TC J ys H' a s N:=⟨h.I.same W e,h.J,h.G,h.S,h.r⟩
noncomputable def rL (K:Frag)(c:Cs)(TC:Addr)(J:TJ)(ys:Ys):Sp:=fun vs H Q _=>∃ (a:YA)(s:YS)(N:Nat->Nat->Nat)(F:Addr),vs=[.ref a.y, .ref a.tb, .ref F]/\Mw K c TC J ys H a s N/\H F=some (.lst (aZ (bO s a.ps.length)))/\∀ H',Q (.bl true) H'
noncomputable abbrev Oh:List Str:=["_law_yard", "_law_table_here", "_law_filled_here", "_law_letter", "_law_start", "_law_goal", "_law_length", "_law_word", "_law_way", "_law_sent", "_law_place", "_law_lane", "_law_lanes_here"]
noncomputable def vS:Scope:=zQ0
noncomputable def Mx (s:Stmt):Scope:=match s with
 | .Assign _ (.BinOp _ _ (.Call _ (.ListComp _ _ sc _ :: _) _ _) _) _=>sc
 | _=>vS
noncomputable def ifC (s:Stmt):Scope:=match s with
 | .If (.BoolOp _ [_, .Compare (.ListComp _ _ sc _) _ _ _] _) _ _ _=>sc
 | _=>vS
noncomputable def l8:List Stmt:=gr (gq (aG jv) 0)
theorem AW:ao Oh ["_law_yard", "_law_table_here", "_law_filled_here"] (ah jv):=L2.zQ
theorem Mz:As Oh (ah jv) (Mx (gq (gr (gq l8 3)) 0)) ["_law_letter"] [3]:=L2.Bs
theorem M0:As Oh (ah jv) (Mx (gq (gr (gq l8 4)) 0)) ["_law_letter"] [3]:=L2.Bs
theorem M1:As Oh (ah jv) (ifC (gq l8 7)) ["_law_filled_here"] [2]:=L2.Bs
theorem wQ:(["_law_piece", "_law_letter"]:List Str).Nodup:=by decide +kernel
theorem M3:(["_law_lane", "_law_filled_here"]:List Str).Nodup:=by decide +kernel
theorem vx {c:Cs}{ys:Ys}{J:TJ}{TC f fw ft fl fy fp fv:Addr}{fd dw dt dl dy dp dv:FuncData}(F:zH K "_law_at_starts" "_law_at_starts" jv f fd)(T:eW mg)(L:nu K c)(Y:fU K ys)(W:Wy K TC fw dw J)(Gw:zg P w K mg base aD 3 fw dw ["self", "place", "goal", "came"] (fM J))
  (mt:bA K ys.zi "lane_told" ft) (bt:Binds K dt ["self", "lane"] []) (Gt:zg P w K mg base aD 2 ft dt ["self", "lane"] (gL K ys))
  (ml:bA K ys.zi "letter_told" fl) (bl:Binds K dl ["self", "number"] []) (Gl:zg P w K mg base aD 1 fl dl ["self", "number"] (lb K ys))
  (my:bA K ys.zi "lying" fy) (QM:Binds K dy ["self", "place"] []) (Gy:zg P w K mg base aD 1 fy dy ["self", "place"] (pA K ys))
  (mp:bA K ys.zi "posted" fp) (bp:Binds K dp ["self"] []) (Gp:zg P w K mg base aD 1 fp dp ["self"] (jp K ys))
  (mv:bA K ys.zi "way_told" fv) (bv:Binds K dv ["self", "number"] []) (Gv:zg P w K mg base aD 1 fv dv ["self", "number"] (rH K ys)) :
  zg P w K mg base aD 4 f fd ["_law_yard", "_law_table_here", "_law_filled_here"] (rL K c TC J ys):=by
 refine F.ok AW (fun _ _ _ _ h=>?_) (fun _ _ _ s H _ Q E hr h=>?_)
 ·obtain⟨a,s,N,F,rfl,_⟩:=h
  rfl
 ·obtain⟨a,st,N,Fl,rfl,hS,gF,q⟩:=h
  have hu:=hr.units
  have Ah:zm 1 _:=hr.mono (by decide)
  have Ai:zm 2 _:=hr.mono (by decide)
  have EU:zm 3 _:=hr.mono (by decide)
  refine⟨_,af (bR PassesOwn.never rfl (aX rfl T.range (aa (b7 (pv 0) Y.cl mp Gp Ah bp .nil ap) ad)) (av (i:=3) AW.nd rfl (Or.inr rfl))
    (af (i4 (aC (pv 0) Y.cl ml Gl Ah bl .nil ap (aa (pv 3) ad)) (eD rfl (aO (av (i:=4) AW.nd rfl (Or.inl rfl)) (aO (av (i:=5) AW.nd rfl (Or.inl rfl)) (aO (av (i:=6) AW.nd rfl (Or.inl rfl)) (aO (av (i:=7) AW.nd rfl (Or.inl rfl)) cO))))))
    (af (az (i:=8) AW.nd rfl (Or.inl rfl) (aC (pv 0) Y.cl mv Gv Ah bv .nil ap (aa (pv 3) ad)))
    (af (az (i:=9) AW.nd rfl (Or.inl rfl) aj)
    (af (bR PassesOwn.never rfl (aX rfl T.range (aa (al (al (pv 1) rfl) rfl) ad)) (av (i:=10) AW.nd rfl (Or.inl rfl))
     (ai (az (i:=9) AW.nd rfl (Or.inl rfl) (aB bN (pv 9) (aw aq rfl T.len PySem.boot_len (aa (aT (own:=["_law_piece"]) (capN:=["_law_letter"]) (cap:=[3]) Mz rfl (bx (aC (pv 0) Y.cl my Gy Ah QM .nil ap (aa (pv 10) ad)))
      (fun C s' H' fp=>⟨av (i:=0) wQ rfl (Or.inl rfl),cb (au bK (aA (show n9 _ (j5 K) from aE) (pv 0) aj (fun _ _=>rfl)) (pv 1) (ax _)),pv 0⟩)) ad))))))
    (af (bR PassesOwn.never rfl (aX rfl T.range (aa (aw aq rfl T.len PySem.boot_len (aa (al (al (pv 1) rfl) rfl) ad)) ad)) (av (i:=11) AW.nd rfl (Or.inl rfl))
     (ai (az (i:=9) AW.nd rfl (Or.inl rfl) (aB bN (pv 9) (aw aq rfl T.len PySem.boot_len (aa (aT (own:=["_law_piece"]) (capN:=["_law_letter"]) (cap:=[3]) M0 rfl (bx (aA aE (aC (pv 0) Y.cl mt Gt Ai bt .nil ap (aa (pv 11) ad)) aj (fun _ _=>rfl)))
      (fun C s' H' fp=>⟨av (i:=0) wQ rfl (Or.inl rfl),cb (au bK (aA (show n9 _ (j5 K) from aE) (pv 0) aj (fun _ _=>rfl)) (pv 1) (ax _)),pv 0⟩)) ad))))))
    (af (az (i:=12) AW.nd rfl (Or.inl rfl) (fB gQ (pv 8) lr (eB aj)))
    (af (hU (aM (au (jA hu) (pv 8) (aP ad) (ax _)) (ai (az (i:=12) AW.nd rfl (Or.inl rfl) (aC (pv 1) W.cl W.m Gw EU W.b .nil ap (aa (pv 4) (aa (pv 5) (aa ce ad)))))) aF))
    (ai (aM (PW.pt (iy (au k8 (pv 9) (pv 6) (ax _)) (fN (au (i7 hu) (aT (own:=["_law_lane"]) (capN:=["_law_filled_here"]) (cap:=[2]) M1 rfl (bx (pv 12))
      (fun C s' H' fp=>⟨av (i:=0) M3 rfl (Or.inl rfl),cb (au (show dI _ (compareOp .NotIn) (JB K true) from eI) (pv 0) (pv 1) (by with_unfolding_all rfl)),pv 0⟩)) (aP ad) (ax _))))) (ai (ar fD)) aF))))))))))
   (ai (ar fD)),?_⟩
  have hY:=hS.I.Y
  have h60:=hS.J.Ao
  have h12:=hS.I.T.K6
  have h40:=hS.J.Ds
  refine⟨_,rfl,a.y,a.dy,_,rfl,hY.ins,rfl,a.y,a.dy,a.tb,a.ro,a.la,a.le,a.li,a.dn,st,rfl,hY,(st.U.length:Int),rfl,by omega,by omega,?_⟩
  rw[toNat_natCast]
  refine bP (n:=st.U.length) (fun i σ H1=>∃ a3 a4 a5 a6 a7 a8 a9 BB Fe Oi:Option V,zf H H1/\σ=[some (.ref a.y),some (.ref a.tb),some (.ref Fl),a3,a4,a5,a6,a7,a8,a9,BB,Fe,Oi]) ⟨none,none,none,none,none,none,none,none,none,none,zf.refl _,rfl⟩ ?_ fun σ H1 _=>q H1
  rintro m σ H1 hm ⟨a3,a4,a5,a6,a7,a8,a9,BB,Fe,Oi,s1,rfl⟩
  rw[zero_add]
  have RS:=hS.same W s1
  have ht:=getElem?_eq_getElem hm
  generalize st.U[m]=t at ht
  obtain⟨x0,y0,ex,ey,EM,DZ⟩:=hS.J.lets m t ht
  refine⟨_,rfl,a.y,a.dy,_,rfl,RS.I.Y.ins,rfl,_,rfl,a.y,a.dy,a.tb,a.ro,a.la,a.le,a.li,a.dn,st,m,t,rfl,RS.I.Y,ht,fun tp H2 s2 EW=>?_⟩
  refine⟨tp,_,rfl,zt.of EW,rfl,_,_,rfl,_,_,rfl,_,_,rfl,_,_,rfl,rfl,?_⟩
  have Ja:=RS.same W s2
  refine⟨_,rfl,a.y,a.dy,_,rfl,Ja.I.Y.ins,rfl,_,rfl,a.y,a.dy,a.tb,a.ro,a.la,a.le,a.li,a.dn,st,m,t,rfl,Ja.I.Y,ht,fun Wa H3 s3 Od gWa=>?_⟩
  have Gj:=Ja.same W s3
  have RT:=s1.trans (s2.trans s3)
  obtain⟨Bf,fst,AJ,zM,Af⟩:=Gj.I.T.i
  refine⟨_,rfl,a.tb,TC,Bf,fst,_,rfl,AJ,W.cl,W.nl,zM,a.lx,c.land,a.zX,_,_,rfl,Gj.I.T.l.1,L.cl,L.np,rfl,(a.n:Int),rfl,by omega,by omega,?_⟩
  rw[toNat_natCast]
  refine bP (n:=a.n) (fun i σ H4=>∃ BB:Option V,zf H3 H4/\σ=[some (.ref a.y),some (.ref a.tb),some (.ref Fl),some (.int m),some (.int t.start),some (.int t.goal),some (.int t.len),some (.int t.word),some (.ref Wa),some (.int ((((List.range i).map (vZ st m)).sum:Nat):Int)),BB,Fe,Oi]) ⟨BB,zf.refl _,rfl⟩ ?_ ?_
  ·rintro p σ H4 hp ⟨BB,s4,rfl⟩
   rw[zero_add]
   have Dw:=Gj.same W s4
   have AV:=getElem?_eq_getElem (show p < st.lies.length by rw[hS.J.lies];exact hp)
   generalize st.lies[p]'(by rw[hS.J.lies];exact hp)=qs at AV
   have RU:=hS.J.lsm AV
   refine⟨_,rfl,_,rfl,a.y,a.dy,_,rfl,Dw.I.Y.ins,rfl,_,rfl,a,st,p,qs,rfl,Dw.I.Y,AV,fun Hp' zB H5 s5 hHp Wx hLp=>⟨Hp',rfl,⟨_,zj.of Wx⟩,?_⟩⟩
   refine kL (m:=m) Wx hLp (by rw[sizeLine_eq];omega) (fun x l c acc N hx h=>?_) (fun Pc acc RV RW=>?_)
   ·refine⟨_,rfl,x,_,0,_,rfl,rfl,zt.of hx,ak (j:=0) rfl,_,rfl,rfl,_,rfl,?_⟩
    by_cases e1:l=(m:Int)
    ·rw[if_pos e1]at h
     rw[decide_eq_true (show V.int l=V.int m by rw[e1])]
     exact aJ ⟨_,rfl,h⟩
    ·rw[if_neg e1]at h
     rw[decide_eq_false (show ¬ V.int l=V.int m from fun z=>e1 (V.int.inj z))]
     exact aI h
   refine⟨Pc,acc,rfl, .inl (zj.of ac),_,_,rfl,rfl,some (.int p),s4.trans (s5.new RV),?_⟩
   rw[lO,RW]
   have e:vZ st m p=(cnt m qs).length:=by unfold vZ;rw[AV]
   rw[e,natCast_add]
   rfl
  rintro σ H4 ⟨BB,s4,rfl⟩
  have Dw:=Gj.same W s4
  obtain⟨Bf,fst,AJ,zM,Af⟩:=Dw.I.T.i
  have FY:a.zw.length=a.ps.length:=Paired.length Dw.I.T.l.2.2
  refine⟨_,rfl,a.tb,TC,Bf,fst,_,rfl,AJ,W.cl,W.nl,zM,a.lx,c.land,a.zX,_,_,rfl,Dw.I.T.l.1,L.cl,L.nl,rfl,a.lt,_,rfl, .inr (zt.of Dw.I.T.l.2.1),(a.zw.length:Int),rfl,by omega,by omega,?_⟩
  rw[toNat_natCast,FY]
  refine bP (n:=a.ps.length) (fun i σ H5=>∃ Fe:Option V,zf H4 H5/\σ=[some (.ref a.y),some (.ref a.tb),some (.ref Fl),some (.int m),some (.int t.start),some (.int t.goal),some (.int t.len),some (.int t.word),some (.ref Wa),some (.int ((((List.range a.n).map (vZ st m)).sum + ((List.range i).map (uH st m)).sum:Nat):Int)),BB,Fe,Oi]) ⟨Fe,zf.refl _,rfl⟩ ?_ ?_
  ·rintro k σ H5 hk ⟨Fe,s5,rfl⟩
   rw[zero_add]
   have M4:=Dw.same W s5
   have zJ:=getElem?_eq_getElem (show k < st.lanes.length by rw[hS.J.lanes];exact hk)
   generalize st.lanes[k]'(by rw[hS.J.lanes];exact hk)=ln at zJ
   have RU:=hS.J.qsm zJ
   refine⟨_,rfl,_,rfl,a.y,a.dy,_,rfl,M4.I.Y.ins,rfl,_,rfl,a.y,a.dy,a.tb,a.ro,a.la,a.le,a.li,a.dn,st,k,ln,rfl,M4.I.Y,zJ,fun tp ql zB H6 s6 DQ EW Eo Mu=>⟨tp,_,3,_,rfl,rfl,zt.of EW,ak (j:=3) rfl,ql,rfl,⟨_,zj.of Eo⟩,?_⟩⟩
   refine kL (m:=m) Eo Mu (by rw[sizeLine_eq];omega) (fun x l c acc N hx h=>?_) (fun Pc acc RV RW=>?_)
   ·refine⟨_,rfl,x,_,0,_,rfl,rfl,zt.of hx,ak (j:=0) rfl,_,rfl,rfl,_,rfl,?_⟩
    by_cases e1:l=(m:Int)
    ·rw[if_pos e1]at h
     rw[decide_eq_true (show V.int l=V.int m by rw[e1])]
     exact aJ ⟨_,rfl,h⟩
    ·rw[if_neg e1]at h
     rw[decide_eq_false (show ¬ V.int l=V.int m from fun z=>e1 (V.int.inj z))]
     exact aI h
   refine⟨Pc,acc,rfl, .inl (zj.of ac),_,_,rfl,rfl,some (.int k),s5.trans (s6.new RV),?_⟩
   rw[lO,RW]
   have e:uH st m k=(cnt m ln.qs).length:=by unfold uH;rw[zJ]
   rw[e,← Nat.add_assoc,natCast_add _ (cnt m ln.qs).length]
   rfl
  rintro σ H5 ⟨Fe,s5,rfl⟩
  have RX:=RT.trans (s4.trans s5)
  have RY:=s5 _ _ (s4 _ _ gWa)
  have Wz:=uU hS.G hS.J ht
  refine⟨_,rfl,_,rfl,Wa,_,rfl,zj.of RY,fun Wb Oe=>?_⟩
  rw[show iH (nV t.way) none (some (1:Int))=nV (t.way.take 1) from oU t.way 1]
  have u6:=(zf.refl H5).new (o := .lst (nV (t.way.take 1))) Oe
  have IX:(upd H5 Wb (.lst (nV (t.way.take 1)))) Wb=some (.lst (nV (t.way.take 1))):=ac
  show dD 12 (V.ref Wb) _ (upd H5 Wb (.lst (nV (t.way.take 1)))) _
  generalize upd H5 Wb (.lst (nV (t.way.take 1)))=H6 at u6 IX ⊢
  refine⟨fun σ Ha=>∃ Wc:Addr,zf H5 Ha/\Ha Wc=some (.lst (nV (aV a t)))/\σ=[some (.ref a.y),some (.ref a.tb),some (.ref Fl),some (.int m),some (.int t.start),some (.int t.goal),some (.int t.len),some (.int t.word),some (.ref Wa),some (.int (pG a st m:Int)),BB,Fe,some (.ref Wc)],?_,?_⟩
  ·refine⟨_,rfl,zero_le _,fun o7 CG=>?_⟩
   have u7:=u6.new (o := .lst []) CG
   have g7:(upd H6 o7 (.lst [])) o7=some (.lst []):=ac
   have W0:(upd H6 o7 (.lst [])) Wa=some (.lst (nV t.way)):=by rw[ae (ag (u6 _ _ RY) CG)];exact u6 _ _ RY
   have W2:(upd H6 o7 (.lst [])) Wb=some (.lst (nV (t.way.take 1))):=by rw[ae (ag IX CG)];exact IX
   generalize upd H6 o7 (.lst [])=H7 at u7 g7 W0 W2 ⊢
   refine QQ (f:=fun z:Nat=>PyData.int z) (l:=t.way) (.lst (zj.of W0) (eO _)) (.lst (zj.of g7) .nil) (jr _) ⟨_,rfl,?_⟩
   have g0:((N m 0 + 0:Nat):Int)=t.gone:=hS.G.g0 m t ht
   cases Bh:t.way.isEmpty with
   | true =>
    have ew:t.way=[]:=isEmpty_iff.mp Bh
    have e0:=hS.G.top m t ht ew
    have ef:aV a t=a.wy x0 y0 none:=by unfold aV;rw[if_pos (by omega),ex,ey,toNat_natCast,toNat_natCast]
    have Jb:=(hS.same W (RX.trans u7))
    obtain⟨Bf,fst,AJ,zM,Af⟩:=Jb.I.T.i
    refine aJ ⟨_,rfl,a.tb,Bf,fst,rfl,AJ,Af,_,rfl,_,rfl,a.tb,a.n,a.wy,x0,y0,none,?_,Jb.I.T.j,EM,DZ,fun D H8 s8 hD gD=>⟨D,u7.trans s8,by rw[ef];exact gD,rfl⟩⟩
    rw[ex,ey];rfl
   | false =>
    refine aI ⟨Wb,u7,?_,rfl⟩
    have ef:aV a t=t.way.take 1:=by
     unfold aV
     rw[if_neg fun z=>by rw[hS.J.Ak m t ht z]at Bh;cases Bh]
    rw[ef];exact W2
  rintro σ H7 ⟨Wc,u7,Mq,rfl⟩
  have W3:=RX.trans u7
  refine⟨_,rfl,_,rfl,_,_,rfl,rfl,_,rfl,?_⟩
  by_cases zT:(pG a st m:Int) < t.len
  rotate_left
  ·rw[decide_eq_false zT]
   exact aI (aI ⟨_,_,_,_,_,_,_,_,_,_,W3,rfl⟩)
  rw[decide_eq_true zT]
  have GS:∀ l ∈ aV a t,l < a.ps.length:=fun l hl=>by
   unfold aV at hl
   split at hl
   ·rw[ex,ey,toNat_natCast,toNat_natCast]at hl
    exact hS.I.T.ok x0 y0 none EM DZ l hl
   ·exact(hS.J.Ad m t ht).1 l (mem_of_mem_take hl)
  have HA:∀ l ∈ aV a t,l ∈ bO st a.ps.length:=fun l hl=>by
   have II:=GS l hl
   have BO:=getElem?_eq_getElem (show l < st.lanes.length by rw[hS.J.lanes];exact II)
   exact jC II BO (hS.S.starts hS.G hS.J hS.r ht (by omega) hl BO)
  have hf4:(aV a t).length <= 400:=by
   unfold aV
   split
   ·exact hS.I.O.Ao _ _ _
   ·rw[length_take];omega
  refine aJ ⟨_,rfl,Wc,rfl,⟨_,zj.of Mq⟩,?_⟩
  refine iI (fun k=>!decide ((k:Int) ∈ iz (bO st a.ps.length))) (by rw[sizeLine_eq];omega) (zj.of Mq) (fun k acc N hk h=>?_) (fun D2 AF=>?_)
  ·refine⟨_,rfl,_,rfl,Fl,_,rfl, .inl (zj.of (W3 _ _ gF)),rfl,by rw[hZ];exact dZ _,_,rfl,?_⟩
   rw[hZ,ie]
   cases hb:decide ((k:Int) ∈ iz (bO st a.ps.length)) with
   | true=>rw[hb]at h;exact aI h
   | false=>rw[hb]at h;exact aJ ⟨_,rfl,h⟩
  rw[qS HA]
  have u8:=u7.new (o := .lst (aZ [])) AF
  have g8:(upd H7 D2 (.lst (aZ []))) D2=some (.lst []):=ac
  generalize upd H7 D2 (.lst (aZ []))=H8 at u8 g8 ⊢
  refine⟨zero_le _,fun o9 Gq=>?_⟩
  have u9:=u8.new (o := .lst []) Gq
  have g9:(upd H8 o9 (.lst [])) o9=some (.lst []):=ac
  have W4:(upd H8 o9 (.lst [])) D2=some (.lst []):=by rw[ae (ag g8 Gq)];exact g8
  generalize upd H8 o9 (.lst [])=H9 at u9 g9 W4 ⊢
  exact P9 (d := .list []) (.lst (zj.of W4) .nil) (.lst (zj.of g9) .nil) B0 ⟨_,rfl,aI ⟨_,_,_,_,_,_,_,_,_,_,RX.trans u9,rfl⟩⟩
theorem oV {K:Frag}{a:Addr}{xs:List V}{g:TG}{tt:TT}{te:TE}{σ0:St}{H:Hp}{Q:VK}(hn:xs.length < sizeLine)(ha:zt K H a xs)
  (hs:∀ (x:V)(acc:List V)(N:List V->Hp->Prop),x ∈ xs->N acc H->g x σ0 H fun σ2 H2=>tt σ2 H2 fun b H3=>if b=true then te σ2 H3 fun y H4=>N (acc ++ [y]) H4 else N acc H3)
  (hq:∀ D,H D=none->Q (.ref D) (upd H D (.lst []))):c9 (Jp K a) g tt te σ0 Q H:=by
 refine bM xs.length hn (fun i acc H'=>H' = H/\acc=[]) ⟨rfl,rfl⟩ (fun i acc H' h=>by rw[h.2];exact zero_le _) (fun i acc H' hi h=>?_) (fun acc H' h=>?_)
 ·obtain⟨rfl,rfl⟩:=h
  refine⟨⟨xs,_,ha,getElem?_eq_getElem hi⟩,fun v H2 y=>?_⟩
  obtain⟨rfl,y⟩:=y
  exact hs v _ (fun Aa H3=>H3=H2/\Aa = []) (mem_of_getElem? (y xs ha)) ⟨rfl,rfl⟩
 ·obtain⟨rfl,rfl⟩:=h
  exact⟨⟨xs,ha,Nat.le_refl _⟩,hq⟩
theorem uv {K:Frag}{a:Addr}{vs:List V}{ws:List (Nat × List Nat)}{g:TG}{tt:TT}{te:TE}{σ0:St}{H:Hp}{Q:VK}(ha:H a=some (.lst vs))(hL:Paired (Eu H) vs ws)(hn:ws.length < sizeLine)
  (hs:∀ (x u:Addr)(k:Nat)(acc:List V)(N:List V->Hp->Prop),H x=some (.tup [.int k, .ref u])->N (acc ++ [.int k]) H->g (.ref x) σ0 H fun σ2 H2=>tt σ2 H2 fun b H3=>if b=true then te σ2 H3 fun y H4=>N (acc ++ [y]) H4 else N acc H3)
  (hq:∀ D,H D=none->Q (.ref D) (upd H D (.lst (nV (ws.map (·.1)))))):c9 (rp K a) g tt te σ0 Q H:=by
 have hl:vs.length=ws.length:=Paired.length hL
 refine bM ws.length hn (fun i acc H'=>H' = H/\acc=nV ((ws.take i).map (·.1))) ⟨rfl,rfl⟩ (fun i acc H' h=>by rw[h.2,i9,length_map];exact length_take_le _ _) (fun i acc H' hi h=>?_) (fun acc H' h=>?_)
 ·obtain⟨rfl,rfl⟩:=h
  have hx:vs[i]? = some (vs[i]'(by omega)):=getElem?_eq_getElem (by omega)
  refine⟨⟨vs,_,zj.of ha,hx⟩,fun v H2 y=>?_⟩
  obtain⟨rfl,y⟩:=y
  have hv:=y vs (zj.of ha)
  obtain⟨wt,hwt,x,u,rfl,gx,gu⟩:=Paired.at hL hv
  refine hs x u wt.1 _ (fun Aa H3=>H3=H2/\Aa = nV ((ws.take (i + 1)).map (·.1))) gx ⟨rfl,?_⟩
  rw[take_succ,hwt]
  show _=nV ((ws.take i ++ [wt]).map (·.1))
  rw[map_append,tT]
  rfl
 ·obtain⟨rfl,rfl⟩:=h
  rw[take_of_length_le (Nat.le_refl _)]
  exact⟨⟨vs,zj.of ha,by omega⟩,fun D hD=>hq D hD⟩
theorem uh (l:List Nat):PyData.eqv (.tuple (l.map fun z:Nat=>PyData.int z)) (.tuple [])=l.isEmpty:=by
 cases l<;>simp[PyData.eqv,PyData.eqvAll]
theorem k4 (xs:List Nat):Bx (.tuple (xs.map fun z:Nat=>PyData.int z)) 64:=(dM (m:=0) fun z hz=>by
 obtain⟨x,_,rfl⟩:=mem_map.mp hz
 exact cy _).le (by decide)
noncomputable def se (K:Frag)(c:Cs)(TC:Addr)(J:TJ)(ys:Ys):Sp:=fun vs H Q _=>∃ (a:YA)(s:YS)(N:Nat->Nat->Nat),vs=[.ref a.y, .ref a.tb]/\Mw K c TC J ys H a s N/\bO s a.ps.length ≠ []/\∀ H',Q (.bl true) H'
noncomputable abbrev RZ:List Str:=["_law_yard", "_law_table_here", "_law_filled_here", "_law_rows", "_law_lane", "_law_wanted", "_law_letter", "_law_count", "_law_goal"]
noncomputable def W5 (s:Stmt):Scope:=match s with
 | .If (.Compare (.ListComp _ _ sc _) _ _ _) _ _ _=>sc
 | _=>vS
theorem Cr:ao RZ ["_law_yard", "_law_table_here"] (ah jz):=L2.zQ
theorem M5:As RZ (ah jz) (W5 (gq (aG jz) 3)) [] []:=L2.Bs
theorem M6:As RZ (ah jz) (W5 (gq (gr (gq (aG jz) 4)) 0)) ["_law_filled_here"] [2]:=L2.Bs
theorem wR:(["_law_lane", "_law_wanted"]:List Str).Nodup:=by decide +kernel
theorem M7:(["_law_other", "_law_filled_here"]:List Str).Nodup:=by decide +kernel
theorem vP {c:Cs}{ys:Ys}{J:TJ}{TC f fw ft fl ff fa fs fe:Addr}{fd dw dt dl df da ds de:FuncData}(F:zH K "_law_closed" "_law_closed" jz f fd)(T:eW mg)(L:nu K c)(Y:fU K ys)(W:Wy K TC fw dw J)
  (mt:bA K ys.zi "lane_told" ft) (bt:Binds K dt ["self", "lane"] []) (Gt:zg P w K mg base aD 2 ft dt ["self", "lane"] (gL K ys))
  (ml:bA K ys.zi "letter_told" fl) (bl:Binds K dl ["self", "number"] []) (Gl:zg P w K mg base aD 1 fl dl ["self", "number"] (lb K ys))
  (M:uE K c fe de) (Ge:zg P w K mg base aD 1 fe de ["self", "lane"] (sf c Prod.snd))
  (mf:mg "_law_filled" = some (.ref ff)) (kf:keepIn K (.ref ff)=true) (bf:Binds K df ["_law_yard", "_law_table_here"] []) (Gf:zg P w K mg base aD 3 ff df ["_law_yard", "_law_table_here"] (rZ K c TC J ys))
  (ma:mg "waits" = some (.ref fa)) (ka:keepIn K (.ref fa)=true) (ba:Binds K da ["yard"] []) (Ga:zg P w K mg base aD 6 fa da ["yard"] (kU K c TC J ys))
  (ms:mg "_law_at_starts" = some (.ref fs)) (ks:keepIn K (.ref fs)=true) (bs:Binds K ds ["_law_yard", "_law_table_here", "_law_filled_here"] []) (Gs:zg P w K mg base aD 4 fs ds ["_law_yard", "_law_table_here", "_law_filled_here"] (rL K c TC J ys)) :
  zg P w K mg base aD 7 f fd ["_law_yard", "_law_table_here"] (se K c TC J ys):=by
 refine F.ok Cr (fun _ _ _ _ h=>?_) (fun _ _ _ s H _ Q E hr h=>?_)
 ·obtain⟨a,s,N,rfl,_⟩:=h
  rfl
 ·obtain⟨a,st,N,rfl,hS,zV,q⟩:=h
  have hu:=hr.units
  have Ah:zm 1 _:=hr.mono (by decide)
  have Ai:zm 2 _:=hr.mono (by decide)
  have EU:zm 3 _:=hr.mono (by decide)
  have C9:zm 4 _:=hr.mono (by decide)
  have L1:zm 6 _:=hr.mono (by decide)
  refine⟨_,af (az (i:=2) Cr.nd rfl (Or.inr rfl) (ay Gf EU rfl mf kf bf .nil ap (aa (pv 0) (aa (pv 1) ad))))
   (af (aM (PW.pt (hG (au j9 (pv 2) ce (ax _)) (eA (au (jA hu) (pv 2) (aP ad) (ax _))))) (ai (ar fD)) aF)
   (af (az (i:=3) Cr.nd rfl (Or.inl rfl) (ay Ga L1 rfl ma ka ba .nil ap (aa (pv 0) ad)))
   (af (aM (au (i7 hu) (aT (own:=["_law_lane", "_law_wanted"]) (capN:=[]) (cap:=[]) M5 rfl (bx (pv 3)) (fun C s' H' fp=>⟨(show PG _ _ (we K 2 _) from eD rfl (aO (av (i:=0) wR rfl (Or.inl rfl)) (aO (av (i:=1) wR rfl (Or.inl rfl)) cO))),ck,pv 0⟩)) (pv 2) (ax _)) (ai (ar fD)) aF)
   (af (bR PassesOwn.never rfl (bx (pv 3)) (eD rfl (aO (av (i:=4) Cr.nd rfl (Or.inl rfl)) (aO (av (i:=5) Cr.nd rfl (Or.inl rfl)) cO)))
    (af (aM (au (i7 hu) (aT (own:=["_law_other"]) (capN:=["_law_filled_here"]) (cap:=[2]) M6 rfl (j7 (pv 5)) (fun C s' H' fp=>⟨av (i:=0) M7 rfl (Or.inl rfl),cb (au (show dI _ (compareOp .NotIn) (JB K true) from eI) (pv 0) (pv 1) (by with_unfolding_all rfl)),pv 0⟩)) (aP ad) (ax _)) (ai (ar fD)) aF)
    (af (i4 (aA aQ (aA aE (aC (pv 0) Y.cl mt Gt Ai bt .nil ap (aa (pv 4) ad)) aj (fun _ _=>rfl)) aj (fun _ _=>rfl)) (eD rfl (aO (av (i:=6) Cr.nd rfl (Or.inl rfl)) (aO (av (i:=7) Cr.nd rfl (Or.inl rfl)) cO))))
    (af (az (i:=8) Cr.nd rfl (Or.inl rfl) (aA aE (aC (pv 0) Y.cl ml Gl Ah bl .nil ap (aa (pv 6) ad)) aj (fun _ _=>rfl)))
    (ai (aM (PW.pt (iy (au (jA hu) (pv 5) (bS ad) (ax _)) (fN (PW.pt (hG (au m6 (pv 7) aj (ax _)) (eA (au bK (pv 8) (aC (al (pv 1) rfl) L.cl M.m Ge Ah M.b .nil ap (aa (pv 4) ad)) (ax _)))))))) (ai (ar fD)) aF))))))
   (ai (ar (ay Gs C9 rfl ms ks bs .nil ap (aa (pv 0) (aa (pv 1) (aa (pv 2) ad)))))))))),?_⟩
  have h40:=hS.J.Ds
  have F7:∀ (k:Nat)(ln:bC),st.lanes[k]? = some ln->ln.b=0:=fun k ln hk=>by
   have h1:=hS.S.b0 k ln hk
   have h2:=(hS.G.room k ln hk).2.2
   omega
  refine⟨_,rfl,_,rfl,a,st,rfl,hS.I,hS.J.lanes,h40,F7,fun Fl H1 s1 hFl gF=>?_⟩
  have GS:=mR st a.ps.length
  refine⟨_,rfl,rfl,_,rfl,aI ⟨_,rfl,zero_le _,fun o7 CG=>?_⟩⟩
  have u2:=s1.new (o := .lst []) CG
  have g2:(upd H1 o7 (.lst [])) o7=some (.lst []):=ac
  have Sa:(upd H1 o7 (.lst [])) Fl=some (.lst (aZ (bO st a.ps.length))):=by rw[ae (ag gF CG)];exact gF
  generalize upd H1 o7 (.lst [])=H2 at u2 g2 Sa ⊢
  refine QQ (f:=fun z:Nat=>PyData.int z) (l:=bO st a.ps.length) (.lst (zj.of Sa) (eO _)) (.lst (zj.of g2) .nil) (jr _) ⟨_,rfl,?_⟩
  rw[show(bO st a.ps.length).isEmpty=false by cases hz:bO st a.ps.length with
   | nil=>exact absurd hz zV
   | cons _ _=>rfl]
  refine aI ?_
  have Ja:=hS.same W u2
  refine⟨_,rfl,a,st,rfl,Ja.I,fun R zA H3 s3 hR gR pR=>?_⟩
  have C4:=kq a st a.ps.length
  have W6:=s3 _ _ Sa
  have Gj:=Ja.same W s3
  refine⟨_,rfl,R,rfl,⟨_,zj.of gR⟩,?_⟩
  refine uv gR pR (by rw[sizeLine_eq];omega) (fun x u k acc N hx h=>?_) (fun D1 hD1=>?_)
  ·exact⟨x,_,rfl,zt.of hx,rfl,_,_,rfl,_,_,rfl,rfl,aJ (B:=N acc H3) ⟨_,rfl,h⟩⟩
  rw[qw]
  have u4:=(zf.refl H3).new (o := .lst (nV (bO st a.ps.length))) hD1
  have g4:(upd H3 D1 (.lst (nV (bO st a.ps.length)))) D1=some (.lst (nV (bO st a.ps.length))):=ac
  generalize upd H3 D1 (.lst (nV (bO st a.ps.length)))=H4 at u4 g4 ⊢
  refine⟨_,rfl,?_⟩
  refine P9 (d := .list ((bO st a.ps.length).map fun z:Nat=>PyData.int z)) (.lst (zj.of g4) (eO _)) (.lst (zj.of (u4 _ _ W6)) (eO _)) (jr _) ⟨_,rfl,aI ?_⟩
  have W7:=u4 _ _ gR
  have pR4:=Paired.mono (fun _ _ z=>Eu.keep (zf.zC u4) z) pR
  have W8:=u4 _ _ W6
  have Dw:=Gj.same W u4
  refine⟨_,rfl,R,rfl,⟨_,zj.of W7⟩,?_⟩
  refine dX (K:=K) (a:=R) (xs:=zA) (fun i σ H5=>∃ a4 a5 a6 a7 a8:Option V,zf H4 H5/\σ=[some (.ref a.y),some (.ref a.tb),some (.ref Fl),some (.ref R),a4,a5,a6,a7,a8])
   ⟨none,none,none,none,none,zf.refl _,rfl⟩ (fun i σ H5 _ zk=>by obtain⟨_,_,_,_,_,s5,_⟩:=zk;exact zj.of (s5 _ _ W7)) ?_ ?_
  rotate_left
  ·rintro σ H5 ⟨a4,a5,a6,a7,a8,s5,rfl⟩
   have M4:=Dw.same W s5
   exact⟨_,rfl,_,rfl,_,rfl,a,st,N,Fl,rfl,M4,s5 _ _ W8,q⟩
  rintro i v σ H5 hv ⟨a4,a5,a6,a7,a8,s5,rfl⟩
  have M4:=Dw.same W s5
  obtain⟨wt,hwt,x,u,rfl,gx,gu⟩:=Paired.at pR4 hv
  have W9:=mem_of_getElem? hwt
  unfold cp at W9
  obtain⟨k,hk,rfl⟩:=mem_map.mp W9
  obtain⟨Cw,IL⟩:=mem_filter.mp hk
  have Cw:=mem_range.mp Cw
  have CC:=getElem?_eq_getElem (show k < st.lanes.length by rw[hS.J.lanes];exact Cw)
  generalize st.lanes[k]'(by rw[hS.J.lanes];exact Cw)=ln at CC
  obtain⟨pq,hpq⟩:∃ pq,ln.qs.head? = some pq:=by
   rw[cS CC]at IL
   cases hz:ln.qs with
   | nil=>rw[hz]at IL;cases IL
   | cons q r=>exact⟨q,rfl⟩
  obtain⟨m,t,em,hm,Ep⟩:=hS.J.Au k ln CC pq (mem_of_head? hpq)
  obtain⟨lm,cn⟩:=pq
  have em:lm=(m:Int):=em
  subst em
  have WA:∀ l ∈ bj a st k,l ∈ bO st a.ps.length:=fun l hl=>by
   have BA:l < a.ps.length:=by
    obtain⟨x0,y0,ex,ey,EM,DZ⟩:=hS.J.lets m t hm
    unfold bj aL at hl
    rw[CC]at hl
    dsimp only at hl
    rw[hpq]at hl
    dsimp only at hl
    rw[toNat_natCast,hm]at hl
    dsimp only at hl
    split at hl
    ·have hl:=(mem_filter.mp hl).1
     unfold n0 at hl
     rw[ey,toNat_natCast]at hl
     split at hl
     ·cases hl
     ·obtain⟨e,he1,Ej⟩:=hS.I.O.ends k _ (getElem?_eq_getElem Cw)
      have RD:a.ps.getD k (0,0)=a.ps[k]:=by rw[getD_eq_getElem?_getD,getElem?_eq_getElem Cw];rfl
      rw[RD,he1,toNat_natCast]at hl
      exact hS.I.T.ok e y0 (some k) Ej DZ l hl
    ·exact(hS.J.Ad m t hm).1 l (mem_of_mem_drop (mem_of_mem_take hl))
   have BO:=getElem?_eq_getElem (show l < st.lanes.length by rw[hS.J.lanes];exact BA)
   exact jC BA BO (hS.S.wants hS.G hS.J hS.r CC hpq hm hl BO)
  have hw4:(bj a st k).length < sizeLine:=by
   have h1:∀ l ∈ bj a st k,l < 40:=fun l hl=>by
    have:=mem_range.mp (mem_filter.mp (WA l hl)).1
    omega
   have h2:(bj a st k).length <= 400:=by
    unfold bj aL
    rw[CC]
    dsimp only
    rw[hpq]
    dsimp only
    rw[toNat_natCast,hm]
    dsimp only
    split
    ·refine le_trans (length_filter_le _ _) ?_
     unfold n0
     split
     ·exact zero_le _
     ·exact hS.I.O.Ao _ _ _
    ·rw[length_take];omega
   rw[sizeLine_eq];omega
  have gx5:=s5 _ _ gx
  have WB:=s5 _ _ gu
  refine⟨x,_,rfl,zt.of gx5,rfl,_,_,rfl,_,_,rfl,rfl,?_⟩
  refine⟨_,rfl,u,rfl,⟨_,zt.of WB⟩,?_⟩
  refine oV (by rw[i9];exact hw4) (zt.of WB) (fun y acc N hy h=>?_) (fun D2 AF=>?_)
  ·obtain⟨l,hl,rfl⟩:=tQ hy
   refine⟨_,rfl,_,rfl,Fl,_,rfl, .inl (zj.of (s5 _ _ W8)),rfl,by rw[hZ];exact dZ _,_,rfl,?_⟩
   rw[hZ,ie,decide_eq_true (show (l:Int) ∈ iz (bO st a.ps.length) from mem_map_of_mem (WA l hl))]
   exact aI h
  have u6:=s5.new (o := .lst []) AF
  have g6:(upd H5 D2 (.lst [])) D2=some (.lst []):=ac
  generalize upd H5 D2 (.lst [])=H6 at u6 g6 ⊢
  refine⟨zero_le _,fun o9 Gq=>?_⟩
  have u7:=u6.new (o := .lst []) Gq
  have g7:(upd H6 o9 (.lst [])) o9=some (.lst []):=ac
  have WC:(upd H6 o9 (.lst [])) D2=some (.lst []):=by rw[ae (ag g6 Gq)];exact g6
  generalize upd H6 o9 (.lst [])=H7 at u7 g7 WC ⊢
  refine P9 (d := .list []) (.lst (zj.of WC) .nil) (.lst (zj.of g7) .nil) B0 ⟨_,rfl,aI ?_⟩
  have Jb:=Dw.same W u7
  refine⟨_,rfl,a.y,a.dy,_,rfl,Jb.I.Y.ins,rfl,_,rfl,a.y,a.dy,a.tb,a.ro,a.la,a.le,a.li,a.dn,st,k,ln,rfl,Jb.I.Y,CC,fun tp ql zB H8 s8 DQ EW Eo Mu=>?_⟩
  obtain⟨v0,hv0,pt,ev0,gpt⟩:=Paired.at2 Mu (show ln.qs[0]? = some ((m:Int),cn) by rw[← List.head?_eq_getElem?];exact hpq)
  subst ev0
  refine⟨tp,_,3,_,rfl,rfl,zt.of EW,ak (j:=3) rfl,ql,_,0,_,rfl,rfl,zj.of Eo,ak (j:=0) hv0,pt,_,rfl,zt.of gpt,rfl,_,_,rfl,_,_,rfl,rfl,?_⟩
  have WD:=Jb.same W s8
  refine⟨_,rfl,a.y,a.dy,_,rfl,WD.I.Y.ins,rfl,_,rfl,a.y,a.dy,a.tb,a.ro,a.la,a.le,a.li,a.dn,st,m,t,rfl,WD.I.Y,hm,fun tq H9 s9 gtq=>⟨tq,_,1,_,rfl,rfl,zt.of gtq,ak (j:=1) rfl,?_⟩⟩
  have s79:=s8.trans s9
  have s49:=u7.trans s79
  refine⟨_,rfl,zero_le _,fun oa hoa=>?_⟩
  have sa:=s49.new (o := .tup []) hoa
  have ga:(upd H9 oa (.tup [])) oa=some (.tup []):=ac
  generalize upd H9 oa (.tup [])=Ha at sa ga ⊢
  refine⟨_,_, .tup (zt.of (sa _ _ gu)) (eO _), .tup (zt.of ga) .nil,(k4 _).shaped (Nat.le_refl _),(k4 []).shaped (Nat.le_refl _),_,rfl,?_⟩
  rw[uh]
  cases hwe:(bj a st k).isEmpty with
  | false=>exact aI (aI ⟨_,_,_,_,_,sa,rfl⟩)
  | true =>
  have hc0:=hS.S.head hS.G hS.J CC hpq hm (isEmpty_iff.mp hwe)
  refine aJ ⟨_,rfl,_,_,rfl,rfl,_,rfl,?_⟩
  rw[decide_eq_false (show ¬ (0:Int) < cn by omega)]
  have Sb:=Dw.same W sa
  obtain⟨Bf,fst,AJ,zM,Af⟩:=Sb.I.T.i
  have F2:=hS.S.LF k m cn ln t CC hpq hm
  have he:=getElem?_eq_getElem Cw
  have ege:jO a k=(a.ps[k]).2:=by unfold jO;rw[getD_eq_getElem?_getD,he];rfl
  refine aI ⟨_,rfl,_,rfl,a.tb,TC,Bf,fst,_,rfl,AJ,W.cl,W.nl,zM,a.lx,a.zX,_,rfl,Sb.I.T.l.1,rfl,_,rfl,a.lx,a.zX,a.lt,(a.n:Int),a.zw,a.ps,k,_,rfl,Sb.I.T.l,he,rfl,_,rfl,?_⟩
  rw[decide_eq_false (show ¬ V.int t.goal=V.int (a.ps[k]).2 from fun z=>F2 (by rw[ege];exact V.int.inj z))]
  exact aI ⟨_,_,_,_,_,sa,rfl⟩
end K67
namespace L2
open PySem PySem.Spec PyProof.Rows
theorem yc {X:Cx}:dI X (compareOp .Is) (fun x y H Q=>∃ b c,x = .bl b/\y = .bl c/\Q (.bl (b == c)) H):=by
 intro pins s σ H x y v u Q I rx ry h
 obtain⟨b,c,rfl,rfl,q⟩:=h
 cases rx
 cases ry
 refine wpAny_is_plain rfl ⟨.bl (b == c),H,I,?_,q⟩
 show Value.bool _=Value.bool _
 cases b<;>cases c<;>rfl
end L2
namespace K67
open PySem L2
variable {P:Program}{w:World}{K:Frag}{mg:Str->Option Value}{base:Heap}
theorem uL {K:Frag}{c:Cs}{TC:Addr}{J:TJ}{ys:Ys}{nr:Addr}{vs:List V}{H:Hp}{Q Q':VK}{E:XK}(h:lP K c TC J ys nr vs H Q E)(k:∀ v H',Q v H'->Q' v H'):lP K c TC J ys nr vs H Q' E:=by
 obtain⟨y,dy,tb,lx,zX,lt,n,zw,ps,wy,rv,zA,h1,h2,h3,h4,h5,h6⟩:=h
 exact⟨y,dy,tb,lx,zX,lt,n,zw,ps,wy,rv,zA,h1,h2,h3,h4,h5,fun o ro la le li dn H' a1 a2 a3 a4 a5 a6=>k _ _ (h6 o ro la le li dn H' a1 a2 a3 a4 a5 a6)⟩
theorem D8.cnt {a:YA}{s s':YS}(h:D8 a s s'):s'.done.length + s.U.length=s.done.length + s'.U.length:=by
 induction h with
 | nil=>rfl
 | @snoc s x y l u h hl ih =>
  show(s.done ++ [_]).length + _=_ + (s.U ++ [(⟨x,y,l,u,0,[]⟩:aU)]).length
  rw[length_append,length_append,length_singleton,length_singleton];omega
theorem Et.rooms {a:YA}{s s':YS}{n:Nat}(h:Et a s n s'):s'.rooms=s.rooms:=by
 induction h with
 | nil=>rfl
 | snoc _ st ih=>exact st.rooms.trans ih
theorem D8.rooms {a:YA}{s s':YS}(h:D8 a s s'):s'.rooms=s.rooms:=by
 induction h with
 | nil=>rfl
 | snoc _ _ ih=>exact ih
theorem pj:∀ {l:List aU},(∀ t ∈ l,t.gone <= t.len)->(l.map (·.gone)).sum <= (l.map (·.len)).sum
 | [],_=>Int.le_refl _
 | x :: l,h=>by
  have h1:=h x mem_cons_self
  have h2:=pj fun y hy=>h y (mem_cons_of_mem _ hy)
  rw[map_cons,map_cons,sum_cons,sum_cons];omega
theorem pw:∀ {l:List aU},(∀ t ∈ l,t.gone=t.len)->(l.map (·.gone)).sum=(l.map (·.len)).sum
 | [],_=>rfl
 | x :: l,h=>by
  have h1:=h x mem_cons_self
  have h2:=pw fun y hy=>h y (mem_cons_of_mem _ hy)
  rw[map_cons,map_cons,sum_cons,sum_cons];omega
theorem jm:∀ l:List (List (Int × Int)),(l.map fun q=>(q.length:Int)).sum=(((l.map fun q=>q.length).sum:Nat):Int)
 | []=>rfl
 | x :: l=>by rw[map_cons,map_cons,sum_cons,sum_cons,jm l,natCast_add]
theorem pX:∀ {l:List aU},(∀ t ∈ l,0 <= t.len/\t.len <= 4)->0 <= (l.map (·.len)).sum/\(l.map (·.len)).sum <= 4 * l.length
 | [],_=>⟨Int.le_refl _,Int.le_refl _⟩
 | x :: l,h=>by
  have h1:=h x mem_cons_self
  have h2:=pX fun y hy=>h y (mem_cons_of_mem _ hy)
  rw[map_cons,sum_cons,length_cons]
  exact⟨by omega,by omega⟩
theorem rh {a:YA}{s:YS}(J:Ab a s)(h:mS s=true):∀ (k:Nat)(ln:bC),s.lanes[k]? = some ln->ln.qs=[]:=fun k ln hk=>by
 unfold mS at h
 have h:=of_decide_eq_true h
 rw[jm]at h
 have h1:=J.sum
 have h2:fj s <= (s.U.map (·.len)).sum:=pj fun t ht=>by
  obtain⟨m,hm⟩:=List.getElem?_of_mem ht
  exact(J.Bt m t hm).2.1
 have h3:=dU (fun ln:bC=>ln.qs.length) hk
 have h3:ln.qs.length <= iq s:=h3
 have h4:((gH s:Nat):Int)=(s.U.map (·.len)).sum:=h.symm
 exact length_eq_zero_iff.mp (by omega)
theorem qv {a:YA}{s:YS}(h:∀ (k:Nat) (ln:bC),s.lanes[k]? = some ln->ln.qs=[])(m:Nat):cp a s m=[]:=by
 unfold cp
 rw[map_eq_nil_iff,filter_eq_nil_iff]
 intro k _
 cases hk:s.lanes[k]? with
 | none=>unfold aL;rw[hk];decide
 | some ln=>rw[cS hk,h k ln hk];decide
theorem wf {a:YA}{s:YS}{N:Nat->Nat->Nat}(G:Az a s N zr)(J:Ab a s)(S:CF a s)(hr:∀ (k:Nat) (ln:bC),s.lanes[k]? = some ln->1 <= ln.r + ln.b + ln.qs.length)(W:Ew a s)(zp:∀ p g k,p < a.n->g < a.n->∀ z ∈ a.wy p g k,z < a.ps.length)(h:mS s=false):bO s a.ps.length ≠ []:=fun he=>by
 have h0:∀ (k:Nat)(ln:bC),s.lanes[k]? = some ln->ln.qs=[]:=fun k ln hk=>by
  cases hq:ln.qs with
  | nil=>rfl
  | cons _ _ =>
   have:=jC (m:=a.ps.length) (by rw[← J.lanes];exact(gQ0 hk)) hk (by rw[hq];intro z;cases z)
   rw[he]at this;cases this
 have h1:iq s=0:=uO _ fun k ln hk=>by rw[h0 k ln hk];rfl
 have h2:∀ t ∈ s.U,t.gone=t.len:=fun t ht=>by
  obtain⟨m,hm⟩:=List.getElem?_of_mem ht
  apply Classical.byContradiction
  intro hg
  obtain⟨x,y,ex,ey,hx,hy⟩:=J.lets m t hm
  obtain⟨l,hl,BA⟩:∃ l,l ∈ aV a t/\l < a.ps.length:=by
   unfold aV
   by_cases hz:t.gone=0
   ·rw[if_pos hz]
    have hw:=W (nY t) (mem_map_of_mem ht)
    have hw:a.wy t.start.toNat t.goal.toNat none ≠ []:=hw
    cases hc:a.wy t.start.toNat t.goal.toNat none with
    | nil=>exact absurd hc hw
    | cons l r =>
     refine⟨l,mem_cons_self,?_⟩
     rw[ex,ey,toNat_natCast,toNat_natCast]at hc
     exact zp x y none hx hy l (by rw[hc];exact mem_cons_self)
   ·rw[if_neg hz]
    cases hc:t.way with
    | nil =>
     have g0:((N m 0 + 0:Nat):Int)=t.gone:=G.g0 m t hm
     have:=G.top m t hm hc
     omega
    | cons l r=>exact⟨l,mem_cons_self,(J.Ad m t hm).1 l (by rw[hc];exact mem_cons_self)⟩
  have BO:=getElem?_eq_getElem (show l < s.lanes.length by rw[J.lanes];exact BA)
  exact S.starts G J hr hm hg hl BO (h0 l _ BO)
 have h3:=J.sum
 have h4:fj s=(s.U.map (·.len)).sum:=pw h2
 unfold mS at h
 have h:=of_decide_eq_false h
 rw[jm]at h
 have h5:¬ (s.U.map (·.len)).sum=((gH s:Nat):Int):=h
 omega
noncomputable def pB (K:Frag)(Tb:Addr):Sp:=fun vs H Q _=>∃ (a:Addr)(ns:List Int),vs=[.ref a]/\zj K H a (ns.map V.int)/\ns.length <= 63/\H Tb=some (.Bb #[])/\∀ H',Q (.bl true) H'
noncomputable abbrev WE:List Str:=["_law_script", "_law_places", "_law_lanes_here", "_law_table_here", "_law_rooms", "_law_yard", "_law_made"]
noncomputable def mkC (s:Stmt):Scope:=match s with
 | .Assign _ (.Call _ [_, .ListComp _ _ sc _] _ _) _=>sc
 | _=>vS
structure WG (P:Program)(w:World)(K:Frag)(mg:Str->Option Value)(base:Heap)(c:Cs)(ts:Ts)(ys:Ys)(nr:Addr)(fc fd fl ft fy fp fr fo fm fe fi fa fs:Addr)(dc dd dl dt dy dp dr HQ dm de di da ds:FuncData):Prop where
 mc:mg "_law_cell_at" = some (.ref fc)
 kc:keepIn K (.ref fc)=true
 bc:Binds K dc ["_law_script", "_law_k"] []
 Gc:zg P w K mg base aD 1 fc dc ["_law_script", "_law_k"] (nX K)
 md:mg "_law_draws" = some (.ref fd)
 kd:keepIn K (.ref fd)=true
 bd:Binds K dd ["_law_cell", "_law_amount", "_law_base"] []
 Gd:zg P w K mg base aD 2 fd dd ["_law_cell", "_law_amount", "_law_base"] gN
 ml:mg "_law_lanes" = some (.ref fl)
 kl:keepIn K (.ref fl)=true
 bl:Binds K dl ["_law_script", "_law_places"] []
 Gl:zg P w K mg base aD 3 fl dl ["_law_script", "_law_places"] (pC K)
 mt:mg "_law_table" = some (.ref ft)
 kt:keepIn K (.ref ft)=true
 bt:Binds K dt ["_law_lanes_here", "_law_places", "_law_cell"] []
 Gt:zg P w K mg base aD 7 ft dt ["_law_lanes_here", "_law_places", "_law_cell"] (rT P w c ts)
 my:mg "Yard" = some (.ref ys.zi)
 My:Mk K ys.zi fy
 Sd:Binds K dy ["self", "table", "rooms"] []
 Gy:zg P w K mg base (e7 P w) 4 fy dy ["self", "table", "rooms"] (lP K c ts.told (zE P w ts) (yx ys []) nr)
 mp:mg "_law_post" = some (.ref fp)
 kp:keepIn K (.ref fp)=true
 bp:Binds K dp ["_law_yard", "_law_table_here", "_law_places", "_law_cells"] []
 Gp:zg P w K mg base aD 5 fp dp ["_law_yard", "_law_table_here", "_law_places", "_law_cells"] (pE K c ts.told (zE P w ts) (yx ys []))
 mr:bA K ys.zi "do" fr
 br:Binds K dr ["self", "move"] []
 Gr:∀ ex,zg P w K mg base (e7 P w) 8 fr dr ["self", "move"] (uR K c ts.told (zE P w ts) (yx ys ex))
 mo:mg "most_moves" = some (.ref fo)
 ko:keepIn K (.ref fo)=true
 bo:Binds K HQ ["yard"] []
 Go:∀ ex,zg P w K mg base aD 2 fo HQ ["yard"] (kZ K c ts.told (zE P w ts) (yx ys ex))
 mm:bA K ys.zi "moves" fm
 bm:Binds K dm ["self"] []
 Gm:∀ ex,zg P w K mg base aD 7 fm dm ["self"] (gK K c ts.told (zE P w ts) (yx ys ex))
 me:bA K ys.zi "ended" fe
 be:Binds K de ["self"] []
 Ge:zg P w K mg base aD 1 fe de ["self"] (lf K (yx ys []))
 mi:mg "still" = some (.ref fi)
 ki:keepIn K (.ref fi)=true
 bi:Binds K di ["yard"] []
 Gi:zg P w K mg base aD 8 fi di ["yard"] (p5 K c ts.told (zE P w ts) (yx ys []))
 ma:mg "waits" = some (.ref fa)
 ka:keepIn K (.ref fa)=true
 ba:Binds K da ["yard"] []
 Ga:zg P w K mg base aD 6 fa da ["yard"] (kU K c ts.told (zE P w ts) (yx ys []))
 ms:mg "_law_closed" = some (.ref fs)
 ks:keepIn K (.ref fs)=true
 bs:Binds K ds ["_law_yard", "_law_table_here"] []
 Gs:zg P w K mg base aD 7 fs ds ["_law_yard", "_law_table_here"] (se K c ts.told (zE P w ts) (yx ys []))
noncomputable abbrev P1 (P:Program)(w:World)(K:Frag)(c:Cs)(ts:Ts)(ys:Ys)(H:Hp)(sc:Addr):St->Hp->Prop:=fun σ Hc=>∃ (a:YA)(l Ro:Addr)(rs:List Int),zf H Hc/\B6 K c ts.told (zE P w ts) (yx ys []) Hc a (Y0 (rs.map V.int) a.n)/\Ab a (Y0 (rs.map V.int) a.n)/\(∀ z ∈ a.four,H z=none)/\(∀ r ∈ rs,1 <= r/\r <= 60)/\a.ps.length <= 6/\2 <= a.n /\
 σ=[some (.ref sc),some (.int a.n),some (.ref l),some (.ref a.tb),some (.ref Ro),some (.ref a.y),none]
theorem CI:ao WE ["_law_script"] (ah jw):=L2.zQ
theorem Se:As WE (ah jw) (mkC (gq (aG jw) 4)) [] []:=L2.Bs
theorem Sf:(["_law_room"]:List Str).Nodup:=by decide +kernel
theorem yy {c:Cs}{ts:Ts}{ys:Ys}{nr Tb f fu fw fc fd fl ft fy fp fr fo fm fe fi fa fs:Addr}{df du dw dc dd dl dt dy dp dr HQ dm de di da ds:FuncData}(F:zH K "law" "law" jw f df)(T:eW mg)(Y:fU K ys)(W:Wy K ts.told fw dw (zE P w ts))
  (D:WG P w K mg base c ts ys nr fc fd fl ft fy fp fr fo fm fe fi fa fs dc dd dl dt dy dp dr HQ dm de di da ds)
  (mu:mg "_law_run" = some (.ref fu)) (ku:keepIn K (.ref fu)=true) (bu:Binds K du ["_law_yard", "_law_cell"] []) (Gu:zg P w K mg base aD 10 fu du ["_law_yard", "_law_cell"] (rU K c ts.told (zE P w ts) ys Tb)):zg P w K mg base aD 11 f df ["_law_script"] (pB K Tb):=by
 refine F.ok CI (fun _ _ _ _ h=>?_) (fun _ _ _ s H _ Q E hr h=>?_)
 ·obtain⟨a,ns,rfl,_⟩:=h
  rfl
 ·obtain⟨sc,ns,rfl,hS,hlen,Cv,q⟩:=h
  have hu:=hr.units
  have Ah:zm 1 _:=hr.mono (by decide)
  have Ai:zm 2 _:=hr.mono (by decide)
  have EU:zm 3 _:=hr.mono (by decide)
  have IK:zm 5 _:=hr.mono (by decide)
  have L1:zm 6 _:=hr.mono (by decide)
  have IS:zm 7 _:=hr.mono (by decide)
  have WH:zm 8 _:=hr.mono (by decide)
  refine⟨_,mj 5 (af (az (i:=1) CI.nd rfl (Or.inl rfl) (aB bN aj (aB bH (ay D.Gc Ah rfl D.mc D.kc D.bc .nil ap (aa (pv 0) (aa aj ad))) aj)))
   (af (az (i:=2) CI.nd rfl (Or.inl rfl) (ay D.Gl EU rfl D.ml D.kl D.bl .nil ap (aa (pv 0) (aa (pv 1) ad))))
   (af (az (i:=3) CI.nd rfl (Or.inl rfl) (ay D.Gt IS rfl D.mt D.kt D.bt .nil ap (aa (pv 2) (aa (pv 1) (aa (ay D.Gc Ah rfl D.mc D.kc D.bc .nil ap (aa (pv 0) (aa aj ad))) ad)))))
   (af (az (i:=4) CI.nd rfl (Or.inl rfl) (ay D.Gd Ai rfl D.md D.kd D.bd .nil ap (aa (aB c3 (ay D.Gc Ah rfl D.mc D.kc D.bc .nil ap (aa (pv 0) (aa aj ad))) aj) (aa (aw aq rfl T.len PySem.boot_len (aa (pv 2) ad)) (aa aj ad)))))
   (ai (az (i:=5) CI.nd rfl (Or.inl rfl) (ls (eE D.My D.Gy IK rfl D.my D.Sd .nil i5 (aa (pv 3) (aa (aT (own:=["_law_room"]) (capN:=[]) (cap:=[]) Se rfl (bx (pv 4)) (fun C s' H' fp=>⟨av (i:=0) Sf rfl (Or.inl rfl),ck,aB bN aj (aB bH (pv 0) aj)⟩)) ad))))))))))
   (af (aN (ay D.Gp IK rfl D.mp D.kp D.bp .nil ap (aa (pv 5) (aa (pv 3) (aa (pv 1) (aa (fB gQ (pv 0) (eB aj) (eB aj)) ad))))))
   (af (az (i:=6) CI.nd rfl (Or.inl rfl) (ay Gu hr rfl mu ku bu .nil ap (aa (pv 5) (aa (ay D.Gc Ah rfl D.mc D.kc D.bc .nil ap (aa (pv 0) (aa aj ad))) ad))))
   (af (aM (PW.pt (hG (au m6 (aw aq rfl T.len PySem.boot_len (aa (pv 6) ad)) (ay (D.Go []) Ai rfl D.mo D.ko D.bo .nil ap (aa (pv 5) ad)) (ax _)) (eA (au (i7 hu) (b7 (pv 5) Y.cl D.mm (D.Gm []) IS D.bm .nil ap) (aP ad) (ax _))))) (ai (ar fD)) aF)
   (af (aM (bQ (b7 (pv 5) Y.cl D.me D.Ge Ah D.be .nil ap)) (ai (ar (c5 (lu (ay D.Gi WH rfl D.mi D.ki D.bi .nil ap (aa (pv 5) ad))) (c4 (cz (jA hu) (ay D.Ga L1 rfl D.ma D.ka D.ba .nil ap (aa (pv 5) ad)) (aP ad) (ax _)))))) aF)
   (ai (ar (c5 (cz yc (ay D.Gi WH rfl D.mi D.ki D.bi .nil ap (aa (pv 5) ad)) fD (ax _)) (c4 (ay D.Gs IS rfl D.ms D.ks D.bs .nil ap (aa (pv 5) (aa (pv 3) ad))))))))))),?_⟩
  refine⟨P1 P w K c ts ys H sc,?_,?_⟩
  ·refine⟨_,rfl,sc,ns,0,rfl,hS,fun d0=>⟨_,_,rfl,rfl,(by show (0:Int) < 3;decide),_,_,rfl,rfl,?_⟩⟩
   obtain⟨n,hn,CW,RA⟩:∃ n:Nat,(2:Int) + d0 % 3=(n:Int)/\2 <= n/\n <= 4:=⟨(2 + d0 % 3).toNat,by omega,by omega,by omega⟩
   dsimp only
   rw[hn]
   refine⟨_,rfl,_,rfl,sc,ns,n,rfl,hS,CW,by omega,fun l zv ps H1 s1 nl gl EI zp Hx Sg=>?_⟩
   refine⟨_,rfl,_,rfl,_,rfl,sc,ns,2,rfl,s1.seq hS,fun d1=>⟨l,zv,ps,n,d1,rfl,gl,EI,zp,Sg,CW,RA,fun tb xl By lt zw wy H2 s2 Qj hT Dc=>?_⟩⟩
   have HL:=s1.trans s2
   have BA:zv.length=ps.length:=Paired.length EI
   refine⟨_,rfl,sc,ns,0,rfl,HL.seq hS,fun d2=>⟨_,_,rfl,rfl,⟨by decide,by decide⟩,_,rfl,l,_,rfl, .inl (zj.of (s2 _ _ gl)),_,zv.length,3,rfl,by omega,by decide,by decide,fun Ro ds H3 s3 hRo Oj Cu AR=>?_⟩⟩
   have RT:=HL.trans s3
   have ED:=hT.keep W (zf.zC s3)
   refine⟨fun v H5=>∃ (H4:Hp)(rs:List Int),zf H3 H4/\(∀ r ∈ rs,1 <= r/\r <= 60)/\VA K c ts.told (zE P w ts) ys [] H4 tb ps n wy rs v H5,?_,?_⟩
   ·refine⟨_,rfl,_,rfl,Ro,rfl,⟨_,zj.of Oj⟩,?_⟩
    refine bM ds.length (by rw[sizeLine_eq];omega) (fun i acc H'=>H' = H3/\∃ ks:List Int,acc=ks.map V.int/\ks.length=i/\∀ r ∈ ks,1 <= r/\r <= 60) ⟨rfl,[],rfl,rfl,fun r hr=>by cases hr⟩ (fun i acc H' h=>by obtain⟨_,ks,rfl,e,_⟩:=h;rw[length_map];omega) (fun i acc H' hi h=>?_) (fun acc H' h=>?_)
    ·obtain⟨rfl,ks,rfl,e,Ol⟩:=h
     have hx:(ds.map V.int)[i]? = some (.int (ds[i])):=by rw[getElem?_map,getElem?_eq_getElem hi];rfl
     refine⟨⟨_,_,zj.of Oj,hx⟩,fun v H2 y=>?_⟩
     obtain⟨rfl,y⟩:=y
     have hv:=y _ (zj.of Oj)
     rw[hx]at hv
     cases hv
     refine⟨_,rfl,_,_,rfl,rfl,(by show (0:Int) < 3;decide),_,_,rfl,rfl,rfl,ks ++ [1 + ds[i] % 3],by rw[map_append];rfl,by rw[length_append,e];rfl,fun r hr=>?_⟩
     rcases mem_append.mp hr with hr | hr
     ·exact Ol r hr
     ·rw[mem_singleton.mp hr];exact⟨by omega,by omega⟩
    obtain⟨rfl,ks,rfl,AZ,Ol⟩:=h
    refine⟨⟨_,zj.of Oj,by rw[length_map];exact Nat.le_refl _⟩,fun D2 AF=>?_⟩
    have s4:=(zf.refl H').new (o := .lst (ks.map V.int)) AF
    have g4:(upd H' D2 (.lst (ks.map V.int))) D2=some (.lst (ks.map V.int)):=ac
    generalize upd H' D2 (.lst (ks.map V.int))=H4 at s4 g4 ⊢
    have Hg:=ED.keep W (zf.zC s4)
    exact fun y dy ny QR QS=>uL (uM (P:=P) (w:=w) (ys:=ys) (ex:=[]) (nr:=nr) W Hg Dc zp (zj.of g4) (by rw[AZ,Cu,BA]) Ol (by omega) (fun z hz=>by cases hz) y dy ny QR QS) fun v H5 h=>⟨h.1,H4,ks,s4,Ol,h.2⟩
   rintro v H5 ⟨H4,rs,s4,ET,a,rfl,e1,e2,e3,e4,s5,fr,hI,hJ⟩
   have WI:=RT.trans s4
   subst e1 e2 e3 e4
   exact⟨a,l,Ro,rs,WI.trans s5,hI,hJ,fun z hz=>WI.free (fr z hz),ET,Sg,CW,rfl⟩
  rintro σ Hc ⟨a,l,Ro,rs,WJ,M9,hJ0,Df,ET,Sg,CW,rfl⟩
  have lst4:=fun z (hz:z ∈ a.four)=>M9.Y.AS z hz
  have two:∀ z:Addr,z ∈ [a.le,a.dn]->z ∈ a.four:=fun z hz=>by simp only[mem_cons,not_mem_nil,or_false]at hz ⊢;rcases hz with rfl | rfl<;>simp
  obtain⟨ms,hms,Hy⟩:=ut ns 3 11
  refine⟨_,rfl,_,rfl,_,rfl,_,rfl,_,rfl,_,rfl,sc,_,rfl,WJ.seq hS,fun cs GU=>?_⟩
  rw[show iH (ns.map V.int) (some 3) (some 11)=ms.map V.int from hms]
  have s1:=(zf.refl Hc).new (o := .lst (ms.map V.int)) GU
  have Mr:(upd Hc cs (.lst (ms.map V.int))) cs=some (.lst (ms.map V.int)):=ac
  have RL:cs ∉ a.four:=tO M9.Y GU
  generalize upd Hc cs (.lst (ms.map V.int))=H1 at s1 Mr ⊢
  have Ba:=M9.same W s1
  refine⟨a,Y0 (rs.map V.int) a.n,cs,ms,rfl,Ba.Y,Ba.T,hJ0,(fun p hp=>by cases hp),Mr,RL,by omega,zero_le _,zero_le _,CW,fun H2 sA o2 BF WK hWA Om WL hdA=>?_⟩
  have WL:sA.U.length <= 0 + ms.length:=WL
  have hl8:sA.U.length <= 8:=by omega
  have hcA:sA.done.length + 0=0 + sA.U.length:=Om.cnt
  have HL:zf H H2:=si (WJ.trans s1) o2 fun b hb=>Df b (two b hb)
  have IY:zc c ts.told (zE P w ts) H2 a:=An.keep W Ba.T (zo.zC (fun b hb=>Ba.Y.AS b (two b hb)) o2)
  have hIA:B6 K c ts.told (zE P w ts) (yx ys []) H2 a sA:=⟨BF,IY,M9.O,WK.ok⟩
  obtain⟨NA,CA⟩:=(Rj (a:=a) (n:=a.n) ET).psd Om
  have hfA:=pX (Om.Ao (fun t ht=>by cases ht))
  have hM:0 <= iT a sA/\iT a sA <= 1000:=by
   unfold iT
   have hl:0 <= l4 sA/\l4 sA <= 4 * sA.U.length:=hfA
   obtain⟨x,hx⟩:∃ x:Nat,l4 sA=(x:Int):=⟨(l4 sA).toNat,by omega⟩
   have Sh:x <= 32:=by omega
   rw[hx]
   have h1:x * (2 * a.ps.length + 1) <= 32 * 13:=Nat.mul_le_mul Sh (by omega)
   have h2:((x:Int) * ((2 * a.ps.length + 1:Nat):Int))=((x * (2 * a.ps.length + 1):Nat):Int):=(natCast_mul _ _).symm
   rw[h2]
   exact⟨by omega,by omega⟩
  have HR:=HL _ _ Cv
  have nTb:Tb ∉ a.four:=fun z=>by rw[Df Tb z]at Cv;cases Cv
  refine⟨_,rfl,_,rfl,sc,ns,11,rfl,HL.seq hS,fun d3=>⟨a,sA,NA,d3,rfl,hIA,WK,CA,by omega,hM.1,hM.2,HR,fun Dm zP n s' N' H3 o3 B5 Fc WM C' gDm hdm hnm EV=>?_⟩⟩
  have k3:zG H2 H3:=fun b o e nn=>by
   by_cases hb:b ∈ Tb :: a.four
   ·rcases mem_cons.mp hb with rfl | hb
    ·rw[HR]at e;cases e;exact nn.elim
    ·obtain⟨xs,g⟩:=BF.AS b hb;rw[g]at e;cases e;exact nn.elim
   ·exact o3 b o hb e
  have IP:B6 K c ts.told (zE P w ts) (yx ys []) H3 a s':=⟨B5,An.keep W IY k3,M9.O,Fc.ok⟩
  have h60:=Fc.Ao
  have h12:=IP.T.K6
  refine⟨_,rfl,Dm,_,rfl, .inl (zj.of gDm),_,rfl,a,s',rfl,IP,by omega,fun H4 s4=>⟨_,_,rfl,rfl,_,rfl,?_⟩⟩
  rw[decide_eq_false (show ¬ l4 s' * ((2 * a.ps.length + 1:Nat):Int) < ((zP.length:Nat):Int) from Int.not_lt.mpr (by rw[hdm];exact hnm))]
  have Si:=IP.same W s4
  refine aI ⟨_,rfl,a.y,a.dy,_,rfl,Si.Y.ins,rfl,a,s',rfl,Si,fun Mm zK H5 s5 hMm WN pMm=>⟨zero_le _,fun o8 Sj=>?_⟩⟩
  have u6:=s5.new (o := .lst []) Sj
  have g8:(upd H5 o8 (.lst [])) o8=some (.lst []):=ac
  have WO:(upd H5 o8 (.lst [])) Mm=some (.lst zK):=by rw[ae (ag WN Sj)];exact WN
  have WQ:=Paired.mono (fun _ _ z=>AQ.keep (zf.zC ((zf.refl H5).new (o := .lst []) Sj)) z) pMm
  generalize upd H5 o8 (.lst [])=H6 at u6 g8 WO WQ ⊢
  refine neN (f:=uG) (l:=bT a s') (.lst (zj.of WO) (lE WQ)) (.lst (zj.of g8) .nil) (uS _) ⟨_,rfl,?_⟩
  rw[EV]
  have Sk:=Si.same W u6
  refine aI ⟨_,rfl,a.y,a.dy,_,rfl,Sk.Y.ins,rfl,a.y,a.dy,a.tb,a.ro,a.la,a.le,a.li,a.dn,s',rfl,Sk.Y,by omega,by rw[Fc.lies];omega,fun H7 s7=>⟨_,rfl,?_⟩⟩
  have IU:=Sk.same W s7
  have Oo:kS a s' = !mS s':=by unfold kS;rw[EV];rfl
  cases hE:mS s' with
  | true =>
   rw[hE]at Oo
   refine aJ ⟨_,rfl,a,s',rfl,IU,fun H8 s8=>⟨_,rfl,_,rfl,?_⟩⟩
   rw[Oo]
   have Oq:=IU.same W s8
   refine aJ ⟨_,rfl,a,s',rfl,Oq,fun Wd zO H9 s9 hWd WR pWd=>⟨zero_le _,fun o9 Gq=>?_⟩⟩
   have g9:(upd H9 o9 (.lst [])) o9=some (.lst []):=ac
   have WS:(upd H9 o9 (.lst [])) Wd=some (.lst zO):=by rw[ae (ag WR Gq)];exact WR
   have p9:=Paired.mono (fun _ _ z=>Eu.keep (zf.zC ((zf.refl H9).new (o := .lst []) Gq)) z) pWd
   generalize upd H9 o9 (.lst [])=Ha at g9 WS p9 ⊢
   refine QQ (f:=NW) (l:=cp a s' a.ps.length) (.lst (zj.of WS) (wk p9)) (.lst (zj.of g9) .nil) (xt _) ?_
   rw[qv (rh Fc hE)]
   exact q _
  | false =>
   rw[hE]at Oo
   refine aI ⟨_,rfl,a,s',rfl,IU,fun H8 s8=>⟨_,true,rfl,rfl,_,rfl,?_⟩⟩
   rw[Oo]
   have Oq:=IU.same W s8
   have Gx:∀ (k:Nat)(ln:bC),s'.lanes[k]? = some ln->1 <= ln.r + ln.b + ln.qs.length:=fun k ln hk=>by
    have h1:=(C'.G.room k ln hk).1
    have e:s'.rooms=rs.map V.int:=WM.rooms.trans Om.rooms
    rw[e,getElem?_map]at h1
    cases hx:rs[k]? with
    | none=>rw[hx]at h1;cases h1
    | some r =>
     rw[hx]at h1
     have h1:=V.int.inj (Option.some.inj h1)
     have:=(ET r (mem_of_getElem? hx)).1
     omega
   have WT:=xr EV
   exact aJ ⟨_,rfl,_,rfl,a,s',N',rfl,⟨Oq,Fc,C'.G,WT,Gx⟩,wf C'.G Fc WT Gx (hWA.Ri WM) Oq.T.ok hE,q⟩
theorem len_of1 {α:Type}{P:List α->Prop}(h:∀ a0,P [a0]):∀ us:List α,us.length=1->P us
 | [a0],_=>h a0
theorem len_of2 {α:Type}{P:List α->Prop}(h:∀ a0 a1,P [a0,a1]):∀ us:List α,us.length=2->P us
 | [a0,a1],_=>h a0 a1
theorem len_of3 {α:Type}{P:List α->Prop}(h:∀ a0 a1 a2,P [a0,a1,a2]):∀ us:List α,us.length=3->P us
 | [a0,a1,a2],_=>h a0 a1 a2
theorem len_of4 {α:Type}{P:List α->Prop}(h:∀ a0 a1 a2 a3,P [a0,a1,a2,a3]):∀ us:List α,us.length=4->P us
 | [a0,a1,a2,a3],_=>h a0 a1 a2 a3
theorem len_of5 {α:Type}{P:List α->Prop}(h:∀ a0 a1 a2 a3 a4,P [a0,a1,a2,a3,a4]):∀ us:List α,us.length=5->P us
 | [a0,a1,a2,a3,a4],_=>h a0 a1 a2 a3 a4
structure FT (K:Frag)(mg:Str->Option Value)(n:Str)(st:Stmt)(ps:List Str)(f:Addr)(fd:FuncData):Prop where
 F:zH K n n st f fd
 m:mg n=some (.ref f)
 k:keepIn K (.ref f)=true
 b:Binds K fd ps []
structure FM (K:Frag)(C:Addr)(n q:Str)(st:Stmt)(ps:List Str)(f:Addr)(fd:FuncData):Prop where
 F:zH K n q st f fd
 m:bA K C n f
 b:Binds K fd ps []
section
variable {K:Frag}{mg:Str->Option Value}{C f:Addr}{n q:Str}{st:Stmt}{ps:List Str}{h:Heap}{oc:Value}{od an:Option Addr}{BZ:Array (Option Value)}{kV doc pm cdv ct:Value}
theorem mkT (X:K.In h)(G:h.Ns mainGlobals mg)(hb:∀ (kV doc pm:Value) (an:Option Addr) (cdv ct:Value) (us:List Value),us.length=ps.length->bindArgs (fnOf n n (bB st) (aG st) (ah st) .none kV doc pm an cdv ct) ⟨us,[]⟩ = pure (ps.zip us))
  (a:nsIn K mainGlobals n=some (some (.ref f))) (l:K.lookup f=some ⟨oc,od, .func (fnOf n n (bB st) (aG st) (ah st) .none kV doc pm an cdv ct),BZ⟩) (c:codeIn K cdv n=true) (k:keepIn K (.ref f)=true):∃ fd,FT K mg n st ps f fd :=
 ⟨_,iE l c k,mg_of X G a,k,(iE l c k).binds hb⟩
theorem mkM (hb:∀ (kV doc pm:Value) (an:Option Addr) (cdv ct:Value) (us:List Value),us.length=ps.length->bindArgs (fnOf n q (bB st) (aG st) (ah st) .none kV doc pm an cdv ct) ⟨us,[]⟩ = pure (ps.zip us))
  (a:findIn K (.ref C) n=some (some (.ref f))) (l:K.lookup f=some ⟨oc,od, .func (fnOf n q (bB st) (aG st) (ah st) .none kV doc pm an cdv ct),BZ⟩) (c:codeIn K cdv q=true) (k:keepIn K (.ref f)=true) (i:isFn K (.ref f)=true):∃ fd,FM K C n q st ps f fd :=
 ⟨_,iE l c k,⟨a,i,k⟩,(iE l c k).binds hb⟩
end
section
variable {l:PySem.W.OpenLaw}{w:World}{K:Frag}{h:Heap}{mg:Str->Option Value}{fa cL cN cT cR cE cB cD cM cP cG cW cZ cF cQ cA cH cJ f1 f2 f3 f4 f5 f6 f7 f8 f9 WU Nw WV WW WX Sl Sm Sn WY Sr Ss Su Sv Sw WZ Xa Sy Sz S0 S1 Xb Xc S2 S3 S4 S5 Ot S6 S7 S8 Xd S9 Xe SA SD Xf Xg SE Xh Gz Jc SG SH SI SJ SK Xi SM SN SO SQ SR SS SU SV Xj Xk Xl Xm Xn:Addr}{t1 t2 t3 t4 t5:Tok}
theorem all_mk (X:K.In h)(G:h.Ns mainGlobals mg)(hfa:mg "law" = some (.ref fa))
  {SW SX SY MA Ta MB Tc MC:Option Addr} {Td Te Tf Tg:Array (Option Value)} {Th Ti Tj Tn HS Tp Tq MD MF MG HU MH Tr MI MJ MK HV ML Tt MN MO MP HW MQ oTb:Value} {cc Tb:Addr} {dTb:Option Addr} {Xo:Array Value} {sTb:Array (Option Value)}
  {MR MS:Addr} {Tu Tv:Value} {Tw Tx:Option Addr} {Tz T1:Nat} {T2:Tok}  {T3 T4:Array (Option Value)}
  (gcL:nsIn K mainGlobals "Land" = some (some (.ref cL)))
  (gcN:nsIn K mainGlobals "NoPlaces" = some (some (.ref cN)))
  (gcT:nsIn K mainGlobals "TooMany" = some (some (.ref cT)))
  (gcR:nsIn K mainGlobals "NoRoad" = some (some (.ref cR)))
  (gcE:nsIn K mainGlobals "NoEntry" = some (some (.ref cE)))
  (gcB:nsIn K mainGlobals "Table" = some (some (.ref cB)))
  (gcD:nsIn K mainGlobals "Told" = some (some (.ref cD)))
  (gcM:nsIn K mainGlobals "NoRooms" = some (some (.ref cM)))
  (gcP:nsIn K mainGlobals "NoPlace" = some (some (.ref cP)))
  (gcG:nsIn K mainGlobals "NoLength" = some (some (.ref cG)))
  (gcW:nsIn K mainGlobals "NoWord" = some (some (.ref cW)))
  (gcZ:nsIn K mainGlobals "NoWay" = some (some (.ref cZ)))
  (gcF:nsIn K mainGlobals "Full" = some (some (.ref cF)))
  (gcQ:nsIn K mainGlobals "NoMove" = some (some (.ref cQ)))
  (gcA:nsIn K mainGlobals "Lane" = some (some (.ref cA)))
  (gcH:nsIn K mainGlobals "Letter" = some (some (.ref cH)))
  (gcJ:nsIn K mainGlobals "Yard" = some (some (.ref cJ)))
  (h1:∃ d,FT K mg "run" xD ["yard", "pick", "most"] f1 d)
  (h2:∃ d,FT K mg "most_moves" lU ["yard"] f2 d)
  (h3:∃ d,FT K mg "has" uZ ["some", "number"] f3 d)
  (h4:∃ d,FT K mg "members" sy ["some"] f4 d)
  (h5:∃ d,FT K mg "set_of" xC ["numbers"] f5 d)
  (h6:∃ d,FT K mg "is_whole" gh ["value"] f6 d)
  (h7:∃ d,FT K mg "is_within" ja ["value", "least", "most"] f7 d)
  (h8:∃ d,FT K mg "is_one_of" xG ["value", "numbers"] f8 d)
  (h9:∃ d,FT K mg "are_two_places" xA ["places", "one", "other"] f9 d)
  (h10:∃ d,FT K mg "row_fits" lY ["land", "row"] WU d)
  (h11:∃ d,FT K mg "onward" PM ["table", "lane", "goal"] Nw d)
  (h12:∃ d,FT K mg "rooms_of" gi ["land", "rooms"] WV d)
  (h13:∃ d,FT K mg "is_word" sj ["word"] WW d)
  (h14:∃ d,FT K mg "is_move" lV ["move"] WX d)
  (h15:∃ d,FT K mg "still" oh ["yard"] Sl d)
  (h16:∃ d,FT K mg "waits" nZ ["yard"] Sm d)
  (h17:∃ d,FT K mg "_law_cell_at" sI ["_law_script", "_law_k"] Sn d)
  (h18:∃ d,FT K mg "_law_mixed" xH ["_law_cell", "_law_k"] WY d)
  (h19:∃ d,FT K mg "_law_draws" oz ["_law_cell", "_law_amount", "_law_base"] Sr d)
  (h20:∃ d,FT K mg "_law_lanes" oq ["_law_script", "_law_places"] Ss d)
  (h21:∃ d,FT K mg "_law_table" jx ["_law_lanes_here", "_law_places", "_law_cell"] Su d)
  (h22:∃ d,FT K mg "_law_post" ou ["_law_yard", "_law_table_here", "_law_places", "_law_cells"] Sv d)
  (a23:nsIn K mainGlobals "_law_run" = some (some (.ref Sw)))
  (l23:K.lookup Sw=some ⟨Th,SW, .func (fnOf "_law_run" "_law_run" (bB jy) (aG jy) (ah jy) .none Ti Tj Tn SX HS Tp),Td⟩)
  (c23:codeIn K HS "_law_run" = true)
  (k23:keepIn K (.ref Sw)=true)
  (h24:∃ d,FT K mg "_law_filled" sH ["_law_yard", "_law_table_here"] WZ d)
  (h25:∃ d,FT K mg "_law_at_starts" jv ["_law_yard", "_law_table_here", "_law_filled_here"] Xa d)
  (h26:∃ d,FT K mg "_law_closed" jz ["_law_yard", "_law_table_here"] Sy d)
  (a27:nsIn K mainGlobals "law" = some (some (.ref Sz)))
  (l27:K.lookup Sz=some ⟨Tq,SY, .func (fnOf "law" "law" (bB jw) (aG jw) (ah jw) .none MD MF MG MA HU MH),Te⟩)
  (c27:codeIn K HU "law" = true)
  (k27:keepIn K (.ref Sz)=true)
  (h28:∃ d,FM K cL "__init__" "Land.__init__" lX ["self", "places", "lanes"] S0 d)
  (h29:∃ d,FM K cL "end_of" "Land.end_of" xO ["self", "lane"] S1 d)
  (h30:∃ d,FM K cL "out_of" "Land.out_of" sw ["self", "place"] Xb d)
  (h31:∃ d,FM K cL "into" "Land.into" lW ["self", "place"] Xc d)
  (h32:∃ d,FM K cT "__init__" "TooMany.__init__" N6 ["self", "many"] S2 d)
  (h33:∃ d,FM K cR "__init__" "NoRoad.__init__" N7 ["self", "lane"] S3 d)
  (h34:∃ d,FM K cE "__init__" "NoEntry.__init__" N8 ["self", "row"] S4 d)
  (h35:∃ d,FM K cZ "__init__" "NoWay.__init__" uY ["self", "start", "goal"] S5 d)
  (h36:∃ d,FM K cB "__init__" "Table.__init__" xB ["self", "land"] Ot d)
  (h37:∃ d,FM K cD "__init__" "Told.__init__" sm ["self", "land", "rows"] S6 d)
  (h38:∃ d,FM K cD "ways" "Told.ways" og ["self", "place", "goal", "came"] S7 d)
  (h39:∃ d,FM K cA "__init__" "Lane.__init__" xK ["self", "room"] S8 d)
  (h40:∃ d,FM K cA "open_to" "Lane.open_to" sx ["self", "letter", "count"] Xd d)
  (h41:∃ d,FM K cA "put" "Lane.put" xF ["self", "letter", "count", "last"] S9 d)
  (h42:∃ d,FM K cA "front" "Lane.front" ow ["self"] Xe d)
  (h43:∃ d,FM K cA "pull" "Lane.pull" so ["self"] SA d)
  (h44:∃ d,FM K cA "bring" "Lane.bring" o0 ["self"] SD d)
  (h45:∃ d,FM K cA "told" "Lane.told" xJ ["self"] Xf d)
  (h46:∃ d,FM K cA "twin" "Lane.twin" xI ["self"] Xg d)
  (h47:∃ d,FM K cH "__init__" "Letter.__init__" sF ["self", "start", "goal", "length", "word"] SE d)
  (h48:∃ d,FM K cH "twin" "Letter.twin" sD ["self"] Xh d)
  (a49:findIn K (.ref cJ) "__init__" = some (some (.ref Gz)))
  (l49:K.lookup Gz=some ⟨Tr,Ta, .func (fnOf "__init__" "Yard.__init__" (bB iu) (aG iu) (ah iu) (.ref MR) MI MJ MK MB HV ML),Tf⟩)
  (d49:K.lookup MR=some ⟨Tu,Tw, .seq #[Value.none] Tz,T3⟩)
  (c49:codeIn K HV "Yard.__init__" = true)
  (k49:keepIn K (.ref Gz)=true)
  (i49:isFn K (.ref Gz)=true)
  (a50:findIn K (.ref cJ) "post" = some (some (.ref Jc)))
  (l50:K.lookup Jc=some ⟨Tt,Tc, .func (fnOf "post" "Yard.post" (bB gX) (aG gX) (ah gX) (.ref MS) MN MO MP MC HW MQ),Tg⟩)
  (d50:K.lookup MS=some ⟨Tv,Tx, .seq #[Value.int 0 T2] T1,T4⟩)
  (c50:codeIn K HW "Yard.post" = true)
  (k50:keepIn K (.ref Jc)=true)
  (i50:isFn K (.ref Jc)=true)
  (h51:∃ d,FM K cJ "moves" "Yard.moves" oj ["self"] SG d)
  (h52:∃ d,FM K cJ "moves_in" "Yard.moves_in" lT ["self", "number"] SH d)
  (h53:∃ d,FM K cJ "moves_on" "Yard.moves_on" lS ["self", "lane"] SI d)
  (h54:∃ d,FM K cJ "moves_lie" "Yard.moves_lie" oi ["self", "lane"] SJ d)
  (h55:∃ d,FM K cJ "moves_back" "Yard.moves_back" lp ["self", "lane"] SK d)
  (h56:∃ d,FM K cJ "wanted" "Yard.wanted" gU ["self", "lane"] Xi d)
  (h57:∃ d,FM K cJ "moves_like" "Yard.moves_like" sC ["self", "move"] SM d)
  (h58:∃ d,FM K cJ "do" "Yard.do" PN ["self", "move"] SN d)
  (h59:∃ d,FM K cJ "go_in" "Yard.go_in" sG ["self", "number", "lane"] SO d)
  (h60:∃ d,FM K cJ "enter" "Yard.enter" oy ["self", "piece", "lane"] SQ d)
  (h61:∃ d,FM K cJ "lay" "Yard.lay" xL ["self", "piece", "place"] SR d)
  (h62:∃ d,FM K cJ "own_lane" "Yard.own_lane" su ["self", "lane"] SS d)
  (h63:∃ d,FM K cJ "own_letter" "Yard.own_letter" sr ["self", "number"] SU d)
  (h64:∃ d,FM K cJ "ended" "Yard.ended" gj ["self"] SV d)
  (h65:∃ d,FM K cJ "lane_told" "Yard.lane_told" ot ["self", "lane"] Xj d)
  (h66:∃ d,FM K cJ "letter_told" "Yard.letter_told" sE ["self", "number"] Xk d)
  (h67:∃ d,FM K cJ "way_told" "Yard.way_told" sk ["self", "number"] Xl d)
  (h68:∃ d,FM K cJ "lying" "Yard.lying" om ["self", "place"] Xm d)
  (h69:∃ d,FM K cJ "posted" "Yard.posted" ll ["self"] Xn d)
  (mp:nsIn K mainGlobals "MOST_PLACES" = some (some (.int 12 t1)))
  (ml:nsIn K mainGlobals "MOST_LANES" = some (some (.int 40 t2)))
  (mr:nsIn K mainGlobals "MOST_ROOM" = some (some (.int 60 t3)))
  (mh:nsIn K mainGlobals "MOST_LENGTH" = some (some (.int 60 t4)))
  (mk:nsIn K mainGlobals "MOST_LETTERS" = some (some (.int 60 t5)))
  (p1cL:plainGet K cL Str.empty=true)
  (p2cL:hasDictIn K cL=true)
  (p3cL:plainOver K cL=true)
  (p4cL:findIn K (.ref cL) "__setattr__" = some (some (.builtin "object.__setattr__")))
  (p5cL:makesIn K cL=true)
  (p6cL:keepIn K (.ref cL)=true)
  (ncLplaces:findIn K (.ref cL) "places" = some none)
  (ncLlanes:findIn K (.ref cL) "lanes" = some none)
  (p1cB:plainGet K cB Str.empty=true)
  (p2cB:hasDictIn K cB=true)
  (p3cB:plainOver K cB=true)
  (p4cB:findIn K (.ref cB) "__setattr__" = some (some (.builtin "object.__setattr__")))
  (p5cB:makesIn K cB=true)
  (p6cB:keepIn K (.ref cB)=true)
  (ncBland:findIn K (.ref cB) "land" = some none)
  (p1cD:plainGet K cD Str.empty=true)
  (p2cD:hasDictIn K cD=true)
  (p3cD:plainOver K cD=true)
  (p4cD:findIn K (.ref cD) "__setattr__" = some (some (.builtin "object.__setattr__")))
  (p5cD:makesIn K cD=true)
  (p6cD:keepIn K (.ref cD)=true)
  (ncDland:findIn K (.ref cD) "land" = some none)
  (ncDentries:findIn K (.ref cD) "entries" = some none)
  (p1cA:plainGet K cA Str.empty=true)
  (p2cA:hasDictIn K cA=true)
  (p3cA:plainOver K cA=true)
  (p4cA:findIn K (.ref cA) "__setattr__" = some (some (.builtin "object.__setattr__")))
  (p5cA:makesIn K cA=true)
  (p6cA:keepIn K (.ref cA)=true)
  (ncArights:findIn K (.ref cA) "rights" = some none)
  (ncAreturning:findIn K (.ref cA) "returning" = some none)
  (ncAholder:findIn K (.ref cA) "holder" = some none)
  (ncApieces:findIn K (.ref cA) "pieces" = some none)
  (p1cH:plainGet K cH Str.empty=true)
  (p2cH:hasDictIn K cH=true)
  (p3cH:plainOver K cH=true)
  (p4cH:findIn K (.ref cH) "__setattr__" = some (some (.builtin "object.__setattr__")))
  (p5cH:makesIn K cH=true)
  (p6cH:keepIn K (.ref cH)=true)
  (ncHstart:findIn K (.ref cH) "start" = some none)
  (ncHgoal:findIn K (.ref cH) "goal" = some none)
  (ncHlength:findIn K (.ref cH) "length" = some none)
  (ncHword:findIn K (.ref cH) "word" = some none)
  (ncHgone:findIn K (.ref cH) "gone" = some none)
  (ncHway:findIn K (.ref cH) "way" = some none)
  (p1cJ:plainGet K cJ Str.empty=true)
  (p2cJ:hasDictIn K cJ=true)
  (p3cJ:plainOver K cJ=true)
  (p4cJ:findIn K (.ref cJ) "__setattr__" = some (some (.builtin "object.__setattr__")))
  (p5cJ:makesIn K cJ=true)
  (p6cJ:keepIn K (.ref cJ)=true)
  (ncJtable:findIn K (.ref cJ) "table" = some none)
  (ncJrooms:findIn K (.ref cJ) "rooms" = some none)
  (ncJlanes:findIn K (.ref cJ) "lanes" = some none)
  (ncJletters:findIn K (.ref cJ) "letters" = some none)
  (ncJlies:findIn K (.ref cJ) "lies" = some none)
  (ncJdone:findIn K (.ref cJ) "done" = some none)
  (x1cN:bE K cN none=true)
  (x2cN:keepIn K (.ref cN)=true)
  (x1cT:bE K cT (some (.ref S2))=true)
  (x2cT:keepIn K (.ref cT)=true)
  (x3cT:iF K cT=true)
  (x4cT:hasDictIn K cT=true)
  (x5cT:findIn K (.ref cT) "__setattr__" = some (some (.builtin "object.__setattr__")))
  (x6cT:findIn K (.ref cT) "__getattribute__" = some (some (.builtin "BaseException.__getattribute__")))
  (x7cT:findIn K (.ref cT) "__getattr__" = some none)
  (ncTmany:findIn K (.ref cT) "many" = some none)
  (x1cR:bE K cR (some (.ref S3))=true)
  (x2cR:keepIn K (.ref cR)=true)
  (x3cR:iF K cR=true)
  (x4cR:hasDictIn K cR=true)
  (x5cR:findIn K (.ref cR) "__setattr__" = some (some (.builtin "object.__setattr__")))
  (x6cR:findIn K (.ref cR) "__getattribute__" = some (some (.builtin "BaseException.__getattribute__")))
  (x7cR:findIn K (.ref cR) "__getattr__" = some none)
  (ncRlane:findIn K (.ref cR) "lane" = some none)
  (x1cE:bE K cE (some (.ref S4))=true)
  (x2cE:keepIn K (.ref cE)=true)
  (x3cE:iF K cE=true)
  (x4cE:hasDictIn K cE=true)
  (x5cE:findIn K (.ref cE) "__setattr__" = some (some (.builtin "object.__setattr__")))
  (x6cE:findIn K (.ref cE) "__getattribute__" = some (some (.builtin "BaseException.__getattribute__")))
  (x7cE:findIn K (.ref cE) "__getattr__" = some none)
  (ncErow:findIn K (.ref cE) "row" = some none)
  (x1cM:bE K cM none=true)
  (x2cM:keepIn K (.ref cM)=true)
  (x1cP:bE K cP none=true)
  (x2cP:keepIn K (.ref cP)=true)
  (x1cG:bE K cG none=true)
  (x2cG:keepIn K (.ref cG)=true)
  (x1cW:bE K cW none=true)
  (x2cW:keepIn K (.ref cW)=true)
  (x1cZ:bE K cZ (some (.ref S5))=true)
  (x2cZ:keepIn K (.ref cZ)=true)
  (x3cZ:iF K cZ=true)
  (x4cZ:hasDictIn K cZ=true)
  (x5cZ:findIn K (.ref cZ) "__setattr__" = some (some (.builtin "object.__setattr__")))
  (x6cZ:findIn K (.ref cZ) "__getattribute__" = some (some (.builtin "BaseException.__getattribute__")))
  (x7cZ:findIn K (.ref cZ) "__getattr__" = some none)
  (ncZstart:findIn K (.ref cZ) "start" = some none)
  (ncZgoal:findIn K (.ref cZ) "goal" = some none)
  (x1cF:bE K cF none=true)
  (x2cF:keepIn K (.ref cF)=true)
  (x1cQ:bE K cQ none=true)
  (x2cQ:keepIn K (.ref cQ)=true)
  (w1cB:PySem.W.readsIn K cB (.type "type")=true)
  (w2cB:PySem.W.findCls K (.ref cB) (.type "type") "__init__" = some (.val (.ref Ot)))
  (w3cB:PySem.W.specialIn K (.ref cB) "__getattribute__" = some (some (.builtin "type.__getattribute__")))
  (kk1:kitOne K (.type "int") (.type "int")=some true)
  (kk2:kitOne K (.type "int") (.type "bool")=some false)
  (kk3:kitOne K (.type "bool") (.type "int")=some true)
  (kk4:kitOne K (.type "bool") (.type "bool")=some true)
  (kk5:kitOne K (.type "NoneType") (.type "int")=some false)
  (kk6:kitOne K (.type "str") (.type "str")=some true)
  (kk7:kitOne K (.type "int") (.type "str")=some false)
  (kk8:kitOne K (.type "tuple") (.type "tuple")=some true)
  (kk9:kitOne K (.type "list") (.type "list")=some true)
  (eQ:PySem.W.exmOne K (.ref cQ) (.ref cQ)=some true)
  (z0:nsIn K mainGlobals "isinstance" = some none)
  (z1:nsIn K mainGlobals "int" = some none)
  (z2:nsIn K mainGlobals "bool" = some none)
  (z3:nsIn K mainGlobals "len" = some none)
  (z4:nsIn K mainGlobals "enumerate" = some none)
  (z5:nsIn K mainGlobals "tuple" = some none)
  (z6:nsIn K mainGlobals "range" = some none)
  (z7:nsIn K mainGlobals "list" = some none)
  (z8:nsIn K mainGlobals "all" = some none)
  (z9:nsIn K mainGlobals "sum" = some none)
  (z10:nsIn K mainGlobals "abs" = some none)
  (z11:nsIn K mainGlobals "str" = some none)
  (hc0:HS=Value.ref cc)
  (lc0:K.lookup cc=some ⟨oTb,dTb, .fields Xo,sTb⟩)
  (hv0:Xo[11]? = some (Value.ref Tb))
  : ∃ (fd:FuncData)(c Tb:Addr),PySem.W.tabIn K "_law_run" = some (c,Tb)/\(∀ (s:Shared)(v:Value),BindsTo s fd ⟨[v],[]⟩ [("_law_script",v)])/\∀ base:Heap,K.In base->base.Ns mainGlobals mg->Ek mg base c Tb->zg l.prog w K mg base aD 11 fa fd ["_law_script"] (pB K Tb):=by
 have e:=hfa.symm.trans (mg_of X G a27)
 cases e
 have T:eW mg:=⟨mg_none_of X G z0,mg_none_of X G z1,mg_none_of X G z2,mg_none_of X G z3,mg_none_of X G z4,mg_none_of X G z5,mg_none_of X G z6,mg_none_of X G z7,mg_none_of X G z8,mg_none_of X G z9,mg_none_of X G z10,mg_none_of X G z11⟩
 obtain⟨d1,H1⟩:=h1
 obtain⟨d2,H2⟩:=h2
 obtain⟨d3,H3⟩:=h3
 obtain⟨d4,H4⟩:=h4
 obtain⟨d5,H5⟩:=h5
 obtain⟨d6,H6⟩:=h6
 obtain⟨d7,H7⟩:=h7
 obtain⟨d8,H8⟩:=h8
 obtain⟨d9,H9⟩:=h9
 obtain⟨d10,EA⟩:=h10
 obtain⟨d11,Ov⟩:=h11
 obtain⟨d12,Ow⟩:=h12
 obtain⟨d13,Ox⟩:=h13
 obtain⟨d14,Oy⟩:=h14
 obtain⟨d15,Oz⟩:=h15
 obtain⟨d16,HX⟩:=h16
 obtain⟨d17,HY⟩:=h17
 obtain⟨d18,O0⟩:=h18
 obtain⟨d19,Ey⟩:=h19
 obtain⟨d20,O1⟩:=h20
 obtain⟨d21,O2⟩:=h21
 obtain⟨d22,O3⟩:=h22
 obtain⟨d24,O4⟩:=h24
 obtain⟨d25,O5⟩:=h25
 obtain⟨d26,O6⟩:=h26
 obtain⟨d28,O7⟩:=h28
 obtain⟨d29,T5⟩:=h29
 obtain⟨d30,T6⟩:=h30
 obtain⟨d31,T7⟩:=h31
 obtain⟨d32,T8⟩:=h32
 obtain⟨d33,T9⟩:=h33
 obtain⟨d34,TB⟩:=h34
 obtain⟨d35,TF⟩:=h35
 obtain⟨d36,TH⟩:=h36
 obtain⟨d37,O8⟩:=h37
 obtain⟨d38,TK⟩:=h38
 obtain⟨d39,MT⟩:=h39
 obtain⟨d40,HZ⟩:=h40
 obtain⟨d41,TL⟩:=h41
 obtain⟨d42,Ia⟩:=h42
 obtain⟨d43,TM⟩:=h43
 obtain⟨d44,TN⟩:=h44
 obtain⟨d45,TQ⟩:=h45
 obtain⟨d46,TU⟩:=h46
 obtain⟨d47,MU⟩:=h47
 obtain⟨d48,TV⟩:=h48
 obtain⟨d51,MV⟩:=h51
 obtain⟨d52,TY⟩:=h52
 obtain⟨d53,TZ⟩:=h53
 obtain⟨d54,Ua⟩:=h54
 obtain⟨d55,Ub⟩:=h55
 obtain⟨d56,MW⟩:=h56
 obtain⟨d57,Uc⟩:=h57
 obtain⟨d58,Ud⟩:=h58
 obtain⟨d59,Ue⟩:=h59
 obtain⟨d60,MX⟩:=h60
 obtain⟨d61,Ug⟩:=h61
 obtain⟨d62,Uh⟩:=h62
 obtain⟨d63,Ui⟩:=h63
 obtain⟨d64,MY⟩:=h64
 obtain⟨d65,Ff⟩:=h65
 obtain⟨d66,Ib⟩:=h66
 obtain⟨d67,Uj⟩:=h67
 obtain⟨d68,Uk⟩:=h68
 obtain⟨d69,MZ⟩:=h69
 have Xp:=iE (st:=jy) l23 c23 k23
 have F27:=iE (st:=jw) l27 c27 k27
 have F49:Dh K "__init__" "Yard.__init__" iu Gz _:=⟨⟨_,_,_,_,_,_,_,_,_,_,rfl,l49,c49⟩,k49⟩
 have F50:Dh K "post" "Yard.post" gX Jc _:=⟨⟨_,_,_,_,_,_,_,_,_,_,rfl,l50,c50⟩,k50⟩
 have L:nu K ⟨cN,cT,cR,cL⟩:=⟨⟨p1cL,p2cL,p3cL,p4cL⟩,ncLplaces,ncLlanes⟩
 have xT:gs K cT:=⟨x3cT,x4cT,x5cT,x6cT,x7cT⟩
 have xR:gs K cR:=⟨x3cR,x4cR,x5cR,x6cR,x7cR⟩
 have xE:gs K cE:=⟨x3cE,x4cE,x5cE,x6cE,x7cE⟩
 have xZ:gs K cZ:=⟨x3cZ,x4cZ,x5cZ,x6cZ,x7cZ⟩
 have Z:uD K:=⟨kk1,kk2,kk3,kk4,kk5⟩
 have ZS:Lz K:=⟨kk6,kk7,kk8⟩
 have E:Exc K mg ⟨cN,cT,cR,cL⟩ S2 S3 _ _:=⟨(mg_of X G gcN),x1cN,x2cN,(mg_of X G gcT),x1cT,x2cT,xT,ncTmany,T8.m.fn,T8.F,T8.b,(mg_of X G gcR),x1cR,x2cR,xR,ncRlane,T9.m.fn,T9.F,T9.b⟩
 have B:PY K mg ⟨cB,cD,cE⟩ Ot S4 _ _:=⟨⟨p1cB,p2cB,p3cB,p4cB⟩,ncBland,⟨p1cD,p2cD,p3cD,p4cD⟩,ncDland,ncDentries,(mg_of X G gcB),⟨w1cB,w2cB,w3cB,TH.m.kp⟩,TH.b,(mg_of X G gcE),x1cE,x2cE,xE,ncErow,TB.m.fn,TB.F,TB.b⟩
 have M:Kq K ⟨cN,cT,cR,cL⟩ Xb Xc _ _:=⟨T6.m,T7.m,T6.b,T7.b⟩
 have ME:uE K ⟨cN,cT,cR,cL⟩ S1 _:=⟨T5.m,T5.b⟩
 have Y:∀ ex:List Addr,fU K ⟨cJ,cA,cH,ex⟩:=fun _=>⟨⟨p1cJ,p2cJ,p3cJ,p4cJ⟩,ncJtable,ncJrooms,ncJlanes,ncJletters,ncJlies,ncJdone,⟨p1cH,p2cH,p3cH,p4cH⟩,ncHstart,ncHgoal,ncHlength,ncHword,ncHgone,ncHway,⟨⟨p1cA,p2cA,p3cA,p4cA⟩,ncArights,ncAreturning,ncAholder,ncApieces⟩⟩
 have eX:uK K mg "NoRooms" cM:=⟨(mg_of X G gcM),x1cM,x2cM⟩
 have X1:uK K mg "NoPlace" cP:=⟨(mg_of X G gcP),x1cP,x2cP⟩
 have X2:uK K mg "NoLength" cG:=⟨(mg_of X G gcG),x1cG,x2cG⟩
 have X3:uK K mg "NoWord" cW:=⟨(mg_of X G gcW),x1cW,x2cW⟩
 have X5:uK K mg "Full" cF:=⟨(mg_of X G gcF),x1cF,x2cF⟩
 have X4:Vh K mg cZ S5 _:=⟨(mg_of X G gcZ),x1cZ,x2cZ,xZ,ncZstart,ncZgoal,TF.m.fn,TF.F,TF.b⟩
 have XM:Kx K mg cQ:=⟨(mg_of X G gcQ),x1cQ,x2cQ,eQ⟩
 have Sd:=oY (kV:=MI) (doc:=MJ) (pm:=MK) (cdv:=HV) (ct:=ML) (an:=MB) d49 rfl
 have bp0:=nj (kV:=MN) (doc:=MO) (pm:=MP) (cdv:=HW) (ct:=MQ) (an:=MC) d50 rfl
 have Mi:Mk K cL S0:=⟨p5cL,O7.m.at_,O7.m.fn,p6cL⟩
 have Mt:Mk K cD S6:=⟨p5cD,O8.m.at_,O8.m.fn,p6cD⟩
 have My:Mk K cJ Gz:=⟨p5cJ,a49,i49,p6cJ⟩
 have Ma:Mk K cA S8:=⟨p5cA,MT.m.at_,MT.m.fn,p6cA⟩
 have Mh:Mk K cH SE:=⟨p5cH,MU.m.at_,MU.m.fn,p6cH⟩
 refine⟨fnOf "law" "law" (bB jw) (aG jw) (ah jw) .none MD MF MG MA HU MH,cc,Tb,xa a23 l23 hc0 lc0 hv0,fun s v => .of_eq rfl,fun base _ _ NS=>?_⟩
 have CV:=hc0
 have Wn:Wy K cD S7 _ (zE l.prog w ⟨cB,cD,cE⟩):=⟨⟨p1cD,p2cD,p3cD,p4cD⟩,ncDland,TK.m,TK.b,fun H H' x n wy h k=>zE.keep (n:=n) (wy:=wy) h k⟩
 have Ic:∀ base:Heap,WG l.prog w K mg base ⟨cN,cT,cR,cL⟩ ⟨cB,cD,cE⟩ ⟨cJ,cA,cH,[]⟩ cM Sn Sr Ss Su Gz Sv SN f2 SG SV Sl Sm Sy _ _ _ _ _ _ _ _ _ _ _ _ _:=fun base=>by
  have Gm:zg l.prog w K mg base aD 2 f4 _ _ _:=yo H4.F T H3.m H3.F H3.b
  have Gb:zg l.prog w K mg base aD 3 S7 _ _ _:=nL (tj (ts:=⟨cB,cD,cE⟩) TK.F B H4.m H4.k H4.b Gm)
  have Gw:zg l.prog w K mg base aD 2 f7 _ _ _:=qN H7.F T H6.m H6.F H6.b
  have Ul:zg l.prog w K mg base aD 2 f7 _ _ _:=oE H7.F T Z H6.m H6.F H6.b
  have GW:zg l.prog w K mg base aD 1 f6 _ _ _:=kA H6.F T Z
  have G2:zg l.prog w K mg base aD 3 f9 _ _ _:=yg H9.F H7.m H7.k H7.b Gw
  have Gi:zg l.prog w K mg base (e7 l.prog w) 4 S0 _ _ _:=vL O7.F T L E H7.m H7.k H7.b Gw H9.m H9.k H9.b G2 (mg_of X G mp) (mg_of X G ml)
  have Go:zg l.prog w K mg base aD 2 f8 _ _ _:=ym H8.F T H6.m H6.F H6.b
  have Gf:zg l.prog w K mg base aD 4 WU _ _ _:=vN EA.F T L M H9.m H9.k H9.b G2 H8.m H8.k H8.b Go (yl T6.F T L) (vK T7.F T L)
  have G1:zg l.prog w K mg base aD 1 Ot _ _ _:=yh TH.F
  have Gse:zg l.prog w K mg base aD 1 f5 _ _ _:=yi H5.F
  have Gt:zg l.prog w K mg base (e7 l.prog w) 5 S6 _ _ _:=vw O8.F T B G1 EA.m EA.k EA.b Gf H5.m H5.k H5.b Gse
  have Ge:zg l.prog w K mg base aD 1 S1 _ _ _:=y1 T5.F L
  have Gro:zg l.prog w K mg base (e7 l.prog w) 3 WV _ _ _:=tw Ow.F T L eX H7.m H7.k H7.b Ul (mg_of X G mr)
  have Qp:zg l.prog w K mg base aD 2 WW _ _ _:=vq Ox.F T H6.m H6.k H6.b GW
  have Xq:zg l.prog w K mg base aD 1 S8 _ _ _:=yu MT.F (Y []).L
  have Glt:zg l.prog w K mg base aD 1 Xf _ _ _:=yt TQ.F T (Y []).L
  have Um:zg l.prog w K mg base aD 1 Xd _ _ _:=v9 HZ.F (Y []).L
  have Uo:zg l.prog w K mg base aD 1 Xe _ _ _:=tH Ia.F (Y []).L
  have Gpu:zg l.prog w K mg base (e7 l.prog w) 2 S9 _ _ _:=yk TL.F (Y []).L XM HZ.m HZ.b Um
  have Gpl:zg l.prog w K mg base (e7 l.prog w) 1 SA _ _ _:=vy TM.F (Y []).L XM
  have Gbr:zg l.prog w K mg base (e7 l.prog w) 1 SD _ _ _:=tL TN.F (Y []).L XM
  have Gtw:zg l.prog w K mg base aD 3 Xg _ _ _:=yr TU.F T (Y []).L (mg_of X G gcA) Ma MT.b Xq
  have Xr:zg l.prog w K mg base aD 1 SE _ _ _:=yq MU.F (Y [])
  have Gtx:zg l.prog w K mg base aD 3 Xh _ _ _:=yp TV.F T (Y []) (mg_of X G gcH) Mh MU.b Xr
  have Gy:zg l.prog w K mg base (e7 l.prog w) 4 Gz _ _ _:=yf F49 T L (Y []) Wn Ow.m Ow.k Ow.b Gro (mg_of X G gcA) Ma MT.b Xq
  have Gp:zg l.prog w K mg base (e7 l.prog w) 4 Jc _ _ (nR K ⟨cN,cT,cR,cL⟩ cD (zE l.prog w ⟨cB,cD,cE⟩) ⟨cJ,cA,cH,[]⟩ ⟨cP,cG,cW,cZ,cF⟩):=v5 F50 T L (Y []) Wn Gb H7.m H7.k H7.b Ul Ox.m Ox.k Ox.b Qp (mg_of X G gcH) Mh MU.b Xr (mg_of X G mh) (mg_of X G mk) X1 X2 X3 X4 X5
  have Gol:∀ ex:List Addr,zg l.prog w K mg base aD 4 SS _ _ _:=fun ex=>v8 Uh.F (Y ex) TU.m TU.b Gtw
  have Got:∀ ex:List Addr,zg l.prog w K mg base aD 4 SU _ _ _:=fun ex=>v7 Ui.F (Y ex) TV.m TV.b Gtx
  have O:∀ ex:List Addr,Own l.prog w K mg base ⟨cJ,cA,cH,ex⟩ cQ SS SU S9 _ _ _:=fun ex=>⟨Uh.m,Uh.b,Gol ex,Ui.m,Ui.b,Got ex,TL.m,TL.b,Gpu⟩
  have Gly:∀ ex:List Addr,zg l.prog w K mg base aD 1 SR _ _ _:=fun ex=>yw Ug.F (Y ex)
  have Glg:zg l.prog w K mg base aD 1 Xm _ _ _:=tD Uk.F T (Y [])
  have Gen:∀ ex:List Addr,zg l.prog w K mg base aD 5 SQ _ _ _:=fun ex=>tI MX.F (Y ex) (O ex)
  have Ggi:∀ ex:List Addr,zg l.prog w K mg base aD 6 SO _ _ _:=fun ex=>vM Ue.F (Y ex) (O ex) MX.m MX.b (Gen ex)
  have Gon:zg l.prog w K mg base aD 4 Nw _ _ _:=yn Ov.F L Wn Gb ME Ge
  have Gmi:∀ ex:List Addr,zg l.prog w K mg base aD 4 SH _ _ (nU K ⟨cN,cT,cR,cL⟩ cD (zE l.prog w ⟨cB,cD,cE⟩) ⟨cJ,cA,cH,ex⟩):=fun ex=>vB TY.F (Y ex) Wn Gb HZ.m HZ.b Um
  have Xt:∀ ex:List Addr,zg l.prog w K mg base aD 5 Xi _ _ (gJ K ⟨cN,cT,cR,cL⟩ cD (zE l.prog w ⟨cB,cD,cE⟩) ⟨cJ,cA,cH,ex⟩):=fun ex=>qO MW.F (Y ex) Wn Ia.m Ia.b Uo Ov.m Ov.k Ov.b Gon
  have Gmo:∀ ex:List Addr,zg l.prog w K mg base aD 6 SI _ _ (nT K ⟨cN,cT,cR,cL⟩ cD (zE l.prog w ⟨cB,cD,cE⟩) ⟨cJ,cA,cH,ex⟩):=fun ex=>vA TZ.F (Y ex) Wn Ia.m Ia.b Uo MW.m MW.b (Xt ex) HZ.m HZ.b Um
  have Gml:∀ ex:List Addr,zg l.prog w K mg base aD 2 SJ _ _ _:=fun ex=>t7 Ua.F (Y ex) L Wn Ia.m Ia.b Uo ME Ge
  have Gmb:∀ ex:List Addr,zg l.prog w K mg base aD 1 SK _ _ (jq K ⟨cN,cT,cR,cL⟩ cD (zE l.prog w ⟨cB,cD,cE⟩) ⟨cJ,cA,cH,ex⟩):=fun ex=>qQ Ub.F (Y ex)
  have MM:∀ ex:List Addr,QA l.prog w K mg base ⟨cN,cT,cR,cL⟩ cD (zE l.prog w ⟨cB,cD,cE⟩) ⟨cJ,cA,cH,ex⟩ SH SI SJ SK _ _ _ _:=fun ex=>⟨TY.m,TY.b,Gmi ex,TZ.m,TZ.b,Gmo ex,Ua.m,Ua.b,Gml ex,Ub.m,Ub.b,Gmb ex⟩
  have Xu:∀ ex:List Addr,zg l.prog w K mg base aD 7 SG _ _ (gK K ⟨cN,cT,cR,cL⟩ cD (zE l.prog w ⟨cB,cD,cE⟩) ⟨cJ,cA,cH,ex⟩):=fun ex=>t8 MV.F T (Y ex) Wn (MM ex)
  have Gim:zg l.prog w K mg base aD 2 WX _ _ _:=vJ Oy.F T ZS H6.m H6.k H6.b GW
  have Glk:∀ ex:List Addr,zg l.prog w K mg base aD 7 SM _ _ _:=fun ex=>vG Uc.F T (Y ex) Wn (MM ex) Oy.m Oy.k Oy.b Gim H7.m H7.k H7.b Ul
  have DM:∀ ex:List Addr,V6 l.prog w K mg base ⟨cN,cT,cR,cL⟩ cD (zE l.prog w ⟨cB,cD,cE⟩) ⟨cJ,cA,cH,ex⟩ cQ SM SO SQ SA SD SR _ _ _ _ _ _:=fun ex=>⟨Uc.m,Uc.b,Glk ex,Ue.m,Ue.b,Ggi ex,MX.m,MX.b,Gen ex,TM.m,TM.b,Gpl,TN.m,TN.b,Gbr,Ug.m,Ug.b,Gly ex⟩
  have Gdo:∀ ex:List Addr,zg l.prog w K mg base (e7 l.prog w) 8 SN _ _ (uR K ⟨cN,cT,cR,cL⟩ cD (zE l.prog w ⟨cB,cD,cE⟩) ⟨cJ,cA,cH,ex⟩):=fun ex=>L0 Ud.F (Y ex) L Wn XM (O ex) (DM ex) ME Ge
  have Xv:zg l.prog w K mg base aD 1 SV _ _ _:=tJ MY.F T (Y [])
  have Fg:zg l.prog w K mg base aD 2 Xj _ _ _:=tG Ff.F (Y []) TQ.m TQ.b Glt
  have Ie:∀ ex:List Addr,zg l.prog w K mg base aD 1 Xk _ _ _:=fun ex=>vH Ib.F (Y ex)
  have Gwt:zg l.prog w K mg base aD 1 Xl _ _ _:=vt Uj.F T (Y [])
  have Xw:∀ ex:List Addr,zg l.prog w K mg base aD 1 Xn _ _ _:=fun ex=>qP MZ.F T (Y ex)
  have Gmm:∀ ex:List Addr,zg l.prog w K mg base aD 2 f2 _ _ (kZ K ⟨cN,cT,cR,cL⟩ cD (zE l.prog w ⟨cB,cD,cE⟩) ⟨cJ,cA,cH,ex⟩):=fun ex=>vC H2.F T L (Y ex) Wn MZ.m MZ.b (Xw ex) Ib.m Ib.b (Ie ex)
  have Az:zg l.prog w K mg base aD 8 Sl _ _ _:=tu Oz.F (Y []) Wn MV.m MV.b (Xu []) MY.m MY.b Xv
  have Na:zg l.prog w K mg base aD 6 Sm _ _ _:=sZ HX.F T (Y []) L Wn Ff.m Ff.b Fg MW.m MW.b (Xt [])
  have Gc:zg l.prog w K mg base aD 1 Sn _ _ _:=vQ HY.F T
  have Gmx:zg l.prog w K mg base aD 1 WY _ _ _:=vD O0.F
  have Up:zg l.prog w K mg base aD 2 Sr _ _ _:=tK Ey.F T O0.m O0.k O0.b Gmx
  have Gln:zg l.prog w K mg base aD 3 Ss _ _ _:=tF O1.F T Ey.m Ey.k Ey.b Up HY.m HY.k HY.b Gc
  have Gtb:zg l.prog w K mg base aD 7 Su _ _ _:=vE O2.F T Ey.m Ey.k Ey.b Up (mg_of X G gcL) Mi O7.b Gi (mg_of X G gcD) Mt O8.b Gt
  have Glp:zg l.prog w K mg base aD 5 Sv _ _ _:=tE O3.F (Y []) Wn Gb ⟨a50,i50,k50⟩ bp0 Gp
  have Gfi:zg l.prog w K mg base aD 3 WZ _ _ _:=vO O4.F T L (Y []) Wn Ff.m Ff.b Fg
  have Gas:zg l.prog w K mg base aD 4 Xa _ _ _:=vx O5.F T L (Y []) Wn Gb Ff.m Ff.b Fg Ib.m Ib.b (Ie []) Uk.m Uk.b Glg MZ.m MZ.b (Xw []) Uj.m Uj.b Gwt
  have Gcl:zg l.prog w K mg base aD 7 Sy _ _ _:=vP O6.F T L (Y []) Wn Ff.m Ff.b Fg Ib.m Ib.b (Ie []) ME Ge O4.m O4.k O4.b Gfi HX.m HX.k HX.b Na O5.m O5.k O5.b Gas
  exact⟨HY.m,HY.k,HY.b,Gc,Ey.m,Ey.k,Ey.b,Up,O1.m,O1.k,O1.b,Gln,O2.m,O2.k,O2.b,Gtb,(mg_of X G gcJ),My,Sd,Gy,O3.m,O3.k,O3.b,Glp,Ud.m,Ud.b,Gdo,H2.m,H2.k,H2.b,Gmm,MV.m,MV.b,Xu,MY.m,MY.b,Xv,Oz.m,Oz.k,Oz.b,Az,HX.m,HX.k,HX.b,Na,O6.m,O6.k,O6.b,Gcl⟩
 have D:=Ic base
 refine yy (c:=⟨cN,cT,cR,cL⟩) (ts:=⟨cB,cD,cE⟩) (ys:=⟨cJ,cA,cH,[]⟩) (nr:=cM) F27 T (Y []) Wn D (mg_of X G a23) k23 (Xp.binds fun _ _ _ _ _ _=>len_of2 fun _ _=>rfl) (vF Xp CV NS T (Y []) Wn D.md D.kd D.bd D.Gd D.mo D.ko D.bo D.Go H1.m H1.k H1.b fun zy pk la dp S Ok hp bp Gp ex=>yj H1.F T (Y ex) Wn (Ic zy).mm (Ic zy).bm (Ic zy).Gm (Ic zy).mr (Ic zy).br (Ic zy).Gr hp bp Gp)
end
theorem walk {l:PySem.W.OpenLaw}{q:Program}{loose:List Str}{XP:(Str->Option Value)->Heap->Prop}{YP:World->Heap->Prop}{d:DefRec}{K:Params->Frag}(hn:l.most=some 63)(JD:d.params.defaults=[])
  (hY:∀ (w:World)(h:Heap),YP w h->(K w.params).In h) {dd:DefRec} (DL:(PyProof.Rows.recsOf q).find? (fun e=>e.name == ("_law_run":Str))=some dd) (F3:∀ p,PySem.W.noTabs (K p)=true)
  (F:∀ (w:World)(mg:Str->Option Value)(fa:Addr)(h:Heap),(K w.params).In h->h.Ns mainGlobals mg->mg d.name=some (.ref fa) ->
   ∃ (fd:FuncData)(c Tb:Addr),PySem.W.tabIn (K w.params) "_law_run" = some (c,Tb)/\(∀ (s:Shared)(u:Value),BindsTo s fd ⟨[u],[]⟩ [("_law_script",u)])/\∀ base:Heap,(K w.params).In base->base.Ns mainGlobals mg->Ek mg base c Tb->zg l.prog w (K w.params) mg base aD 11 fa fd ["_law_script"] (pB (K w.params) Tb)) :
  PySem.W.WalkO q loose XP YP l.row.toRowW d [] (fun f vs=>PySem.call f vs) :=
 L2.DN (n:=63) (k:=11) (x := "_law_script") (CX:=fun _=>aD) (sp:=fun w Tb=>pB (K w.params) Tb) hn (by decide) JD ⟨rfl,by decide,by decide⟩ hY DL F3 F (fun _ _ a ns Tb hl hT hS=>⟨a,ns,rfl,hS,hl,hT,fun _=>rfl⟩) fun _ _ _ _ _ z=>z
end K67
structure PySem.W.Fast:Prop where
 (tw9939919324867880417 tw6726572230452880433 tw14432939201912504242 tw1315890817305507847 tw4494614221850153531 tw16928125434174109698 tw5861200801008375215 tw9929398825369075067 tw7341567395030558614 tw9851434593791852483 tw7740350105216884156 tw16385731511741954599 tw8659418377687916811 tw14264555767926342015 tw10651526791425474408 tw2752548784950983695 tw17554127037942093059 tw9088373831565346616 tw4989680140866747553 tw9167989595804246859 tw1689006943577644281 tw7308297200778550799 tw4839484642186144503 tw12229591575558005587 tw11263009119851320754 tw9465550462598258556 tw17133828722301275692 tw6002783988740734732 tw9456532814138508101 tw13838818127328429225 tw17267675865468066116 tw14760916184006329035 tw1587696393228627876 tw14499591826316122110 tw677268125818168577 tw8790251891233637907 tw2991622311667980374 tw17805890531232567502 tw9286125189998495240 tw15936722950536764838 tw13241025160063182794 tw6097807959213120982 tw15309756527650039910 tw16512237122643287210 tw10438613253843948408 tw5174329040653733154 tw11996560986465988364 tw713644731447578041 tw3638472934967748941 tw12262226630807107072 tw16542563407726458849 tw12032662290801187880 tw1937860973423268672 tw4853506292587565861 tw1799746031429455049 tw12231292653179521016 tw5150057483794188397 tw2488681697718729800 tw2333041469651972544 tw8904065867269783480 tw14091958700388534872 tw7790039230785304449 tw16267944138081899250 tw4754517982943436391 tw13510459902220370920 tw8867215512787479636 tw12230256983836012399 tw411006774557947550 tw15983486497938657496 tw13634694723901436152 tw6355644621854132971 tw1848835125327834829 tw15114698355360006525 tw8665564681098090464 tw10487610006014748572 tw6689592751618656311 tw493922806756833830 tw11551838833773705026 tw9591103564421060093 tw16308576043224424247 tw12263819959626311069 tw12927512199604650902 tw9203706290169971241 tw10718041569720407036 tw4443466089733724734 tw1660617686803148753 tw2616718206068135622 tw4689415555551074382 tw12316827379465564943 tw10282241901022775854 tw4594697569400618311 tw15468543622169050460 tw183906138618843577 tw5260308724327010638 tw8292378781893591890 tw16330862867405293239 tw13369513905235473260 tw2883521526809521239 tw14174969564800405201 tw2247579633224039315 tw7444484695066165672 tw15196742323187273896 tw16283746252476913116 tw824663484798514762 tw14830194969634764944 tw17318489124956221826 tw8017449025920976810 tw1582906853000110690 tw2359087413637956665 tw12069238433649720995 tw12565673730213758920 tw14682579168420282407 tw10889693670729838529 tw6637378099502130907 tw43813415584075057 tw11691580607059536024 tw17504200147234942131 tw18000826321438802886 tw11205400712750109246 tw17089097976927094979 tw7005470802014117552 tw17273499760726310439 tw3605295919804644080 tw1333252585490262521 tw8939930805629966584 tw15255581110448126493 tw14841507147969180033 tw9748039733024291251 tw6807948284584040968 tw6389305471221825798 tw16578650084297290431 tw2692496614226393138 tw3495705652896846763 tw9488910928134408807 tw10522760461088737099 tw10226123903611081655 tw12018466683799873892 tw16158700497251085901 tw9474943289108661350 tw1545671376568717760 tw6675651623331071914 tw2563153987795145561 tw17014021307498424475 tw17158569094958922670 tw2875988663861717019 tw3067288979351140857 tw16510775279288496289 tw17896469633766887462 tw10099126751833142903 tw2314753840013131311 tw4297129677798630221 tw3972013792126197166 tw1057075618328276825 tw9474156738060455331 tw8169239551216206757 tw1731154917607530891 tw16380062980401576318 tw4229942487529255073 tw15423082544173831774 tw6568630806252998239 tw14287046896358481574 tw15510544405932339176 tw2330327943327877036 tw10710852708646966566 tw18419769478872666779 tw4195049910895163201 tw9992772715638796208 tw4553482245972935808 tw2633119896520891975 tw14515842241092728502 tw8115262680767383735 tw610478227666649660 tw8349680843529208923 tw1863518997401432526 tw12369219224739091135 tw1825146426989184823 tw5838195215220779070 tw4223522328378273114 tw5565505295533812488 tw9647249791992215087 tw16530129085447445242 tw4163107061736164109 tw2205965444301910154 tw9867579584190820961 tw7390628187014148160 tw15850372786148036124 tw15983962577492072688 tw6315981409646656411 tw12694217613574195058 tw4121967048316934458 tw4256236743789513676 tw1544042379051763532 tw13219556222161258786 tw12011270128190490853 tw5566037132931996807 tw7260880128295919897 tw8307747626819278648 tw12345904798469936137 tw5800813220540994506 tw18433304557148082298 tw3112233418293231266 tw11354916459134620072 tw3936183731223152530 tw4377995900509543221 tw9081000229027565179 tw946546330634868358 tw10755359955235341881 tw11654182191036219448 tw2883794714334014098 tw18321237014951168507 tw4818882708937449462 tw12878077190645484370 tw7879677116866356632 tw12602559629073187518 tw6702707171140749246 tw3326105071510944687 tw236052075634430148 tw5782361666327192393 tw10890006230557913270 tw15974842714146333558 tw13876582429651620097 tw5723553245755208748 tw11319748844799149382 tw6475972955779950931 tw16776119740073330019 tw14166987567261057231 tw4223593632004192937 tw7064359377764956861 tw15628843439328948875 tw7272918618330262174 tw123167643531529256 tw5526810768324895951 tw153170867431623589 tw744453217877611180 tw6257466448388282926 tw14389608208178931764 tw15979851768870793634 tw12228130323668556245 tw7863978304337930362 tw5829596448427274168 tw988336158077193375 tw9185369427368567304 tw1065924564370429377 tw8236990296159893624 tw8297387769177509629 tw6827534964562937536 tw13474448540368392172 tw5507952257747564514 tw16920081651163805611 tw13849842817562989441 tw11981147004607646502 tw13544395175107464455 tw6317530082441848805 tw7281209921316416166 tw15648286158714414858 tw8773888176609021228 tw3924278821606143866 tw3077176961447231632 tw9179195652658093456 tw13106916108011091463 tw5243133405076710726 tw3967109184276941385 tw8610135699180763788 tw11257882471519674454 tw10787926949975465564 tw16109886810957432799 tw11563426818368671322 tw9677399158356748240 tw8316585165971475285 tw7728713130351931514 tw14259508033123283084 tw12294583107201153379 tw1214969531359206305 tw11584621303245057785 tw12192173384957905752 tw12938819641206850454 tw17832036153100958589 tw7809810407820646004 tw17031605252053649247 tw5686637983167986351 tw12066632736914301901 tw4401614792564427514 tw12894268896456619984 tw3178494574966452126 tw8461737380383606045 tw9376801031718735950 tw995952294517371340 tw11326523149471433794 tw2590656289528807524 tw178314920978868159 tw16635149352185011367 tw3484606410725065779 tw17176996751869895941 tw17701718784258844348 tw8844877358367573542 tw4903683758661856156 tw16605831827339536781 tw13273360821200068321 tw2361728949031555984 tw16722687617950738056 tw350673012771313678 tw4925220479479267167 tw7595950956120499972 tw7120368580336528145 tw6062574835409850985 tw1534248366168847724 tw16419216925527487994 tw13936543533299270235 tw11806724381373970087 tw11201092171763579289 tw1762531856564929995 tw16389104796004837712 tw1514667222386458308 tw10013236077271929225 tw17438236078378681491 tw3859983574505883242 tw4129680483526241791 tw8428238299884124979 tw7296283879690374780 tw2625588405478910212 tw17489604937042083141 tw4202826419585009306 tw13123147620499541858 tw7211512029982269468 tw573397465881459666 tw3734118417886852368 tw7830142146458727210 tw12434776468857364505 tw17489323683918894810 tw2641082648597799523 tw2322069883978585724 tw7172014877438416296 tw707439213894284004 tw9457077385441930650 tw17303622664466857666 tw3566696842417309636 tw16153891894037642347 tw10727936354916151101 tw17990209627689344415 tw15630654658408634441 tw7624095404642104484 tw6770529343881001870 tw4427643520819662891 tw11571930080121668380 tw7995820766209699657 tw5387751890079459923 tw17662085805280415236 tw16119787676320978516 tw14553187992596808682 tw10750789775390873732 tw7389412259197455883 tw7999613953989659293 tw16284253339199784489 tw10721699191787628043 tw475445955773918354 tw2529607106693610274 tw17325659366818638701 tw8540956967588631676 tw11597601126183390818 tw2195289610575396183 tw15993949032565189650 tw7043481480464033554 tw7336156771462441048 tw9830291736950930342 tw5778707645090583019 tw5195114216372390349 tw323773956932743143 tw7801221118671540814 tw5370930628827273153 tw4839112168933196877 tw10709084282296374973 tw8124501117033711148 tw10596078436703365065 tw657258749305307053 tw4335493394136549141 tw11222609440033883832 tw13391430087796243095 tw5319383680786319356 tw9164793205050931621 tw12139884122130910539 tw7144074003712029469 tw11031902321257070499 tw254415126958318893 tw11518020283899879336 tw6703045312333945961 tw2771949510502309269 tw11504890893051851014 tw14685558784261972257 tw15374303078439352998 tw11624288013638505655 tw4331480026855262788 tw6492447035988514395 tw1015567657710235315 tw10573720465938829686 tw4160669536103090376 tw9454293380907038276 tw14571968520272512711 tw963001742034452468 tw8250820051227927651 tw8073559401106631277 tw5486999870535641162 tw2274563888693947207 tw10779251095501130164 tw10495734501717676714 tw8597021356928981979 tw4853809997341465364 tw11587623224728962546 tw3185637267400605878 tw9680817765333238571 tw3360538070395929063 tw508426398319422722 tw4746837351904211406 tw17019104657899104099 tw6127630835807932795 tw5715744753372739097 tw10211879770465846725 tw15107067788157957217 tw949019091289512541 tw6466677018162225577 tw534191968183347334 tw17839475359540394341 tw11346254404240701065 tw10831499126926667201 tw15098788286655954482 tw1161981696264327336 tw8324437855723858543 tw13796513826749798923 tw13741620026269532472 tw16269717404295825606 tw8857200681227352019 tw14435596875186664890 tw13540929596821415417 tw16096925338057073425 tw8450002193669415988 tw14774397941411142179 tw18431561588687186636 tw8595750823485911892 tw9275516949956514340 tw5950897789915709776 tw14151412433003221736 tw17503156015147809095 tw11539660035002858076 tw404208937648293764 tw6388245895113172021 tw5132741576513491153 tw15039287146253711260 tw13827682701993474375 tw12538650035882357721 tw11461581571184613415 tw3201894655013198709 tw17876433827038714496 tw1134809776668764246 tw1635778695193400479 tw3927122189707949911 tw17897460201046994459 tw15241704951080472562 tw6328143040408327278 tw4649058902536867564 tw2381865815238515730 tw17478053922854109701 tw16118633560922224722 tw10682608921473503284 tw14117251255986584696 tw12024518021507901561 tw10814036468532556378 tw16672103296330669103 tw16807755031013730152 tw977066955084155884 tw8059893085230988759 tw68561083314978782 tw18152091751094440043 tw1604289473993252633 tw13776945337119955801 tw13570672291939321734 tw13117716960895227973 tw12622061084861289265 tw11193811928654934598 tw6393144048308657485 tw410148656603040796 tw303670722168523257 tw13208425380499530371 tw2924436001467164301 tw14544653513285774957 tw14658073581776291445 tw3218169375189960695 tw13041152777043196521 tw1082632457367681446 tw3908808498942833211 tw13731179135957765938 tw11288234926588501808 tw9732962163724415286 tw704126449276308855 tw5320086323885711930 tw5177085428860107176 tw4744108978353187855 tw11742222718133983722 tw22272353976589055 tw9593981434329351513 tw5786073237538876605 tw4042066652420317297 tw17212398494279436873 tw16999710587155332117 tw16696821937334140175 tw14034668028599821092 tw4973619217896351913 tw11291434565839734843 tw8124117067765428337 tw9209815863812812125 tw12562450360261809998 tw3673684430929148504 tw8962170977846287583 tw7337596217955517719 tw4747391054313605498 tw4489757744800040899 tw4134252126048490414 tw1732945598298886544 tw15979962880047077813 tw14543009800427801473 tw14481390856965680132 tw11629869718528858634 tw10312062733005788163 tw12029901100210124630 tw9700063017257196647 tw1775383229532331445 tw9208300708032487867 tw9206182049578274008 tw9079242978400835259 tw8982345373694892844 tw7955237047540989308 tw7171557087646050441 tw5562285694241710417 tw3580724168401108019 tw3532348374661415558 tw3304001055636312510 tw18301489475961866164 tw18146908008992821886 tw16936844614342804466 tw16728100689511168045 tw15910630438306180335 tw137048234928231716 tw12615606771566145636 tw11858266990672663453 tw10600395294605350174 tw6649192234498720399 tw5275466049828252024 tw4605920535621027858 tw4493381288881048754 tw4355332435525530821 tw3164801084714814767 tw3057744886338927531 tw204802176930125881 tw2032753516756585889 tw1862157971141300569 tw15737182330411772158 tw15322040885589345369 tw15291653993526970808 tw14030419685772457049 tw13723799186378613921 tw13664930843427917157 tw13564700469406269944 tw12538116995436108292 tw6472474803021076845 tw14284474889306378977 tw10765176115227405503 tw8787851737590509780 tw6719077043490605708 tw6692065078344346584 tw6512849945436001096 tw5868873792232703431 tw3488222338576859654 tw18196943633943550662 tw17149088233266697973 tw16786830739870817192 tw14383857674467597177 tw1259822393648958627 tw11060051100815536731 tw9737392827458665702 tw9381573500430187695 tw8592692096374167260 tw6460775584413204739 tw5201491289963697419 tw4336615741205312776 tw3837603214900178047 tw2355799745366108626 tw225090721943264853 tw1936513013716969940 tw17839643486189651659 tw17420763394928965028 tw1660168594461350915 tw13542474864691505267 tw13341366979032241061 tw12490702659691508953 tw1199501699392869840 tw10682794303948593568 tw16599739873630432741 tw11652836229033905971 tw9983926822293406967 tw9944371567206334853 tw978880356634742277 tw9773607005597305 tw96486059887039915 tw9465874138181361261 tw9444627665839438025 tw9360577939562909318 tw9178488249538761416 tw9175544472479683502 tw9089652950338278449 tw8824268995579859738 tw88014520598080350 tw8719321924202029089 tw8685016659243687867 tw8638436506980473300 tw8566479449198921643 tw8550690229129037575 tw847346111596171997 tw8386782581257634226 tw8247325143498475342 tw82274233753852499 tw7944219268044196059 tw7893638442231270779 tw7854962617747117416 tw7719068200606020225 tw7380934328208710111 tw7258910708423251263 tw6986943409123370172 tw6662211108558372824 tw6607235544906118021 tw6588552711471152014 tw6272134106551500325 tw6253690641918818816 tw6245892262691346447 tw6043493037112173827 tw6035563853400754650 tw5997622230262949994 tw5940602803573794581 tw5802573258519920781 tw5792623582866493893 tw5565956587528831243 tw5534628546559488622 tw546565301890314781 tw5297637559842497705 tw5228659288054174998 tw521058059983672325 tw5173692865746600576 tw5134134511287425199 tw5013466016891380970 tw4977660367491175903 tw4955824738175400654 tw4935140174508203908 tw48277783095920350 tw4611042354291462479 tw4435650597223326300 tw4322671083741728943 tw4305634258914785264 tw4244690759811457140 tw4218384024587364138 tw4199207383131921248 tw4141026907897045158 tw3810952069626114856 tw3620292323987097756 tw3614934046808501587 tw3555159085335367239 tw3537243782487774702 tw3220258378878543388 tw3156496099271660210 tw3113996679741427819 tw3100353029195571983 tw3072418151809372114 tw3063975828938470063 tw3004182292965058505 tw2982737797066567476 tw2929007877050677433 tw287201204135005697 tw280004152932239304 tw2643130837595229889 tw2511817217837868333 tw2422696087495940528 tw23515373777134919 tw2310555449289992774 tw222561916206940804 tw2221244560372527424 tw2137139121881761210 tw1973168812519035216 tw1954071387950142003 tw1910110938545583902 tw1845265047047875093 tw18400063777311471402 tw18307296295976130217 tw18067132493825222199 tw18016415668378014998 tw1800239396329742378 tw17938748811876204699 tw17935434231274689944 tw17621542287326542333 tw17539966732201770915 tw17495607287756970557 tw1743380586343938111 tw17340509925594102227 tw16998734732579987445 tw16604877014272843341 tw16380455383191477290 tw16304984496709588326 tw16149563353005743708 tw16130984696895595910 tw16088936435007977309 tw15962815529992766973 tw15787422843715606183 tw1565701970041847815 tw15654401732329863140 tw15599780204176673818 tw15481670760599178837 tw15413068955646712763 tw1539305030442850582 tw15356974593741756986 tw15324351662039594552 tw15311248034644919846 tw15128013924090047201 tw15124901709502508192 tw15089892123761912226 tw15047387320207803899 tw1500589378075221143 tw14852525541870241588 tw1475545464678218521 tw14654553253596229536 tw14654511595934317137 tw14409943138076337711 tw14385129835897296917 tw14332787568067292302 tw14135957906312154258 tw1411614208328495762 tw14054256504581798143 tw14026323988217559421 tw14016333452032665694 tw13942827801575669751 tw13941876738852441546 tw13931749829974181065 tw13799594717060449393 tw13794573724456845499 tw13778199646989543113 tw13674276891354189844 tw13512308557721476583 tw13461523623095798916 tw1336170423028011856 tw13258297508301463723 tw13186941495565503414 tw12922673988907118413 tw12907464432220799515 tw12892324866484362400 tw12848675526771552963 tw12800316357605160372 tw1261952323058392057 tw12600059702510928752 tw12567642669516254012 tw12494023048165447707 tw12376290204271986481 tw12312617514894352939 tw12288136587206019072 tw1192160471832580372 tw116644630725906363 tw11662919084623056072 tw11486843684731205606 tw1135611415272486264 tw11286090746276610101 tw11240712826015324487 tw112086021820732893 tw11143740161500034516 tw11071334186147492923 tw1091318337225209054 tw10858929838154828642 tw10809757879210324626 tw10750095556286178982 tw10727076445058075655 tw10626574902912174742 tw10524897016420620152 tw10439366707887491131 tw10421763293622404634 tw10399609429399161661 tw10364103627980386872 tw10298609945642332136 tw10148084609046641590 tw10028907769091204502:True)
open PySem PySem.W PyProof.Rows
set_option maxRecDepth 100000 in
set_option maxHeartbeats 0 in
theorem PySem.Challenge.cw_wormyard_k67_whole_still_stands_holds : PySem.Challenge.rw_wormyard_k67_whole_still_stands.Holds := by
 w_on;o_law;k_head; (case hw=>w_witness2)
 k_fill
 refine K67.walk (l:=PySem.Challenge.rw_wormyard_k67_whole_still_stands) rfl rfl (fun w h Y=>PySem.W.km_in_of Y) rfl (fun _=>by kernel_rfl) ?F
 case F =>
  intro w mg fa h KX G hmg
  refine' K67.all_mk KX G hmg ?Aa ?Ab ?Ac ?Ad ?Ae ?Af ?Ag ?Ah ?Ai ?Aj ?Ak ?Al ?Am ?An ?Ao ?Ap ?Aq ?Ar ?As ?At ?Au ?Av ?Aw ?Ax ?Ay ?Az ?Ba ?Bb ?Bc ?Bd ?Be ?Bf ?Bg ?Bh ?Bi ?Bj ?Bk ?Bl ?Bm ?Bn ?Bo ?Bp ?Bq ?Br ?Bs ?Bt ?Bu ?Bv ?Bw ?Bx ?By ?Bz ?Ca ?Cb ?Cc ?Cd ?Ce ?Cf ?Cg ?Ch ?Ci ?Cj ?Ck ?Cl ?Cm ?Cn ?Co ?Cp ?Cq ?Cr ?Cs ?Ct ?Cu ?Cv ?Cw ?Cx ?Cy ?Cz ?Da ?Db ?Dc ?Dd ?De ?Df ?Dg ?Dh ?Di ?Dj ?Dk ?Dl ?Dm ?Dn ?Do ?Dp ?Dq ?Dr ?Ds ?Dt ?Du ?Dv ?Dw ?Dx ?Dy ?Dz ?Ea ?Eb ?Ec ?Ed ?Ee ?Ef ?Eg ?Eh ?Ei ?Ej ?Ek ?El ?Em ?En ?Eo ?Ep ?Eq ?Er ?Es ?Et ?Eu ?Ev ?Ew ?Ex ?Ey ?Ez ?Fa ?Fb ?Fc ?Fd ?Fe ?Ff ?Fg ?Fh ?Fi ?Fj ?Fk ?Fl ?Fm ?Fn ?Fo ?Fp ?Fq ?Fr ?Fs ?Ft ?Fu ?Fv ?Fw ?Fx ?Fy ?Fz ?Ga ?Gb ?Gc ?Gd ?Ge ?Gf ?Gg ?Gh ?Gi ?Gj ?Gk ?Gl ?Gm ?Gn ?Go ?Gp ?Gq ?Gr ?Gs ?Gt ?Gu ?Gv ?Gw ?Gx ?Gy ?Gz ?Ha ?Hb ?Hc ?Hd ?He ?Hf ?Hg ?Hh ?Hi ?Hj ?Hk ?Hl ?Hm ?Hn ?Ho ?Hp ?Hq ?Hr ?Hs ?Ht ?Hu ?Hv ?Hw ?Hx ?Hy ?Hz ?Ia ?Ib ?Ic ?Id ?Ie ?If ?Ig ?Ih ?Ii ?Ij ?Ik ?Il ?Im ?In ?Io ?Ip ?Iq ?Ir ?Is ?It ?Iu ?Iv ?Iw ?Ix ?Iy ?Iz ?Ja ?Jb ?Jc ?Jd ?Je
  case Aa|Ab|Ac|Ad|Ae|Af|Ag|Ah|Ai|Aj|Ak|Al|Am|An|Ao|Ap|Aq=>k_is
  case Ar|As|At|Au|Av|Aw|Ax|Ay|Az|Ba|Bb|Bc|Bd|Be|Bf|Bg|Bh|Bi|Bj|Bk|Bl|Bm|Bn|Bo|Bp|Bq|Br|Bs|Bt|Bu|Bv|Bw|Bx|By|Bz|Ca|Cb|Cc|Cd|Ce|Cf|Cg|Ch|Ci|Cj|Ck|Cl|Cm|Cn|Co|Cp|Cq|Cr|Cs|Ct|Cu|Cv|Cw|Cx|Cy|Cz|Da|Db|Dc|Dd|De|Df|Dg|Dh|Di|Dj|Dk|Dl|Dm|Dn|Do|Dp|Dq|Dr|Ds|Dt|Du|Dv|Dw|Dx=>first |(refine' K67.mkT (by assumption) (by assumption) ?b ?a ?l ?c ?k;(case b=>first|exact fun _ _ _ _ _ _=>K67.len_of1 (fun _=>rfl)|exact fun _ _ _ _ _ _=>K67.len_of2 (fun _ _=>rfl)|exact fun _ _ _ _ _ _=>K67.len_of3 (fun _ _ _=>rfl)|exact fun _ _ _ _ _ _=>K67.len_of4 (fun _ _ _ _=>rfl)|exact fun _ _ _ _ _ _=>K67.len_of5 (fun _ _ _ _ _=>rfl));(case a=>k_is);(case l=>k_is);(case c=>k_is);(case k=>k_is))|(refine' K67.mkM ?b ?a ?l ?c ?k ?i;(case b=>first|exact fun _ _ _ _ _ _=>K67.len_of1 (fun _=>rfl)|exact fun _ _ _ _ _ _=>K67.len_of2 (fun _ _=>rfl)|exact fun _ _ _ _ _ _=>K67.len_of3 (fun _ _ _=>rfl)|exact fun _ _ _ _ _ _=>K67.len_of4 (fun _ _ _ _=>rfl)|exact fun _ _ _ _ _ _=>K67.len_of5 (fun _ _ _ _ _=>rfl));(case a=>k_is);(case l=>k_is);(case c=>k_is);(case k=>k_is);(case i=>k_is))|k_is
  case Dy|Dz|Ea|Eb|Ec|Ed|Ee|Ef|Eg|Eh|Ei|Ej|Ek|El|Em|En|Eo|Ep|Eq|Er|Es|Et|Eu|Ev|Ew|Ex|Ey|Ez|Fa|Fb|Fc|Fd|Fe|Ff|Fg|Fh|Fi|Fj|Fk|Fl|Fm|Fn|Fo|Fp|Fq|Fr|Fs|Ft|Fu|Fv|Fw|Fx|Fy|Fz|Ga|Gb|Gc|Gd|Ge|Gf|Gg|Gh=>k_is
  case Gi=>kernel_rfl
  case Gj=>k_is
  case Gk=>kernel_rfl
  case Gl=>k_is
  case Gm=>kernel_rfl
  case Gn|Go|Gp|Gq|Gr=>k_is
  case Gs=>kernel_rfl
  case Gt=>k_is
  case Gu=>kernel_rfl
  case Gv|Gw|Gx|Gy|Gz=>k_is
  case Ha=>kernel_rfl
  case Hb=>k_is
  case Hc=>kernel_rfl
  case Hd|He|Hf|Hg|Hh=>k_is
  case Hi=>kernel_rfl
  case Hj=>k_is
  case Hk=>kernel_rfl
  case Hl=>k_is
  case Hm=>kernel_rfl
  case Hn=>k_is
  case Ho=>kernel_rfl
  case Hp=>k_is
  case Hq=>kernel_rfl
  case Hr=>k_is
  case Hs=>kernel_rfl
  case Ht|Hu|Hv|Hw|Hx|Hy=>k_is
  case Hz=>kernel_rfl
  case Ia=>k_is
  case Ib=>kernel_rfl
  case Ic=>k_is
  case Id|Ie|If=>first | k_is | kernel_rfl
  case Ig|Ih|Ii|Ij|Ik|Il|Im|In|Io=>kit_is
  case Ip=>kts_exm
  case Iq|Ir|Is|It|Iu|Iv|Iw|Ix|Iy|Iz|Ja|Jb=>k_is
  case Jc=>exact rfl
  case Jd=>k_is
  case Je=>exact rfl
