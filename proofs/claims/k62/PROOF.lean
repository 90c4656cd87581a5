import PyProof.Rows.All
import Wide.All
import OpenK.AllK
import Wide.FinOn
import Lean
import PyProof.EqAt
import PyProof.EqKinds
import PyProof.TupleCall
import PyProof.ExcBaseAll.ValueError
import PyProof.EnumMake
import PyProof.Rows.EnumRows
import PyProof.TupleIter
import PyProof.DictValues
import PyProof.CollectStr
import PySem.Builtin.Int.W1All
import PyProof.DictRoadsH
import PyProof.DictKinds
import PyProof.FactsAll.NoneType
import KE.KRevIter
import PyProof.FactsAll.list_3
import KE.KDictList
import PyProof.DictIter
import PyProof.DictWalks
import PyProof.ListRange
import PyProof.Rows.SumAny
import PyProof.Rows.SeqCalls
import PyProof.P3In
import KE.KNest
import PySem.Challenge.RW_wormyard_k62_whole_every_run_ends
set_option compiler.extract_closed false
set_option Elab.async false
set_option linter.all false
set_option maxRecDepth 100000
set_option maxHeartbeats 4000000
theorem η0(h:1=1:=by rfl):1=1:=h
def η:=η0._auto_1
theorem θ0(h:1=1:=by decide):1=1:=h
def θ:=θ0._auto_1
theorem ζ0(h:1=1:=by first | exact .inl rfl | exact .inr rfl | assumption):1=1:=h
def ζ:=ζ0._auto_1
theorem ξ0(h:1=1:=by decide +kernel):1=1:=h
def ξ:=ξ0._auto_1
theorem ψ0(h:1=1:=by intro _;rfl):1=1:=h
def ψ:=ψ0._auto_1
open PySem.W (Frag keepIn findIn fnOf codeIn nsIn mg_of isFn kitOne hasDictIn mg_none_of plainGet plainOver makesIn)
open List (getElem?_eq_getElem getElem?_map getElem?_append_left find?_cons getElem?_set_ne getElem?_concat_length getElem?_append_right all_cons all_eq_true all_map any_cons any_eq_true append_assoc append_nil contains_cons eq_of_mem_replicate filterMap_cons filter_append filter_congr filter_cons_of_neg filter_cons_of_pos forall_mem_cons getD_eq_getElem?_getD getElem_mem getElem_of_mem length_append length_cons length_drop length_filter_le length_map length_nil length_range length_replicate length_set length_singleton length_take length_take_le lookup_cons map_append map_cons map_map map_nil map_take mem_append mem_append_left mem_append_right mem_cons mem_cons_of_mem mem_cons_self mem_filter mem_flatMap mem_map mem_map_of_mem mem_of_getElem? mem_of_head? mem_of_mem_take mem_range mem_reverse mem_singleton nodup_append nodup_cons nodup_nil not_mem_nil of_mem_zip pairwise_cons pairwise_iff_getElem pairwise_lt_range range_succ set_cons_succ set_cons_zero size_toArray sum_append sum_cons take_length take_of_length_le take_succ)
open Nat (add_zero le_of_eq le_of_lt le_succ le_trans lt_irrefl lt_of_le_of_lt lt_of_lt_of_le lt_or_ge lt_succ_self lt_trans min_eq_left min_eq_right ne_of_gt ne_of_lt not_lt_zero pow_le_pow_right sub_zero succ_pos testBit_lt_two_pow zero_le)
open Int (emod_lt_of_pos emod_nonneg toNat_natCast zero_add)
open PySem.F (args_tuple_add_2 entry_dict_get entry_tuple_add plainAttrs_list slot_dict_get slot_list_extend slot_tuple_add type_list_extend)
open PySem.Heap (lt_size size_push)
noncomputable section
abbrev L2.zQ0:PySem.Scope:={kind:=.function,names:=[],isGenerator:=false,isCoroutine:=false}
theorem L2.gQ0 {α:Type}{l:List α}{i:Nat}{a:α}(h:l[i]?=some a):i<l.length:=(List.getElem?_eq_some_iff.mp h).1
namespace L2
theorem FW {α:Type}{n:Nat}{l:List α}(h:l.length=n + 1):∃ a t,l=a :: t/\t.length=n:=by
 cases l with
 | nil=>cases h
 | cons a t=>exact⟨a,t,rfl,Nat.succ.inj h⟩
open PySem PySem.Spec PyProof.Rows
abbrev bX:=Sum Int Str
noncomputable def j2:bX->Value->Bool
 | .inl k,v=>Value.isInt k v
 | .inr x,v=>Value.isStrOf x v
noncomputable def Qb (w:World):bX->Int
 | .inl k=>hashInt k
 | .inr x=>hashStr w x
theorem bj:∀ {k:bX}{v:Value},j2 k v=true->(∃ i t,k=Sum.inl i/\v=Value.int i t)∨(∃ x t,k=Sum.inr x/\v=Value.str x t)
 | .inl i,v,h=>by
  obtain⟨t,e⟩:=Value.isInt_shape (k:=i) (v:=v) h
  exact .inl ⟨i,t,rfl,e⟩
 | .inr x,v,h=>by
  obtain⟨t,e⟩:=Value.isStrOf_shape (x:=x) (v:=v) h
  exact .inr ⟨x,t,rfl,e⟩
theorem re (i:Int)(t:Tok):j2 (.inl i) (.int i t)=true:=by simp[j2,Value.isInt]
theorem rc (x:Str)(t:Tok):j2 (.inr x) (.str x t)=true:=by simp[j2,Value.isStrOf]
theorem zg (a b:Int):decide ((Sum.inl a:bX)=Sum.inl b)=(a == b):=by
 by_cases e:a=b
 ·subst e;simp
 ·have h:¬ (Sum.inl a:bX)=Sum.inl b:=fun q=>e (Sum.inl.inj q)
  rw[decide_eq_false h]
  exact(beq_eq_false_iff_ne.mpr e).symm
theorem zc (a b:Str):decide ((Sum.inr a:bX)=Sum.inr b)=decide (a=b):=by
 by_cases e:a=b
 ·subst e;simp
 ·have h:¬ (Sum.inr a:bX)=Sum.inr b:=fun q=>e (Sum.inr.inj q)
  rw[decide_eq_false h,decide_eq_false e]
theorem zf (a:Int)(b:Str):decide ((Sum.inl a:bX)=Sum.inr b)=false:=decide_eq_false (fun q=>nomatch q)
theorem zd (a:Str)(b:Int):decide ((Sum.inr a:bX)=Sum.inl b)=false:=decide_eq_false (fun q=>nomatch q)
noncomputable def aS (prog:Program)(w:World):PySem.KeyKind prog w bX where
 is:=j2
 hash:=Qb w
 inj:=fun v a b ha hb=>by
  rcases bj ha with ⟨i,t,rfl,rfl⟩ | ⟨x,t,rfl,rfl⟩
  ·rcases bj hb with ⟨j,u,rfl,e⟩ | ⟨y,u,rfl,e⟩
   ·injection e with e1 _;rw[e1]
   ·exact nomatch e
  ·rcases bj hb with ⟨j,u,rfl,e⟩ | ⟨y,u,rfl,e⟩
   ·exact nomatch e
   ·injection e with e1 _;rw[e1]
 byValue:=fun k v h=>by
  rcases bj h with ⟨i,t,rfl,rfl⟩ | ⟨x,t,rfl,rfl⟩<;>rfl
 pyHash:=fun hv h=>by
  rcases bj hv with ⟨i,t,rfl,rfl⟩ | ⟨x,t,rfl,rfl⟩
  ·exact wpAny_pyHash_int h
  ·exact wpAny_pyHash_str h
 eqBool:=fun hu hv h=>by
  rcases bj hu with ⟨i,t,rfl,rfl⟩ | ⟨x,t,rfl,rfl⟩
  ·rcases bj hv with ⟨j,u,rfl,rfl⟩ | ⟨y,u,rfl,rfl⟩
   ·rw[zg]at h;exact wpAny_eqBool_int h
   ·rw[zf]at h;exact SeqAt.EqAt.int_str i t y u _ _ _ _ h
  ·rcases bj hv with ⟨j,u,rfl,rfl⟩ | ⟨y,u,rfl,rfl⟩
   ·rw[zd]at h;exact SeqAt.EqAt.str_int x t j u _ _ _ _ h
   ·rw[zc]at h;exact wpAny_eqBool_str h
 «strs»:=fun k x t v h=>by
  rcases bj h with ⟨i,u,rfl,e⟩ | ⟨y,u,rfl,e⟩
  ·exact nomatch e
  ·injection e with e1 _
   subst e1
   cases v<;>rfl
theorem mG (prog:Program)(w:World)(i:Int)(t:Tok):(aS prog w).is (.inl i) (.int i t)=true:=re i t
theorem mF (prog:Program)(w:World)(x:Str)(t:Tok):(aS prog w).is (.inr x) (.str x t)=true:=rc x t
open PySem.Spec PyProof.Rows
inductive V where
 | Af | bl (b:Bool) | int (i:Int) | str (x:Str) | D9 (b:Array UInt8) | HM (b:UInt64) | ref (a:Addr) | ty (n:String)
 deriving DecidableEq
noncomputable def RelV:V->Value->Prop
 | .Af,u=>u=Value.none
 | .bl b,u=>u=Value.bool b
 | .int i,u=>∃ t,u=Value.int i t
 | .str x,u=>∃ t,u=Value.str x t
 | .D9 b,u=>∃ t,u=Value.bytes b t
 | .HM b,u=>∃ t,u=Value.float b t
 | .ref a,u=>u=Value.ref a
 | .ty n,u=>u=Value.type n
abbrev Vals:List V->List Value->Prop:=Paired RelV
theorem Vals.length {xs:List V}{us:List Value}(r:Vals xs us):xs.length=us.length:=Paired.length r
theorem Vals.get:∀ {xs:List V}{us:List Value}{i:Nat}{x:V},Vals xs us->xs[i]? = some x->∃ u,us[i]? = some u/\RelV x u
 | _,_,_,_, .nil,e=>by simp at e
 | _,_,0,_, .cons r _,e=>by simp at e;subst e;exact⟨_,rfl,r⟩
 | _,_,i + 1,x, .cons _ t,e=>by
  obtain⟨u,h1,h2⟩:=Vals.get (i:=i) (x:=x) t (by simpa using e)
  exact⟨u,by simpa using h1,h2⟩
theorem Vals.set {x:V}{u:Value}(r:RelV x u):∀ {xs:List V}{us:List Value}(i:Nat),Vals xs us->Vals (xs.set i x) (us.set i u)
 | _,_,_, .nil => .nil
 | _,_,0, .cons _ t => .cons r t
 | _,_,i + 1, .cons q t => .cons q (Vals.set r i t)
theorem Vals.append:∀ {xs ys:List V}{us ws:List Value},Vals xs us->Vals ys ws->Vals (xs ++ ys) (us ++ ws)
 | _,_,_,_, .nil,s=>s
 | _,_,_,_, .cons r t,s => .cons r (Vals.append t s)
theorem Vals.take:∀ {xs:List V}{us:List Value}(n:Nat),Vals xs us->Vals (xs.take n) (us.take n)
 | _,_,0,_ => .nil
 | _,_,_ + 1, .nil => .nil
 | _,_,n + 1, .cons r t => .cons r (Vals.take n t)
theorem Vals.drop:∀ {xs:List V}{us:List Value}(n:Nat),Vals xs us->Vals (xs.drop n) (us.drop n)
 | _,_,0,r=>r
 | _,_,_ + 1, .nil => .nil
 | _,_,n + 1, .cons _ t=>Vals.drop n t
noncomputable def AK:Option V->Option Value->Prop
 | some v,some u=>RelV v u
 | none,none=>True
 | _,_=>False
noncomputable def KV {κ:Type}:List (κ × V)->List (κ × Value)->Prop:=Paired fun (p:κ × V)(q:κ × Value)=>p.1=q.1/\RelV p.2 q.2
noncomputable def kV:bX->V
 | .inl i => .int i
 | .inr x => .str x
inductive HO where
  | lst (xs:List V)
  | tup (xs:List V)
  | dK (kvs:List (bX × V)) | dT (kvs:List (List bX × V))
  | set (S:Int->Bool) (n:Nat)
  | ins (C dx:Addr) (fs:List (Str × V))
  | own (x:Addr)
  | xd (fs:List (Str × V))
  | met (f x:Addr)
  | Ov (lo hi:Int)
  | BA (o:Obj) (u:HO)
  | B4 (ps:Array Value)
  | ext (φ:Heap->Prop)
abbrev Hp:=Addr->Option HO
noncomputable def upd (H:Hp)(a:Addr)(o:HO):Hp:=fun b=>if b=a then some o else H b
theorem ac {H:Hp}{a:Addr}{o:HO}:upd H a o a=some o:=by unfold upd;rw[if_pos rfl]
theorem ae {H:Hp}{a b:Addr}{o:HO}(h:b ≠ a):upd H a o b=H b:=by unfold upd;rw[if_neg h]
theorem aR {H:Hp}{a b:Addr}{o u:HO}(h:H a=some o)(h':H b=some u)(d:o ≠ u):a ≠ b:=by
 intro e;subst e;rw[h]at h';exact d (Option.some.inj h')
theorem ag {H:Hp}{a b:Addr}{o:HO}(h:H a=some o)(h':H b=none):a ≠ b:=by
 intro e;subst e;rw[h]at h';cases h'
noncomputable def Ba (h:Heap)(a:Addr)(items:Array Value):Prop:=∃ o,h.get? a=some o/\(o.cls = .type "tuple"/\∃ n,o.data = .seq items n)/\o.dict=none
theorem Ba.isTup {h:Heap}{a:Addr}{items:Array Value}:Ba h a items->IsTup h a items:=fun zS=>by obtain⟨o,e,c,_⟩:=zS;exact⟨o,e,c⟩
theorem Ba.new (h:Heap)(items:Array Value):Ba (h.push { cls := .type "tuple",data := .seq items }) h.objs.size items:=⟨_,Heap.get?_push_size _ rfl,⟨rfl,_,rfl⟩,rfl⟩
section
variable (P:Program)(w:World)
noncomputable def Ag (H:Hp)(h:Heap)(a:Addr):HO->Prop
 | .lst xs=>xs.length <= sizeLine/\∃ (zT:List Value)(n:Nat),Vals xs zT/\h.get? a=some { cls := .type "list",data := .seq zT.toArray n }
 | .tup xs=>xs.length <= sizeLine/\∃ zT:List Value,Vals xs zT/\Ba h a zT.toArray
 | .dK kvs=>kvs.length <= sizeLine/\(a == sysModules)=false/\∃ vs,KV kvs vs/\h.DictOf (aS P w) a vs
 | .dT kvs=>kvs.length <= sizeLine/\(a == sysModules)=false/\∃ xs:List (List bX × Addr × Value),
   Paired (fun (p:List bX × V)(q:List bX × Addr × Value)=>p.1=q.1/\H q.2.1=some (.tup (p.1.map kV))/\RelV p.2 q.2.2) kvs xs /\
   ∃ o es ep,h.get? a=some o/\o.ExactDict/\o.data = .dict es ep/\es.toList=xs.map (entryOfKey (tupleKind (aS P w)))/\(xs.map (·.1)).Nodup
 | .set S n=>h.SetOf (intKind P w) a S n
 | .ins C dx fs=>H dx=some (.own a)/\fs.length <= 1000/\dx ≠ a/\h.get? a=some (PySem.W.instObj C dx) /\
   ∃ mA,h.Ns1 dx mA/\(∀ f,AK (fs.lookup f) (mA f))/\PySem.Within mA (fs.map (·.1))
 | .own _=>∃ o,h.get? a=some o
 | .xd fs=>∃ mA,h.Ns1 a mA/\∀ f,AK (fs.lookup f) (mA f)
 | .Ov lo hi=>∃ t u v,h.get? a=some { cls := .type "range",data := .fields #[.int lo t, .int hi u, .int 1 v] }
 | .BA o u=>h.get? a=some o/\Ag H h a u
 | .B4 ps=>h.get? a=some { cls := .none,data := .fields ps }
 | .met f x=>h.get? a=some (PySem.W.methodObj (.ref f) (.ref x))
 | .ext φ=>φ h/\(∃ o,h.get? a=some o)/\∀ h1 h2:Heap,φ h1->(∀ o,h1.get? a=some o->h2.get? a=some o)->φ h2
noncomputable def AY (H:Hp)(h:Heap):Prop:=∀ a o,H a=some o->Ag P w H h a o
end
section
variable {P:Program}{w:World}{H H':Hp}{h h':Heap}{a:Addr}{o:HO}
theorem Ag.lt (x:Ag P w H h a o):a < h.objs.size:=by
 cases o with
 | lst xs=>obtain⟨_,_,_,_,e⟩:=x;exact lt_size e
 | tup xs=>obtain⟨_,_,_,p⟩:=x;exact p.isTup.lt
 | dK kvs=>obtain⟨_,_,_,_,o,_,_,e,_⟩:=x;exact lt_size e
 | dT kvs=>obtain⟨_,_,_,_,o,_,_,e,_⟩:=x;exact lt_size e
 | set S n=>obtain⟨o,_,_,_,e,_⟩:=x;exact lt_size e
 | ins C dx fs=>obtain⟨_,_,_,e,_⟩:=x;exact lt_size e
 | own y=>obtain⟨_,e⟩:=x;exact lt_size e
 | xd fs=>obtain⟨_,⟨_,_,_,e,_⟩,_⟩:=x;exact lt_size e
 | Ov lo hi=>obtain⟨_,_,_,e⟩:=x;exact lt_size e
 | BA ob u=>obtain⟨e,_⟩:=x;exact lt_size e
 | B4 ps=>exact lt_size (show h.get? a=some _ from x)
 | met f y=>exact lt_size (show h.get? a=some _ from x)
 | ext φ=>obtain⟨_,⟨_,e⟩,_⟩:=x;exact lt_size e
theorem Paired.HN {α β:Type}{F G:α->β->Prop}:∀ {l₁:List α}{l₂:List β},Paired F l₁ l₂->(∀ a b,F a b->G a b)->Paired G l₁ l₂
 | _,_, .nil,_ => .nil
 | _,_, .cons r t,f => .cons (f _ _ r) (Paired.HN t f)
theorem Ag.B5 (x:Ag P w H h a o)(k:∀ b u,(b=a∨H b=some (.own a))->h.get? b=some u->h'.get? b=some u)
  (ho:∀ b,H b=some (.own a)->H' b=some (.own a)) (ht:∀ b xs,H b=some (.tup xs)->H' b=some (.tup xs)):Ag P w H' h' a o:=by
 induction o with
 | lst xs=>obtain⟨z,zT,n,r,e⟩:=x;exact⟨z,zT,n,r,k _ _ (.inl rfl) e⟩
 | tup xs=>obtain⟨z,zT,r,ob,e,c⟩:=x;exact⟨z,zT,r,ob,k _ _ (.inl rfl) e,c⟩
 | dK kvs=>obtain⟨z,y,vs,r,ob,es,ep,e,c⟩:=x;exact⟨z,y,vs,r,ob,es,ep,k _ _ (.inl rfl) e,c⟩
 | dT kvs =>
  obtain⟨z,y,xs,r,ob,es,ep,e,c⟩:=x
  exact⟨z,y,xs,Paired.HN r fun p q z=>⟨z.1,ht _ _ z.2.1,z.2.2⟩,ob,es,ep,k _ _ (.inl rfl) e,c⟩
 | set S n=>obtain⟨ob,es,ep,t,e,c⟩:=x;exact⟨ob,es,ep,t,k _ _ (.inl rfl) e,c⟩
 | ins C dx fs =>
  obtain⟨d,z,ne,e,mA,⟨od,es,ep,e2,c⟩,r⟩:=x
  exact⟨ho _ d,z,ne,k _ _ (.inl rfl) e,mA,⟨od,es,ep,k _ _ (.inr d) e2,c⟩,r⟩
 | own y=>obtain⟨ob,e⟩:=x;exact⟨ob,k _ _ (.inl rfl) e⟩
 | xd fs=>obtain⟨mA,⟨od,es,ep,e,c⟩,r⟩:=x;exact⟨mA,⟨od,es,ep,k _ _ (.inl rfl) e,c⟩,r⟩
 | Ov lo hi=>obtain⟨t,u,v,e⟩:=x;exact⟨t,u,v,k _ _ (.inl rfl) e⟩
 | BA ob u ih=>obtain⟨e,q⟩:=x;exact⟨k _ _ (.inl rfl) e,ih q⟩
 | B4 ps =>
  have e:h.get? a=some { cls := .none,data := .fields ps }:=x
  show h'.get? a=some { cls := .none,data := .fields ps }
  exact k a _ (.inl rfl) e
 | met f y =>
  have e:h.get? a=some (PySem.W.methodObj (.ref f) (.ref y)):=x
  show h'.get? a=some (PySem.W.methodObj (.ref f) (.ref y))
  exact k a _ (.inl rfl) e
 | ext φ=>obtain⟨p,⟨o,e⟩,st⟩:=x;exact⟨st _ _ p fun o q=>k _ _ (.inl rfl) q,⟨o,k _ _ (.inl rfl) e⟩,st⟩
theorem AY.lt (x:AY P w H h)(e:H a=some o):a < h.objs.size:=(x a o e).lt
theorem AY.fresh (x:AY P w H h)(e:h.objs.size <= a):H a=none:=by
 cases q:H a with
 | none=>rfl
 | some u=>exact absurd (lt_of_lt_of_le (x.lt q) e) (lt_irrefl _)
theorem AY.kept (x:AY P w H h)(k:∀ b u,h.get? b=some u->h'.get? b=some u):AY P w H h':=fun a o e =>
 (x a o e).B5 (fun b u _ q=>k b u q) (fun _ q=>q) fun _ _ q=>q
theorem AY.laid (x:AY P w H h)(k:∀ b u,h.get? b=some u->h'.get? b=some u)(hp:h.objs.size <= a)(new:Ag P w (upd H a o) h' a o):AY P w (upd H a o) h':=fun b u e=>by
 have hn:=x.fresh hp
 by_cases hb:b=a
 ·subst hb;rw[ac]at e;cases e;exact new
 ·rw[ae hb]at e
  exact(x b u e).B5 (fun c v _ q=>k c v q) (fun c q=>by rw[ae (ag q hn)];exact q) fun c xs q=>by rw[ae (ag q hn)];exact q
end
noncomputable def Rd (H:Hp)(a:Addr)(u:HO):Prop:=H a=some u∨∃ o,H a=some (.BA o u)
theorem Rd.ok {P:Program}{w:World}{H:Hp}{h:Heap}{a:Addr}{u:HO}(r:Rd H a u)(x:AY P w H h):Ag P w H h a u:=by
 rcases r with r | ⟨o,r⟩
 ·exact x a u r
 ·obtain⟨_,q⟩:=x a _ r
  exact q
noncomputable def Ka:Option HO->Prop
 | some (.lst _)=>True
 | some (.dK _)=>True
 | some (.dT _)=>True
 | some (.set _ _)=>True
 | some (.ins _ _ _)=>True
 | some (.ext _)=>True
 | _=>False
section
variable {P:Program}{w:World}{H:Hp}{h h':Heap}{x e:Addr}{o':HO}
theorem AY.write (ok:AY P w H h)(mu:Ka (H x))(he:e=x∨H e=some (.own x))(k:∀ b u,b ≠ e->h.get? b=some u->h'.get? b=some u)(Jm:∃ u,h'.get? e=some u)
  (new:Ag P w (upd H x o') h' x o'):AY P w (upd H x o') h':=fun b u q=>by
 have Kb:∀ c y,H c=some (.own y)->c ≠ x:=fun c y r z=>by subst z;rw[r]at mu;exact mu
 have Qc:∀ c xs,H c=some (.tup xs)->c ≠ x:=fun c xs r z=>by subst z;rw[r]at mu;exact mu
 by_cases hb:b=x
 ·subst hb;rw[ac]at q;cases q;exact new
 ·rw[ae hb]at q
  by_cases Cj:b=e
  ·have q':H b=some (.own x):=by
    rcases he with z | z
    ·exact absurd (Cj.trans z) hb
    ·rw[Cj];exact z
   rw[q]at q';cases q'
   obtain⟨v,hv⟩:=Jm
   exact⟨v,by rw[Cj];exact hv⟩
  ·refine(ok b u q).B5 (fun c v hc r=>k c v ?_ r) (fun c r=>by rw[ae (Kb c b r)];exact r) fun c xs r=>by rw[ae (Qc c xs r)];exact r
   rcases hc with rfl | hc
   ·exact Cj
   ·rintro rfl
    rcases he with z | z
    ·exact Kb c b hc z
    ·rw[hc]at z;cases z;exact hb rfl
end
structure Un (fs ex:List Addr)(H H':Hp)(h h':Heap):Prop where
 keep:∀ b o,h.get? b=some o->H b=none->b ∉ fs->b ∉ ex->h'.get? b=some o
 slot:∀ b o,h.get? b=some o->H b=none->b ∈ fs->b ∉ ex->∃ sl,h'.get? b=some { o with slots:=sl }
 free:∀ b o,h.get? b=some o->H b=none->b ∉ ex->H' b=none
 there:∀ b o,h.get? b=some o->b ∉ ex->∃ o',h'.get? b=some o'
 BX:∀ b xs,H b=some (.tup xs)->H' b=some (.tup xs)
 BH:∀ b o u,H b=some (.BA o u)->H' b=some (.BA o u)
 BI:∀ b ps,H b=some (.B4 ps)->∃ more,H' b=some (.B4 (ps ++ more))
section
variable {fs AD ex Jn:List Addr}{H H1 H2:Hp}{h h1 h2 h':Heap}{a x e:Addr}{o:HO}
theorem Un.any (u:Un fs ex H H1 h h1){b:Addr}{ob:Obj}(q:h.get? b=some ob)(n:H b=none)(hx:b ∉ ex):∃ sl,h1.get? b=some { ob with slots:=sl }:=by
 by_cases hb:b ∈ fs
 ·exact u.slot b ob q n hb hx
 ·exact⟨ob.slots,u.keep b ob q n hb hx⟩
theorem Un.kept (k:∀ b u,h.get? b=some u->h'.get? b=some u):Un fs ex H H h h' :=
 ⟨fun b ob q _ _ _=>k b ob q,fun b ob q _ _ _=>⟨ob.slots,k b ob q⟩,fun _ _ _ n _=>n,fun b ob q _=>⟨ob,k b ob q⟩,fun _ _ q=>q,fun _ _ _ q=>q,fun _ ps q=>⟨#[],by rw[q];simp⟩⟩
theorem Un.refl:Un fs ex H H h h:=Un.kept fun _ _ q=>q
theorem Un.laid (k:∀ b u,h.get? b=some u->h'.get? b=some u)(hp:h.objs.size <= a)(hn:H a=none):Un fs ex H (upd H a o) h h' where
 keep:=fun b u q _ _ _=>k b u q
 slot:=fun b u q _ _ _=>⟨u.slots,k b u q⟩
 free:=fun b u q n _=>by rw[ae (ne_of_lt (lt_of_lt_of_le (lt_size q) hp))];exact n
 there:=fun b u q _=>⟨u,k b u q⟩
 BX:=fun b xs q=>by rw[ae (ag q hn)];exact q
 BH:=fun b u xs q=>by rw[ae (ag q hn)];exact q
 BI:=fun b ps q=>⟨#[],by rw[ae (ag q hn),q];simp⟩
theorem Un.write (mu:Ka (H x))(he:e=x∨H e=some (.own x))(k:∀ b u,b ≠ e->h.get? b=some u->h'.get? b=some u)(Jm:∃ u,h'.get? e=some u):Un fs ex H (upd H x o) h h':=by
 have hx:∀ b,H b=none->b ≠ x:=fun b n z=>by subst z;rw[n]at mu;exact mu
 have hb:∀ b,H b=none->b ≠ e:=fun b n z=>by
  subst z
  rcases he with r | r
  ·exact hx b n r
  ·rw[n]at r;cases r
 have hm:∀ b u,H b=some u->¬ Ka (some u)->b ≠ x:=fun b u q nm z=>by subst z;rw[q]at mu;exact nm mu
 refine⟨fun b u q n _ _=>k b u (hb b n) q,fun b u q n _ _=>⟨u.slots,k b u (hb b n) q⟩,fun b u q n _=>by rw[ae (hx b n)];exact n,fun b u q _=>?_,
  fun b xs q=>by rw[ae (hm b _ q fun z=>z)];exact q,fun b u xs q=>by rw[ae (hm b _ q fun z=>z)];exact q,fun b ps q=>⟨#[],by rw[ae (hm b _ q fun z=>z),q];simp⟩⟩
 by_cases Cj:b=e
 ·subst Cj;exact Jm
 ·exact⟨u,k b u Cj q⟩
end
noncomputable def Ow (h:Heap)(H:Hp):List Addr:=(List.range h.objs.size).filter fun a=>(H a).isSome
noncomputable def jO (h:Heap)(H:Hp):Heap:=PySem.W.hideAll h (Ow h H)
theorem rh (h:Heap)(H:Hp):(jO h H).objs.size=h.objs.size:=PySem.W.hideAll_size _ _
theorem uD {h:Heap}{H:Hp}{b:Addr}{o:Obj}(e:h.get? b=some o)(n:H b=none):(jO h H).get? b=some o :=
 PySem.W.hideAll_get _ e fun hm=>by
  have q:(H b).isSome=true:=(mem_filter.mp hm).2
  rw[n]at q;simp at q
theorem wA {h:Heap}{H:Hp}{b:Addr}{o:Obj}(e:(jO h H).get? b=some o):h.get? b=some o/\H b=none:=by
 have e':h.get? b=some o:=PySem.W.of_hideAll (Ow h H) e
 refine⟨e',?_⟩
 cases q:H b with
 | none=>rfl
 | some x =>
  have hm:b ∈ Ow h H:=mem_filter.mpr ⟨mem_range.mpr (lt_size e'),by simp[q]⟩
  have z:(jO h H).get? b=none:=PySem.W.hideAll_none (Ow h H) hm
  rw[z]at e;cases e
structure Mod (K:Frag)(mg:Str->Option Value)(base:Heap):Prop where
 CH:K.In base
 glob:base.Ns mainGlobals mg
 blt:∃ mb,base.Ns builtinsNs mb/\∀ x:Str,x ≠ "__name__"->mb x=bootBuiltins x
 nolimit:base.NoLimit
structure Cx where
 prog:Program
 w:World
 K:Frag
 mg:Str->Option Value
 base:Heap
 A:Around
 N:List Str
 s₀:Shared
 H₀:Hp
 env:Env
 outer:List Env
 stack:List Env
 ex:List Addr
 fn:Str->Bool
 calm:Bool
 pn:List (Addr × Obj)
 xe:Value->Shared->Prop
noncomputable def j8 (l:List Env):List Addr:=l.filterMap (·.frame)
abbrev Cx.fs (X:Cx):List Addr:=j8 X.outer
noncomputable def Kc (sc:Scope)(x:Str):Prop:=sc.names.lookup x=some .local∨sc.names.lookup x=some .cell∨sc.names.lookup x=some .free
noncomputable def Loc (sc:Scope)(x:Str):Prop:=sc.names.lookup x=some .local∨sc.names.lookup x=some .cell
noncomputable def Look (env:Env)(h:Heap)(m:Str->Option Value)(x:Str)(u:Value):Prop :=
 (env.kindOf x=some .local/\m x=some u)∨((env.kindOf x=some .cell∨env.kindOf x=some .free)/\∃ c,env.cells.lookup x=some c/\h.IsCell c (some u))
structure Cx.Ok (X:Cx):Prop where
 mod:Mod X.K X.mg X.base
 kind:X.env.scope.kind = .function
 glob:X.env.globals=mainGlobals
 blt:X.env.builtins=builtinsNs
 above:X.s₀.heap.objs.size <= X.env.locals
 inj:∀ x y c,X.env.cells.lookup x=some c->X.env.cells.lookup y=some c->x=y
 has:∀ x,(X.env.kindOf x=some .cell∨X.env.kindOf x=some .free)->∃ c,X.env.cells.lookup x=some c
 FX:∀ x c,X.fn x=true->X.env.cells.lookup x=some c->X.s₀.heap.objs.size <= c
 hd:X.calm=true->X.A.handled=none
 frames:X.A.frames=some X.stack
 Jo:X.stack=X.outer∨(X.stack=X.env :: X.outer/\X.env.frame=some X.env.locals)
 Ox:∀ b ∈ X.ex,b ≠ X.env.locals/\∀ x c,X.env.cells.lookup x=some c->c ≠ b
 bs:∀ b o,X.base.get? b=some o->X.s₀.heap.get? b=some o/\X.H₀ b=none
 Ee:X.base.objs.size <= X.s₀.heap.objs.size
 Dm:∀ b o,X.base.get? b=some o->b ∉ X.ex
 DO:∀ b ∈ X.ex,b ∉ X.fs
 Bl:X.s₀.heap.FunFrames X.base X.outer
 ET:∀ b ∈ X.fs,X.H₀ b=none
structure Inv (X:Cx)(pins:List (Addr × Obj))(σ:List (Option V))(H:Hp)(s:Shared):Prop where
 ok:X.Ok
 os:s.os=X.s₀.os
 bare:AllBare s.gens
 base:Un X.fs X.ex X.H₀ H X.s₀.heap s.heap
 loc:∃ m,s.heap.Ns X.env.locals m/\∀ (i:Nat)(x:Str)(v:V),X.N[i]? = some x->σ[i]? = some (some v)->Kc X.env.scope x->∃ u,RelV v u/\Look X.env s.heap m x u
 cell:∀ x c,X.env.cells.lookup x=some c->∃ v,s.heap.IsCell c v
 free:H X.env.locals=none
 Az:∀ x c,X.env.cells.lookup x=some c->H c=none
 pin:∀ p ∈ X.pn ++ pins,s.heap.get? p.1=some p.2/\H p.1=none/\p.1 ≠ X.env.locals/\p.1 ∉ X.fs/\∀ v,p.2.data ≠ .cell v
 zV:AY X.prog X.w H s.heap
 len:σ.length=X.N.length
section
variable {X:Cx}{pins:List (Addr × Obj)}{σ:List (Option V)}{H H':Hp}{s:Shared}{h':Heap}
theorem Cx.Ok.Qd (ok:X.Ok){b:Addr}{o:Obj}(e:X.base.get? b=some o):b ∉ X.fs:=fun hb=>by
 have:=(ok.Bl.mem hb).1
 rw[e]at this;cases this
theorem Inv.bs (I:Inv X pins σ H s):∀ b o,X.base.get? b=some o->s.heap.get? b=some o/\H b=none:=fun b o e =>
 ⟨I.base.keep b o (I.ok.bs b o e).1 (I.ok.bs b o e).2 (I.ok.Qd e) (I.ok.Dm b o e),I.base.free b o (I.ok.bs b o e).1 (I.ok.bs b o e).2 (I.ok.Dm b o e)⟩
theorem Inv.bk (I:Inv X pins σ H s):∀ b o,X.base.get? b=some o->s.heap.get? b=some o:=fun b o e=>(I.bs b o e).1
theorem Inv.mod (I:Inv X pins σ H s):Mod X.K X.mg X.base:=I.ok.mod
theorem Inv.AQ (I:Inv X pins σ H s):X.K.In s.heap:=I.ok.mod.CH.keeps I.bk
theorem Inv.lt (I:Inv X pins σ H s):X.env.locals < s.heap.objs.size:=let ⟨_,hn,_⟩:=I.loc;hn.lt
theorem Inv.sz (I:Inv X pins σ H s):X.s₀.heap.objs.size <= s.heap.objs.size:=le_trans I.ok.above (le_of_lt I.lt)
theorem Inv.HP (I:Inv X pins σ H s){a:Addr}(h:s.heap.objs.size <= a):a ∉ X.fs:=fun hb=>by
 obtain⟨_,o,ho,_⟩:=I.ok.Bl.mem hb
 exact absurd (lt_of_lt_of_le (lt_size ho) (le_trans I.sz h)) (lt_irrefl _)
theorem Inv.DP (I:Inv X pins σ H s):∀ x c,X.env.cells.lookup x=some c->c ≠ X.env.locals:=fun x c e z=>by
 obtain⟨v,o,ho,hd⟩:=I.cell x c e
 obtain⟨m,⟨o',es,ep,Fm,HQ,_⟩,_⟩:=I.loc
 rw[z,Fm]at ho;cases ho;rw[HQ]at hd;cases hd
theorem Inv.Bl (I:Inv X pins σ H s):s.heap.FunFrames X.base X.outer:=by
 have all:∀ (l:List Env),(∀ b ∈ j8 l,b ∈ X.fs)->X.s₀.heap.FunFrames X.base l->s.heap.FunFrames X.base l:=by
  intro l
  induction l with
  | nil=>intro _ _;trivial
  | cons env r ih =>
   intro hs hl
   obtain⟨hk,⟨L,o,hf,hn,ho,hd⟩,hr⟩:=hl
   have hL:L ∈ X.fs:=hs L (by unfold j8;rw[filterMap_cons,hf];exact mem_cons_self)
   obtain⟨sl,e⟩:=I.base.slot L o ho (I.ok.ET L hL) hL fun z=>I.ok.DO L z hL
   exact⟨hk,⟨L,_,hf,hn,e,hd⟩,ih (fun b hb=>hs b (by unfold j8;rw[filterMap_cons,hf];exact mem_cons_of_mem _ hb)) hr⟩
 exact all X.outer (fun _ hb=>hb) I.ok.Bl
theorem Inv.stack (I:Inv X pins σ H s):s.heap.FunFrames X.base X.stack:=by
 rcases I.ok.Jo with e | ⟨e,hf⟩
 ·rw[e];exact I.Bl
 ·rw[e]
  obtain⟨m,hn,_⟩:=I.loc
  refine .cons (by rw[I.ok.kind];decide) hf hn ?_ I.Bl
  exact Heap.get?_none_of_le (le_trans I.ok.Ee I.ok.above)
theorem Inv.Bb (I:Inv X pins σ H s):∀ b ∈ j8 X.stack,b ∈ X.env.locals :: X.fs:=fun b hb=>by
 rcases I.ok.Jo with e | ⟨e,hf⟩
 ·rw[e]at hb;exact mem_cons_of_mem _ hb
 ·rw[e]at hb
  unfold j8 at hb
  rw[filterMap_cons,hf]at hb
  exact hb
theorem Inv.BP (I:Inv X pins σ H s):∀ b ∈ j8 X.stack,H b=none:=fun b hb=>by
 rcases mem_cons.mp (I.Bb b hb) with e | hb
 ·rw[e];exact I.free
 ·obtain⟨_,o,ho,_⟩:=I.ok.Bl.mem hb
  exact I.base.free b o ho (I.ok.ET b hb) fun z=>I.ok.DO b z hb
theorem Inv.step {g':Array GenState}{t':Nat}{d':Drawn}{ch:List Addr}(I:Inv X pins σ H s)
  (Cf:∀ b ∈ ch,(b ∈ X.ex∨X.s₀.heap.objs.size <= b)/\b ≠ X.env.locals/\(∀ x c,X.env.cells.lookup x=some c->c ≠ b)/\∀ p ∈ X.pn ++ pins,p.1 ≠ b)
  (keep:∀ b o,b ≠ X.env.locals->b ∉ X.fs->b ∉ ch->s.heap.get? b=some o->H b=none->h'.get? b=some o)
  (slot:∀ b o,b ≠ X.env.locals->b ∈ X.fs->b ∉ ch->s.heap.get? b=some o->H b=none->∃ sl,h'.get? b=some { o with slots:=sl }) (free:∀ b o,b ∉ ch->s.heap.get? b=some o->H b=none->H' b=none)
  (there:∀ b o,b ∉ ch->s.heap.get? b=some o->∃ o',h'.get? b=some o')
  (BX:∀ b xs,H b=some (.tup xs)->H' b=some (.tup xs)) (BH:∀ b o u,H b=some (.BA o u)->H' b=some (.BA o u)) (BI:∀ b ps,H b=some (.B4 ps)->∃ more,H' b=some (.B4 (ps ++ more)))
  (ns:∀ m,s.heap.Ns X.env.locals m->h'.Ns X.env.locals m) (zV:AY X.prog X.w H' h') (hg:AllBare g') :
  Inv X pins σ H' { s with heap:=h',gens:=g',drawn:=d',toks:=t' }:=by
 have V0:∀ b o,X.s₀.heap.get? b=some o->b ≠ X.env.locals:=fun b o e=>ne_of_lt (lt_of_lt_of_le (lt_size e) I.ok.above)
 have Oy:∀ b o,X.s₀.heap.get? b=some o->b ∉ X.ex->b ∉ ch:=fun b o e hx hb=>by
  rcases (Cf b hb).1 with z | z
  ·exact hx z
  ·exact absurd (lt_of_lt_of_le (lt_size e) z) (lt_irrefl _)
 have cellK:∀ x c,X.env.cells.lookup x=some c->∀ v,s.heap.IsCell c v->h'.IsCell c v:=fun x c e v ⟨o,ho,hd⟩=>by
  have Kd:c ∉ ch:=fun z=>(Cf c z).2.2.1 x c e rfl
  by_cases hc:c ∈ X.fs
  ·obtain⟨sl,q⟩:=slot c o (I.DP x c e) hc Kd ho (I.Az x c e)
   exact⟨_,q,hd⟩
  ·exact⟨o,keep c o (I.DP x c e) hc Kd ho (I.Az x c e),hd⟩
 refine⟨I.ok,I.os,hg,⟨fun b o e n hb hx=>?_,fun b o e n hb hx=>?_,fun b o e n hx=>?_,fun b o e hx=>?_,fun b xs e=>BX b xs (I.base.BX b xs e),fun b o xs e=>BH b o xs (I.base.BH b o xs e),fun b ps e=>?_⟩,?_,fun x c e=>?_,?_,fun x c e=>?_,fun p hp=>?_,zV,I.len⟩
 ·exact keep b o (V0 b o e) hb (Oy b o e hx) (I.base.keep b o e n hb hx) (I.base.free b o e n hx)
 ·obtain⟨sl,e1⟩:=I.base.slot b o e n hb hx
  obtain⟨sl',e2⟩:=slot b _ (V0 b o e) hb (Oy b o e hx) e1 (I.base.free b o e n hx)
  exact⟨sl',e2⟩
 ·obtain⟨o',e1⟩:=I.base.there b o e hx
  exact free b o' (Oy b o e hx) e1 (I.base.free b o e n hx)
 ·obtain⟨o',e1⟩:=I.base.there b o e hx
  exact there b o' (Oy b o e hx) e1
 ·obtain⟨m1,e1⟩:=I.base.BI b ps e
  obtain⟨m2,e2⟩:=BI b _ e1
  exact⟨m1 ++ m2,by rw[e2,Array.append_assoc]⟩
 ·obtain⟨m,hn,hl⟩:=I.loc
  refine⟨m,ns m hn,fun i x v e1 e2 e3=>?_⟩
  obtain⟨u,r,l⟩:=hl i x v e1 e2 e3
  refine⟨u,r,?_⟩
  rcases l with l | ⟨k,c,e,z⟩
  ·exact .inl l
  ·exact .inr ⟨k,c,e,cellK x c e _ z⟩
 ·obtain⟨v,z⟩:=I.cell x c e
  exact⟨v,cellK x c e v z⟩
 ·obtain⟨m,⟨o,_,_,ho,_⟩,_⟩:=I.loc
  exact free _ o (fun z=>(Cf _ z).2.1 rfl) ho I.free
 ·obtain⟨v,o,ho,hd⟩:=I.cell x c e
  exact free c o (fun z=>(Cf c z).2.2.1 x c e rfl) ho (I.Az x c e)
 ·obtain⟨e,n,ne,nf,d⟩:=I.pin p hp
  have Kd:p.1 ∉ ch:=fun z=>(Cf p.1 z).2.2.2 p hp rfl
  exact⟨keep p.1 p.2 ne nf Kd e n,free p.1 p.2 Kd e n,ne,nf,d⟩
theorem Inv.un {t':Nat}(I:Inv X pins σ H s)(u:Un X.fs [] H H' s.heap h')(zV:AY X.prog X.w H' h'):Inv X pins σ H' { s with heap:=h',toks:=t' }:=by
 obtain⟨m,⟨o,es,ep,ho,r⟩,_⟩:=id I.loc
 obtain⟨sl,hL⟩:=u.any ho I.free (by simp)
 exact I.step (g':=s.gens) (d':=s.drawn) (ch:=[]) (fun _ z=>nomatch z) (fun b o _ hb _ e n=>u.keep b o e n hb (by simp)) (fun b o _ hb _ e n=>u.slot b o e n hb (by simp)) (fun b o _ e n=>u.free b o e n (by simp)) (fun b o _ e=>u.there b o e (by simp)) u.BX u.BH u.BI (fun m' hm=>by
  obtain⟨o',Oz,Qe,Fm,r'⟩:=hm
  rw[ho]at Fm;cases Fm
  exact⟨_,Oz,Qe,hL,r'⟩) zV I.bare
theorem Inv.call {g':Array GenState}{t':Nat}{d':Drawn}{ch:List Addr}(I:Inv X pins σ H s)(u:Un (j8 X.stack) ch H H' s.heap h')(zV:AY X.prog X.w H' h')(hg:AllBare g')
  (Cf:∀ b ∈ ch,(b ∈ X.ex∨X.s₀.heap.objs.size <= b)/\b ≠ X.env.locals/\(∀ x c,X.env.cells.lookup x=some c->c ≠ b)/\∀ p ∈ X.pn ++ pins,p.1 ≠ b) :
  Inv X pins σ H' { s with heap:=h',gens:=g',drawn:=d',toks:=t' }:=by
 obtain⟨m,⟨o,es,ep,ho,r⟩,_⟩:=id I.loc
 obtain⟨sl,hL⟩:=u.any ho I.free fun z=>(Cf _ z).2.1 rfl
 exact I.step (ch:=ch) Cf (fun b o hL hb hc e n=>u.keep b o e n (fun z=>(mem_cons.mp (I.Bb b z)).elim hL hb) hc) (fun b o _ _ hc e n=>u.any e n hc) (fun b o hc e n=>u.free b o e n hc) (fun b o hc e=>u.there b o e hc) u.BX u.BH u.BI (fun m' hm=>by
  obtain⟨o',Oz,Qe,Fm,r'⟩:=hm
  rw[ho]at Fm;cases Fm
  exact⟨_,Oz,Qe,hL,r'⟩) zV hg
theorem Inv.turned {t':Nat}{it:Addr}(I:Inv X pins σ H s)(k:∀ b o,b ≠ it->s.heap.get? b=some o->h'.get? b=some o)(hn:H it=none)(hL:it ≠ X.env.locals)
  (h1:it ∈ X.ex∨X.s₀.heap.objs.size <= it) (h2:∀ x c,X.env.cells.lookup x=some c->c ≠ it) (h3:∀ p ∈ X.pn ++ pins,p.1 ≠ it):Inv X pins σ H { s with heap:=h',toks:=t' }:=by
 have V1:∀ b u,H b=some u->b ≠ it:=fun b u e z=>by rw[z,hn]at e;cases e
 refine I.step (g':=s.gens) (d':=s.drawn) (ch:=[it]) (fun b hb=>?_) (fun b o _ _ hc e _=>k b o (fun z=>hc (by simp[z])) e) (fun b o _ _ hc e _=>⟨o.slots,k b o (fun z=>hc (by simp[z])) e⟩) (fun _ _ _ _ n=>n)
  (fun b o hc e=>⟨o,k b o (fun z=>hc (by simp[z])) e⟩) (fun _ _ e=>e) (fun _ _ _ e=>e) (fun b ps e=>⟨#[],by rw[e];simp⟩) (fun m hm=>?_) (fun b u e=>?_) I.bare
 ·have e:b=it:=by simpa using hb
  subst e
  exact⟨h1,hL,h2,h3⟩
 ·obtain⟨o,es,ep,ho,r⟩:=hm
  exact⟨o,es,ep,k _ o (Ne.symm hL) ho,r⟩
 ·refine(I.zV b u e).B5 (fun c v hc q=>k c v ?_ q) (fun _ q=>q) fun _ _ q=>q
  rcases hc with z | z
  ·rw[z];exact V1 b u e
  ·exact V1 c _ z
theorem Inv.tok (I:Inv X pins σ H s)(t:Nat):Inv X pins σ H { s with toks:=t }:=I.un (h':=s.heap) (t':=t) Un.refl I.zV
theorem Inv.kept {t':Nat}(I:Inv X pins σ H s)(k:∀ b u,s.heap.get? b=some u->h'.get? b=some u):Inv X pins σ H { s with heap:=h',toks:=t' }:=I.un (Un.kept k) (I.zV.kept k)
theorem Inv.laid {a:Addr}{o:HO}{t':Nat}(I:Inv X pins σ H s)(k:∀ b u,s.heap.get? b=some u->h'.get? b=some u)(hp:s.heap.objs.size <= a)(new:Ag X.prog X.w (upd H a o) h' a o) :
  Inv X pins σ (upd H a o) { s with heap:=h',toks:=t' }:=I.un (Un.laid k hp (I.zV.fresh hp)) (I.zV.laid k hp new)
theorem Inv.write {x e:Addr}{o:HO}{t':Nat}(I:Inv X pins σ H s)(mu:Ka (H x))(he:e=x∨H e=some (.own x))(k:∀ b u,b ≠ e->s.heap.get? b=some u->h'.get? b=some u)(Jm:∃ u,h'.get? e=some u)
  (new:Ag X.prog X.w (upd H x o) h' x o):Inv X pins σ (upd H x o) { s with heap:=h',toks:=t' }:=I.un (Un.write mu he k Jm) (I.zV.write mu he k Jm new)
theorem Inv.AR {pins':List (Addr × Obj)}(I:Inv X pins σ H s)(h:∀ p ∈ pins',s.heap.get? p.1=some p.2/\H p.1=none/\p.1 ≠ X.env.locals/\p.1 ∉ X.fs/\∀ v,p.2.data ≠ .cell v):Inv X pins' σ H s :=
 ⟨I.ok,I.os,I.bare,I.base,I.loc,I.cell,I.free,I.Az,fun p hp=>(mem_append.mp hp).elim (fun z=>I.pin p (mem_append_left _ z)) (h p),I.zV,I.len⟩
theorem cC {N:List Str}(hN:N.Nodup){i j:Nat}{x:Str}(a:N[i]? = some x)(b:N[j]? = some x):i=j:=by
 obtain⟨h1,e1⟩:=List.getElem?_eq_some_iff.mp a
 obtain⟨h2,e2⟩:=List.getElem?_eq_some_iff.mp b
 exact(List.getElem_inj hN).mp (e1.trans e2.symm)
theorem jW {M:Model}{A:Around}{E:Value->Shared->Prop}{i:Nat}{x:Str}{v:V}{u:Value}{Q:Unit->Shared->Prop}(I:Inv X pins σ H s)(hN:X.N.Nodup)(hi:X.N[i]? = some x)(hx:Loc X.env.scope x)(r:RelV v u)
  (h:∀ s',Inv X pins (σ.set i (some v)) H s'->(∃ a,Heap.SameBut a s.heap s'.heap/\(a=X.env.locals∨X.env.cells.lookup x=some a))->Q () s') (hf:autoParam (X.fn x=true∨X.env.scope.names.lookup x=some .local) ζ):wpAny M A (storeName X.env x u) Q E s:=by
 obtain⟨m,hn,hl⟩:=id I.loc
 have Qf:(X.env.scope.kind == .class || (X.env.scope.kind == .module && X.env.locals != X.env.globals))=false:=by rw[I.ok.kind];rfl
 have Ke:i < σ.length:=by rw[I.len];exact(gQ0 hi)
 have DP:=I.DP
 have tracked:∀ {a:Addr}{h':Heap},(∃ o,s.heap.get? a=some o/\H a=none)->Heap.SameBut a s.heap h'->AY X.prog X.w H h':=fun {a h'} ha hs b ob e=>by
  obtain⟨_,_,FY⟩:=ha
  refine(I.zV b ob e).B5 (fun c w' hc q=>(hs.2 c ?_).trans q) (fun _ q=>q) fun _ _ q=>q
  rintro rfl
  rcases hc with rfl | hc
  ·rw[FY]at e;cases e
  ·rw[FY]at hc;cases hc
 rcases hx with hk | hk
 ·refine wpAny_storeName_local hk hn (fun h' CI hs=>?_) Qf
  obtain⟨oL,_,_,hoL,_⟩:=id hn
  refine h _ ⟨I.ok,I.os,I.bare,⟨fun b o e n hb hx=>?_,fun b o e n hb hx=>?_,I.base.free,fun b o e hx=>?_,I.base.BX,I.base.BH,I.base.BI⟩,⟨_,CI,fun j y v' e1 e2 e3=>?_⟩,fun y c e=>?_,I.free,I.Az,fun p hp=>?_,tracked ⟨oL,hoL,I.free⟩ hs,by simpa using I.len⟩ ⟨_,hs, .inl rfl⟩
  ·exact(hs.2 b (ne_of_lt (lt_of_lt_of_le (lt_size e) I.ok.above))).trans (I.base.keep b o e n hb hx)
  ·obtain⟨sl,e1⟩:=I.base.slot b o e n hb hx
   exact⟨sl,(hs.2 b (ne_of_lt (lt_of_lt_of_le (lt_size e) I.ok.above))).trans e1⟩
  ·obtain⟨o',e1⟩:=I.base.there b o e hx
   exact⟨o',(hs.2 b (ne_of_lt (lt_of_lt_of_le (lt_size e) I.ok.above))).trans e1⟩
  ·by_cases hj:j=i
   ·subst hj
    rw[hi]at e1;cases e1
    rw[List.getElem?_set_self Ke]at e2
    cases e2
    exact⟨u,r, .inl ⟨hk,by simp⟩⟩
   ·rw[getElem?_set_ne (Ne.symm hj)]at e2
    obtain⟨u',r',q⟩:=hl j y v' e1 e2 e3
    refine⟨u',r',?_⟩
    rcases q with ⟨k,e⟩ | ⟨k,c,e,z⟩
    ·refine .inl ⟨k,?_⟩
     have:y ≠ x:=fun e=>hj (cC hN e1 (e ▸ hi))
     simp[this,e]
    ·exact .inr ⟨k,c,e,z.sameBut hs (DP y c e)⟩
  ·obtain⟨w',z⟩:=I.cell y c e
   exact⟨w',z.sameBut hs (DP y c e)⟩
  ·obtain⟨e,n,ne,nf,d⟩:=I.pin p hp
   exact⟨(hs.2 p.1 ne).trans e,n,ne,nf,d⟩
 ·have Qg:X.fn x=true:=by
   rcases hf with z | z
   ·exact z
   ·rw[z]at hk;cases hk
  obtain⟨c,hc⟩:=I.ok.has x (.inl hk)
  obtain⟨w',z⟩:=I.cell x c hc
  refine wpAny_storeName_cell I.ok.kind hk hc z (fun h' Ef hs=>?_)
  obtain⟨oc,O0,Qh⟩:=id z
  refine h { s with heap:=h' } ⟨I.ok,I.os,I.bare,⟨fun b o e n hb hx=>?_,fun b o e n hb hx=>?_,I.base.free,fun b o e hx=>?_,I.base.BX,I.base.BH,I.base.BI⟩,⟨m,hn.sameBut hs (Ne.symm (DP x c hc)),fun j y v' e1 e2 e3=>?_⟩,fun y c' e=>?_,I.free,I.Az,fun p hp=>?_,tracked ⟨oc,O0,I.Az x c hc⟩ hs,by simpa using I.len⟩ ⟨c,hs, .inr hc⟩
  ·exact(hs.2 b (ne_of_lt (lt_of_lt_of_le (lt_size e) (I.ok.FX x c Qg hc)))).trans (I.base.keep b o e n hb hx)
  ·obtain⟨sl,e1⟩:=I.base.slot b o e n hb hx
   exact⟨sl,(hs.2 b (ne_of_lt (lt_of_lt_of_le (lt_size e) (I.ok.FX x c Qg hc)))).trans e1⟩
  ·obtain⟨o',e1⟩:=I.base.there b o e hx
   exact⟨o',(hs.2 b (ne_of_lt (lt_of_lt_of_le (lt_size e) (I.ok.FX x c Qg hc)))).trans e1⟩
  ·by_cases hj:j=i
   ·subst hj
    rw[hi]at e1;cases e1
    rw[List.getElem?_set_self Ke]at e2
    cases e2
    exact⟨u,r, .inr ⟨.inl hk,c,hc,Ef⟩⟩
   ·rw[getElem?_set_ne (Ne.symm hj)]at e2
    obtain⟨u',r',q⟩:=hl j y v' e1 e2 e3
    refine⟨u',r',?_⟩
    rcases q with q | ⟨k,c',e,z'⟩
    ·exact .inl q
    ·refine .inr ⟨k,c',e,z'.sameBut hs ?_⟩
     rintro rfl
     exact hj (cC hN e1 (I.ok.inj _ _ _ e hc ▸ hi))
  ·by_cases Er:c' = c
   ·subst Er;exact⟨_,Ef⟩
   ·obtain⟨w2,z2⟩:=I.cell y c' e
    exact⟨w2,z2.sameBut hs Er⟩
  ·obtain⟨e,n,ne,nf,d⟩:=I.pin p hp
   refine⟨(hs.2 p.1 ?_).trans e,n,ne,nf,d⟩
   intro q
   rw[q,O0]at e
   have q':oc=p.2:=Option.some.inj e
   exact d w' (by rw[← q'];exact Qh)
theorem gy {M:Model}{A:Around}{E:Value->Shared->Prop}{i:Nat}{x:Str}{v:V}{u:Value}{Q:Unit->Shared->Prop}(I:Inv X pins σ H s)(hN:X.N.Nodup)(hi:X.N[i]? = some x)(hx:Loc X.env.scope x)(r:RelV v u)
  (h:∀ s',Inv X pins (σ.set i (some v)) H s'->Q () s') (hf:autoParam (X.fn x=true∨X.env.scope.names.lookup x=some .local) ζ):wpAny M A (storeName X.env x u) Q E s :=
 jW I hN hi hx r (fun s' I' _=>h s' I') hf
theorem Inv.FZ {s':Shared}{ch:List Addr}(I:Inv X pins σ H s)(ho:s'.os=s.os)(u:Un (j8 X.stack) ch H H' s.heap s'.heap)(zV:AY X.prog X.w H' s'.heap)(hg:AllBare s'.gens)
  (Cf:∀ b ∈ ch,(b ∈ X.ex∨X.s₀.heap.objs.size <= b)/\b ≠ X.env.locals/\(∀ x c,X.env.cells.lookup x=some c->c ≠ b)/\∀ p ∈ X.pn ++ pins,p.1 ≠ b):Inv X pins σ H' s':=by
 obtain⟨h',g',d',t',o'⟩:=s'
 have e:o' = s.os:=ho
 subst e
 exact I.call (g':=g') (t':=t') (d':=d') u zV hg Cf
end
abbrev XK:=Value->Option Addr->Hp->Prop
abbrev St:=List (Option V)
abbrev VK:=V->Hp->Prop
abbrev TE:=St->Hp->VK->Prop
abbrev TT:=St->Hp->(Bool->Hp->Prop)->Prop
abbrev TA:=St->Hp->(List V->Hp->Prop)->Prop
structure jS where
 nx:St->Hp->Prop
 rt:VK
 bk:St->Hp->Prop:=fun _ _=>False
 ct:St->Hp->Prop:=fun _ _=>False
abbrev TS:=jS->St->Hp->Prop
noncomputable def EP (X:Cx)(pins:List (Addr × Obj))(σ:St)(Q:VK)(u:Value)(s':Shared):Prop:=∃ v H',Inv X pins σ H' s'/\RelV v u/\Q v H'
noncomputable def TP (X:Cx)(pins:List (Addr × Obj))(σ:St)(Q:Bool->Hp->Prop)(b:Bool)(s':Shared):Prop:=∃ H',Inv X pins σ H' s'/\Q b H'
noncomputable def AP (X:Cx)(pins:List (Addr × Obj))(σ:St)(Q:List V->Hp->Prop)(us:List Value)(s':Shared):Prop:=∃ vs H',Inv X pins σ H' s'/\Vals vs us/\Q vs H'
noncomputable def SP (X:Cx)(pins:List (Addr × Obj))(D:jS)(f:Flow)(s':Shared):Prop :=
 match f with
 | .next=>∃ σ' H',Inv X pins σ' H' s'/\D.nx σ' H'
 | .brk=>∃ σ' H',Inv X pins σ' H' s'/\D.bk σ' H'
 | .cont=>∃ σ' H',Inv X pins σ' H' s'/\D.ct σ' H'
 | .ret u=>∃ v σ' H',Inv X pins σ' H' s'/\RelV v u/\D.rt v H'
noncomputable def PE (X:Cx)(e:Expr)(t:TE):Prop :=
 ∀ (pins:List (Addr × Obj))(s:Shared)(σ:St)(H:Hp)(Q:VK),Inv X pins σ H s->t σ H Q->wpAny (model X.prog X.w) X.A (eval e X.env) (EP X pins σ Q) X.xe s
noncomputable def PT (X:Cx)(e:Expr)(t:TT):Prop :=
 ∀ (pins:List (Addr × Obj))(s:Shared)(σ:St)(H:Hp)(Q:Bool->Hp->Prop),Inv X pins σ H s->t σ H Q->wpAny (model X.prog X.w) X.A (isTrue e X.env (eval e X.env)) (TP X pins σ Q) X.xe s
noncomputable def PW (X:Cx)(e:Expr)(t:TT):Prop :=
 ∀ (whole:Sem Value)(pins:List (Addr × Obj))(s:Shared)(σ:St)(H:Hp)(Q:Bool->Hp->Prop),Inv X pins σ H s->t σ H Q->wpAny (model X.prog X.w) X.A (isTrue e X.env whole) (TP X pins σ Q) X.xe s
theorem PW.pt {X:Cx}{e:Expr}{t:TT}(h:PW X e t):PT X e t:=h _
noncomputable def PA (X:Cx)(es:List Expr)(t:TA):Prop :=
 ∀ (pos:Pos)(pins:List (Addr × Obj))(s:Shared)(σ:St)(H:Hp)(Q:List V->Hp->Prop),Inv X pins σ H s->t σ H Q->wpAny (model X.prog X.w) X.A (spliced (backTo pos (starEach es X.env))) (AP X pins σ Q) X.xe s
noncomputable def PS (X:Cx)(st:Stmt)(t:TS):Prop :=
 ∀ (pins:List (Addr × Obj))(s:Shared)(σ:St)(H:Hp)(D:jS),Inv X pins σ H s->t D σ H->wpAny (model X.prog X.w) X.A (exec st X.env) (SP X pins D) X.xe s
noncomputable def BB (X:Cx)(st:List Stmt)(t:TS):Prop :=
 ∀ (pins:List (Addr × Obj))(s:Shared)(σ:St)(H:Hp)(D:jS),Inv X pins σ H s->t D σ H->wpAny (model X.prog X.w) X.A (execs st X.env) (SP X pins D) X.xe s
theorem aP {α:Type}{t:Sem α}{Q Q':α->Shared->Prop}{M:Model}{A:Around}{E:Value->Shared->Prop}{s:Shared}(h:wpAny M A t Q E s)(hQ:∀ a s,Q a s->Q' a s):wpAny M A t Q' E s:=wpAny_mono h hQ fun _ _ x=>x
section
variable {X:Cx}
noncomputable def q5 (i:Nat):TE:=fun σ H Q=>∃ v,σ[i]? = some (some v)/\Q v H
noncomputable def tC (v:V):TE:=fun _ H Q=>Q v H
theorem tR {i:Nat}{x:Str}{pos:Pos}(hN:X.N[i]? = some x)(hv:Kc X.env.scope x)(hd:autoParam ((x == ("__debug__":Str))=false) θ)(B6:autoParam ((x == ("__classdict__":Str))=false) θ):PE X (.Name x pos) (q5 i):=by
 intro pins s σ H Q I h
 obtain⟨v,e,h⟩:=h
 obtain⟨m,hn,hl⟩:=I.loc
 obtain⟨u,r,l⟩:=hl i x v hN e hv
 have fin:EP X pins σ Q u s:=⟨v,H,I,r,h⟩
 rcases l with ⟨hk,hm⟩ | ⟨hk,c,hc,BC⟩
 ·exact wpAny_Name (wpAny_loadName_local I.ok.kind hk hn hm fin) hd
 ·rcases hk with hk | hk
  ·exact wpAny_Name (wpAny_loadName_cell I.ok.kind hk hc BC fin) hd
  ·exact wpAny_Name (wpAny_loadName_free I.ok.kind hk hc BC fin B6) hd
theorem aj {i j pos}:PE X (.Constant (.int i) j pos) (tC (.int i)):=fun _ _ _ H _ I h=>wpAny_Constant_int ⟨.int i,H,I.tok _,⟨_,rfl⟩,h⟩
theorem jt {b j pos}:PE X (.Constant (.bool b) j pos) (tC (.bl b)):=fun _ _ _ H _ I h=>Constant_bool ⟨.bl b,H,I,rfl,h⟩
theorem cu {j pos}:PE X (.Constant .none j pos) (tC .Af):=fun _ _ _ H _ I h=>Constant_none ⟨.Af,H,I,rfl,h⟩
theorem b0 {x j pos}:PE X (.Constant (.str x) j pos) (tC (.str x)):=fun _ _ _ H _ I h=>Calls.Constant_str ⟨.str x,H,I.tok _,⟨_,rfl⟩,h⟩
noncomputable def Gl (X:Cx)(x:Str):Prop:=X.env.kindOf x=some .globalImplicit
theorem fM {E:Value->Shared->Prop}{pins:List (Addr × Obj)}{s:Shared}{σ:St}{H:Hp}{x:Str}{u:Value}{pos:Pos}{Q:Value->Shared->Prop}(I:Inv X pins σ H s)(hg:Gl X x)(hm:X.mg x=some u)(h:Q u s)
  (hd:autoParam ((x == ("__debug__":Str))=false) θ):wpAny (model X.prog X.w) X.A (eval (.Name x pos) X.env) Q E s :=
 Calls.Name_function_global I.ok.kind hg (Calls.loadGlobal_global (by rw[I.ok.glob];exact I.mod.glob.keeps I.bk) hm h) hd
theorem iw {E:Value->Shared->Prop}{pins:List (Addr × Obj)}{s:Shared}{σ:St}{H:Hp}{x:Str}{u:Value}{pos:Pos}{Q:Value->Shared->Prop}(I:Inv X pins σ H s)(hg:Gl X x)(hm:X.mg x=none)(hv:bootBuiltins x=some u)(h:Q u s)
  (hn:autoParam (x ≠ "__name__") θ) (hd:autoParam ((x == ("__debug__":Str))=false) θ):wpAny (model X.prog X.w) X.A (eval (.Name x pos) X.env) Q E s:=by
 obtain⟨mb,h1,h2⟩:=I.mod.blt
 exact Calls.Name_function_global I.ok.kind hg (Calls.loadGlobal_builtin (by rw[I.ok.glob];exact I.mod.glob.keeps I.bk) hm (by rw[I.ok.blt];exact h1.keeps I.bk) ((h2 x hn).trans hv) h) hd
theorem eA {x:Str}{v:V}{u:Value}{pos:Pos}(hg:Gl X x)(hm:X.mg x=some u)(r:RelV v u)(hd:autoParam ((x == ("__debug__":Str))=false) θ):PE X (.Name x pos) (tC v) :=
 fun _ _ _ H _ I h=>fM I hg hm ⟨v,H,I,r,h⟩ hd
theorem fJ {x:Str}{v:V}{u:Value}{pos:Pos}(hg:Gl X x)(hm:X.mg x=none)(hv:bootBuiltins x=some u)(r:RelV v u)(hn:autoParam (x ≠ "__name__") θ)(hd:autoParam ((x == ("__debug__":Str))=false) θ):PE X (.Name x pos) (tC v) :=
 fun _ _ _ H _ I h=>iw I hg hm hv ⟨v,H,I,r,h⟩ hn hd
variable {a b:Expr}{ta tb:TE}{pos:Pos}
noncomputable def PC (X:Cx)(op:CmpOp)(a b:Expr)(t:TE):Prop :=
 ∀ (pins:List (Addr × Obj))(s:Shared)(σ:St)(H:Hp)(Q:VK),Inv X pins σ H s->t σ H Q ->
  wpAny (model X.prog X.w) X.A (eval a X.env) (fun v s₁=>wpAny (model X.prog X.w) X.A (eval b X.env) (fun u s₂=>wpAny (model X.prog X.w) X.A (compareOp op v u) (EP X pins σ Q) X.xe s₂) X.xe s₁) X.xe s
noncomputable def tB (t:TE):TT:=fun σ H Q=>t σ H fun x H1=>∃ c,x = .bl c/\Q c H1
theorem tM {op:CmpOp}{t:TE}(h:PC X op a b t)(h1:behindInMarks op b=false:=by first | exact Kf _ (by decide) (by decide) | rfl):PT X (.Compare a [op] [b] pos) (tB t):=by
 intro pins s σ H Q I hw
 refine wpAny_isTrue_Compare1 (aP (h pins s σ H _ I hw) fun v s1 h1=>aP h1 fun u s2 h2=>aP h2 fun c s3 zS=>?_) h1
 obtain⟨x,H1,I1,r1,q1⟩:=zS
 obtain⟨d,rfl,q⟩:=q1
 cases r1
 exact wpAny_truthy_bool ⟨H1,I1,q⟩
theorem bJ {e:Expr}{t:TE}(h:PE X e t)(he:autoParam (∀ whole,isTrue e X.env whole=(do let v ← whole;standAt e.pos;holding [v] (truthy v))) ψ):PT X e (tB t):=by
 intro pins s σ H Q I hw
 refine isTrue_plain (aP (h pins s σ H _ I hw) fun v s1 zS=>?_) (he _)
 obtain⟨x,H1,I1,r1,q1⟩:=zS
 obtain⟨d,rfl,q⟩:=q1
 cases r1
 exact wpAny_truthy_bool ⟨H1,I1,q⟩
variable {tA O1:TT}{rest:List Expr}
noncomputable def Qi (t u:TT):TT:=fun σ H Q=>t σ H fun c H1=>if c=true then u σ H1 Q else Q false H1
noncomputable def tOr (t u:TT):TT:=fun σ H Q=>t σ H fun c H1=>if c=true then Q true H1 else u σ H1 Q
noncomputable def Qj (t:TT):TT:=fun σ H Q=>t σ H fun c H1=>Q (!c) H1
theorem iQ (ha:PT X a tA):PW X (.BoolOp .And [a] pos) tA:=by
 intro wh pins s σ H Q I h
 refine isTrue_and (aP (ha pins s σ H Q I h) fun c s1 e=>?_)
 cases c with
 | true=>exact isTrue_and_nil e
 | false=>exact e
theorem dZ (ha:PT X a tA):PW X (.BoolOp .Or [a] pos) tA:=by
 intro wh pins s σ H Q I h
 refine isTrue_or (aP (ha pins s σ H Q I h) fun c s1 e=>?_)
 cases c with
 | false=>exact isTrue_or_nil e
 | true=>exact e
theorem lj (ha:PT X a tA)(hb:PW X (.BoolOp .And (b :: rest) pos) O1):PW X (.BoolOp .And (a :: b :: rest) pos) (Qi tA O1):=by
 intro wh pins s σ H Q I h
 refine isTrue_and (aP (ha pins s σ H _ I h) fun c s1 zS=>?_)
 obtain⟨H1,I1,q1⟩:=zS
 cases c with
 | true=>exact hb wh pins s1 σ H1 Q I1 q1
 | false=>exact⟨H1,I1,q1⟩
theorem gL (ha:PT X a tA)(hb:PW X (.BoolOp .Or (b :: rest) pos) O1):PW X (.BoolOp .Or (a :: b :: rest) pos) (tOr tA O1):=by
 intro wh pins s σ H Q I h
 refine isTrue_or (aP (ha pins s σ H _ I h) fun c s1 zS=>?_)
 obtain⟨H1,I1,q1⟩:=zS
 cases c with
 | true=>exact⟨H1,I1,q1⟩
 | false=>exact hb wh pins s1 σ H1 Q I1 q1
theorem ca (ha:PT X a tA):PT X (.UnaryOp .Not a pos) (Qj tA):=by
 intro pins s σ H Q I h
 exact isTrue_not (ha pins s σ H (fun c H1=>Q (!c) H1) I h)
noncomputable def Kg (ta tb:TE):TE:=fun σ H Q=>ta σ H fun x H1=>∃ c,x = .bl c/\if c=true then tb σ H1 Q else Q (.bl false) H1
noncomputable def Qk (ta tb:TE):TE:=fun σ H Q=>ta σ H fun x H1=>∃ c,x = .bl c/\if c=true then Q (.bl true) H1 else tb σ H1 Q
noncomputable def Kh (ta:TE):TE:=fun σ H Q=>ta σ H fun x H1=>∃ c,x = .bl c/\Q (.bl (!c)) H1
theorem dz {op} {t:TE} (h:PE X a t):PE X (.BoolOp op [a] pos) t:=fun pins s σ H Q I hw=>BoolOp_one (h pins s σ H Q I hw)
theorem dA (ha:PE X a ta)(hb:PE X (.BoolOp .And (b :: rest) pos) tb):PE X (.BoolOp .And (a :: b :: rest) pos) (Kg ta tb):=by
 intro pins s σ H Q I h
 refine BoolOp_and (aP (ha pins s σ H _ I h) fun v s1 zS=>?_)
 obtain⟨x,H1,I1,r1,q1⟩:=zS
 obtain⟨c,rfl,q1⟩:=q1
 cases r1
 refine wpAny_truthy_bool ?_
 cases c with
 | true=>exact hb pins s1 σ H1 Q I1 q1
 | false=>exact⟨.bl false,H1,I1,rfl,q1⟩
theorem Ki (ha:PE X a ta)(hb:PE X (.BoolOp .Or (b :: rest) pos) tb):PE X (.BoolOp .Or (a :: b :: rest) pos) (Qk ta tb):=by
 intro pins s σ H Q I h
 refine BoolOp_or (aP (ha pins s σ H _ I h) fun v s1 zS=>?_)
 obtain⟨x,H1,I1,r1,q1⟩:=zS
 obtain⟨c,rfl,q1⟩:=q1
 cases r1
 refine wpAny_truthy_bool ?_
 cases c with
 | false=>exact hb pins s1 σ H1 Q I1 q1
 | true=>exact⟨.bl true,H1,I1,rfl,q1⟩
theorem tS (ha:PE X a ta):PE X (.UnaryOp .Not a pos) (Kh ta):=by
 intro pins s σ H Q I h
 refine UnaryOp_ (aP (ha pins s σ H _ I h) fun v s1 zS=>?_)
 obtain⟨x,H1,I1,r1,q1⟩:=zS
 obtain⟨c,rfl,q1⟩:=q1
 cases r1
 exact not_of (wpAny_truthy_bool ⟨.bl (!c),H1,I1,rfl,q1⟩)
noncomputable def tIf (t:TT)(ta tb:TE):TE:=fun σ H Q=>t σ H fun c H1=>if c=true then ta σ H1 Q else tb σ H1 Q
theorem c9 {c:Expr}(hc:PT X c tA)(ha:PE X a ta)(hb:PE X b tb):PE X (.IfExp c a b pos) (tIf tA ta tb):=by
 intro pins s σ H Q I h
 refine wpAny_IfExp (aP (hc pins s σ H _ I h) fun d s1 zS=>?_)
 obtain⟨H1,I1,q1⟩:=zS
 cases d with
 | true=>exact ha pins s1 σ H1 Q I1 q1
 | false=>exact hb pins s1 σ H1 Q I1 q1
end
noncomputable def zU (K:Frag)(H:Hp)(a:Addr)(xs:List V):Prop :=
 Rd H a (.lst xs) ∨
  ∃ (o:Obj)(zT:Array Value)(n:Nat),K.lookup a=some o/\o.cls = .type "list"/\o.dict=none/\o.data = .seq zT n/\zT.size <= sizeLine/\Vals xs zT.toList
noncomputable def Ab (K:Frag)(H:Hp)(a:Addr)(xs:List V):Prop :=
 Rd H a (.tup xs) ∨
  ∃ (o:Obj)(zT:Array Value)(n:Nat),K.lookup a=some o/\o.cls = .type "tuple"/\o.data = .seq zT n/\zT.size <= sizeLine/\Vals xs zT.toList
noncomputable def Ql:Value->Option V
 | .none=>some .Af
 | .bool b=>some (.bl b)
 | .int i _=>some (.int i)
 | .str x _=>some (.str x)
 | .bytes b _=>some (.D9 b)
 | .float b _=>some (.HM b)
 | .ref a=>some (.ref a)
 | .type n=>some (.ty n)
 | _=>none
theorem RelV.abs {x:V}{u:Value}(r:RelV x u):Ql u=some x:=by
 cases x with
 | Af=>cases r;rfl
 | bl _=>cases r;rfl
 | int _=>obtain⟨t,rfl⟩:=r;rfl
 | str _=>obtain⟨t,rfl⟩:=r;rfl
 | D9 _=>obtain⟨t,rfl⟩:=r;rfl
 | HM _=>obtain⟨t,rfl⟩:=r;rfl
 | ref _=>cases r;rfl
 | ty _=>cases r;rfl
theorem RelV.inj {x y:V}{u:Value}(r:RelV x u)(q:RelV y u):x=y:=Option.some.inj (r.abs.symm.trans q.abs)
theorem Vals.inj:∀ {xs ys:List V}{us:List Value},Vals xs us->Vals ys us->xs=ys
 | _,_,_, .nil, .nil=>rfl
 | _,_,_, .cons r t, .cons r' t'=>by rw[r.inj r',Vals.inj t t']
section
variable {X:Cx}{pins:List (Addr × Obj)}{σ:St}{H:Hp}{s:Shared}{a:Addr}{xs ys:List V}
theorem zU.of {K:Frag}(h:H a=some (.lst xs)):zU K H a xs := .inl (.inl h)
theorem Ab.of {K:Frag}(h:H a=some (.tup xs)):Ab K H a xs := .inl (.inl h)
theorem Inv.list (I:Inv X pins σ H s)(h:zU X.K H a xs):∃ zT:List Value,Vals xs zT/\PlainL s.heap a zT.toArray/\xs.length <= sizeLine:=by
 rcases h with h | ⟨o,zT,n,hk,hc,hd,hs,hz,r⟩
 ·obtain⟨z,zT,n,r,e⟩:=h.ok I.zV
  exact⟨zT,r,⟨_,n,e,rfl,rfl,rfl⟩,z⟩
 ·refine⟨zT.toList,r,⟨o,n,I.AQ a o hk,hc,hd,by simpa using hs⟩,?_⟩
  have e:=r.length
  simp only[Array.length_toList]at e
  omega
theorem Inv.tuple (I:Inv X pins σ H s)(h:Ab X.K H a xs):∃ zT:List Value,Vals xs zT/\IsTup s.heap a zT.toArray/\xs.length <= sizeLine:=by
 rcases h with h | ⟨o,zT,n,hk,hc,hs,hz,r⟩
 ·obtain⟨z,zT,r,p⟩:=h.ok I.zV
  exact⟨zT,r,p.isTup,z⟩
 ·refine⟨zT.toList,r,⟨o,I.AQ a o hk,hc,n,by simpa using hs⟩,?_⟩
  have e:=r.length
  simp only[Array.length_toList]at e
  omega
theorem Inv.CO (I:Inv X pins σ H s)(h:zU X.K H a xs)(h':zU X.K H a ys):xs=ys:=by
 obtain⟨zT,r,⟨o,n,e,_,_,d⟩,_⟩:=I.list h
 obtain⟨its',r',⟨o',n',e',_,_,d'⟩,_⟩:=I.list h'
 rw[e]at e';cases e'
 rw[d]at d'
 injection d' with d1 _
 have:zT=its':=by simpa using congrArg Array.toList d1
 subst this
 exact r.inj r'
theorem Inv.Cq (I:Inv X pins σ H s)(h:Ab X.K H a xs)(h':Ab X.K H a ys):xs=ys:=by
 obtain⟨zT,r,⟨o,e,_,n,d⟩,_⟩:=I.tuple h
 obtain⟨its',r',⟨o',e',_,n',d'⟩,_⟩:=I.tuple h'
 rw[e]at e';cases e'
 rw[d]at d'
 injection d' with d1 _
 have:zT=its':=by simpa using congrArg Array.toList d1
 subst this
 exact r.inj r'
end
noncomputable abbrev Cx.Ck (X:Cx)(E:Value->Shared->Prop):Cx:={ X with xe:=E }
noncomputable abbrev Cx.Gj (X:Cx):Cx:=X.Ck fun _ _=>False
theorem Cx.Ok.Ck {X:Cx}(ok:X.Ok)(E:Value->Shared->Prop):(X.Ck E).Ok :=
 ⟨ok.mod,ok.kind,ok.glob,ok.blt,ok.above,ok.inj,ok.has,ok.FX,ok.hd,ok.frames,ok.Jo,ok.Ox,ok.bs,ok.Ee,ok.Dm,ok.DO,ok.Bl,ok.ET⟩
theorem Cx.Ok.Bc {X:Cx}{E:Value->Shared->Prop}(ok:(X.Ck E).Ok):X.Ok :=
 ⟨ok.mod,ok.kind,ok.glob,ok.blt,ok.above,ok.inj,ok.has,ok.FX,ok.hd,ok.frames,ok.Jo,ok.Ox,ok.bs,ok.Ee,ok.Dm,ok.DO,ok.Bl,ok.ET⟩
section
variable {X:Cx}{pins:List (Addr × Obj)}{σ:St}{H:Hp}{s:Shared}{E:Value->Shared->Prop}
theorem Inv.Ck (I:Inv X pins σ H s)(E:Value->Shared->Prop):Inv (X.Ck E) pins σ H s:=⟨I.ok.Ck E,I.os,I.bare,I.base,I.loc,I.cell,I.free,I.Az,I.pin,I.zV,I.len⟩
theorem Inv.Bc (I:Inv (X.Ck E) pins σ H s):Inv X pins σ H s:=⟨I.ok.Bc,I.os,I.bare,I.base,I.loc,I.cell,I.free,I.Az,I.pin,I.zV,I.len⟩
theorem SP.Bc {D:jS}{f:Flow}{s':Shared}(h:SP (X.Ck E) pins D f s'):SP X pins D f s':=by
 cases f with
 | next=>obtain⟨σ',H',I,q⟩:=h;exact⟨σ',H',I.Bc,q⟩
 | brk=>obtain⟨σ',H',I,q⟩:=h;exact⟨σ',H',I.Bc,q⟩
 | cont=>obtain⟨σ',H',I,q⟩:=h;exact⟨σ',H',I.Bc,q⟩
 | ret u=>obtain⟨v,σ',H',I,r,q⟩:=h;exact⟨v,σ',H',I.Bc,r,q⟩
theorem BB.Gj {st:List Stmt}{t:TS}(h:BB X.Gj st t):BB X st t:=fun pins s σ H D I hw =>
 wpAny_mono (h pins s σ H D (I.Ck _) hw) (fun _ _ q=>q.Bc) fun _ _ z=>False.elim z
end
section
variable {X:Cx}{st:Stmt}{rest:List Stmt}{t u:TS}{e:Expr}{te:TE}{pos:Pos}
noncomputable def Kj:TS:=fun D σ H=>D.nx σ H
noncomputable def xL (t u:TS):TS:=fun D σ H=>t { D with nx:=u D } σ H
theorem aH:BB X [] Kj:=fun _ _ σ H _ I h=>wpAny_execs_nil ⟨σ,H,I,h⟩
theorem af (h1:PS X st t)(h2:BB X rest u):BB X (st :: rest) (xL t u):=by
 intro pins s σ H D I h
 refine wpAny_execs_cons (aP (h1 pins s σ H { D with nx:=u D } I h) fun f s1 q=>?_)
 cases f with
 | next =>
  obtain⟨σ',H',I',q⟩:=q
  exact h2 pins s1 σ' H' D I' q
 | ret v=>exact q
 | brk=>exact q
 | cont=>exact q
theorem ai (h1:PS X st t):BB X [st] t:=by
 intro pins s σ H D I h
 refine wpAny_execs_cons (aP (h1 pins s σ H D I h) fun f s1 q=>?_)
 cases f with
 | next=>exact wpAny_execs_nil q
 | ret v=>exact q
 | brk=>exact q
 | cont=>exact q
theorem Inv.quiet {pins:List (Addr × Obj)}{σ:St}{H:Hp}{s:Shared}(I:Inv X pins σ H s):interactive X.env=false:=by simp[interactive,I.ok.kind]
noncomputable def Kk (te:TE):TS:=fun D σ H=>te σ H fun _ H1=>D.nx σ H1
theorem aM (he:PE X e te)(hs:autoParam (swapsWith e none pos.line X.env=pure false) η):PS X (.Expr e pos) (Kk te):=by
 intro pins s σ H D I h
 exact wpAny_Expr_any (aP (he pins s σ H _ I h) fun v s1 zS=>by obtain⟨x,H1,I1,r1,q1⟩:=zS;exact⟨σ,H1,I1,q1⟩) I.quiet hs
noncomputable def Qm (te:TE):TS:=fun D σ H=>te σ H D.rt
theorem ar (he:PE X e te):PS X (.Return (some e) pos) (Qm te):=by
 intro pins s σ H D I h
 exact wpAny_Return_some (aP (he pins s σ H _ I h) fun v s1 zS=>by obtain⟨x,H1,I1,r1,q1⟩:=zS;exact⟨x,σ,H1,I1,r1,q1⟩)
noncomputable def Qn (c:TT)(t u:TS):TS:=fun D σ H=>c σ H fun b H1=>if b=true then t D σ H1 else u D σ H1
theorem aQ {c:Expr}{a b:List Stmt}{tc:TT}(hc:PT X c tc)(ha:BB X a t)(hb:BB X b u):PS X (.If c a b pos) (Qn tc t u):=by
 intro pins s σ H D I h
 refine wpAny_If (aP (hc pins s σ H _ I h) fun d s1 zS=>?_)
 obtain⟨H1,I1,q1⟩:=zS
 cases d with
 | true=>exact ha pins s1 σ H1 D I1 q1
 | false=>exact hb pins s1 σ H1 D I1 q1
end
abbrev TG:=V->St->Hp->(St->Hp->Prop)->Prop
abbrev zK:=List V->St->Hp->(St->Hp->Prop)->Prop
noncomputable def PG (X:Cx)(target:Expr)(t:TG):Prop :=
 ∀ (pins:List (Addr × Obj))(s:Shared)(σ:St)(H:Hp)(v:V)(u:Value)(Q:St->Hp->Prop),Inv X pins σ H s->RelV v u->t v σ H Q ->
  wpAny (model X.prog X.w) X.A (assign target X.env u) (fun _ s'=>∃ σ' H',Inv X pins σ' H' s'/\Q σ' H') X.xe s
noncomputable def O2 (X:Cx)(ts:List Expr)(t:zK):Prop :=
 ∀ (pins:List (Addr × Obj))(s:Shared)(σ:St)(H:Hp)(vs:List V)(us:List Value)(Q:St->Hp->Prop),Inv X pins σ H s->Vals vs us->t vs σ H Q ->
  wpAny (model X.prog X.w) X.A (assignInOrder ((assignEach ts X.env).map (·.2)) us) (fun _ s'=>∃ σ' H',Inv X pins σ' H' s'/\Q σ' H') X.xe s
abbrev zJ:=V->V->V->Hp->(Hp->Prop)->Prop
noncomputable def Kl (X:Cx)(t:zJ):Prop :=
 ∀ (pins:List (Addr × Obj))(s:Shared)(σ:St)(H:Hp)(o i v:V)(ov iv u:Value)(Q:Hp->Prop),Inv X pins σ H s->RelV o ov->RelV i iv->RelV v u->t o i v H Q ->
  wpAny (model X.prog X.w) X.A (setItem ov iv u) (fun _ s'=>∃ H',Inv X pins σ H' s'/\Q H') X.xe s
abbrev O3:=V->V->Hp->VK->Prop
noncomputable def V2 (X:Cx)(op:Operator)(t:O3):Prop :=
 ∀ (pins:List (Addr × Obj))(s:Shared)(σ:St)(H:Hp)(x y:V)(v u:Value)(Q:VK),Inv X pins σ H s->RelV x v->RelV y u->t x y H Q ->
  wpAny (model X.prog X.w) X.A (inplaceOp op v u) (EP X pins σ Q) X.xe s
section
variable {X:Cx}{pos:Pos}
noncomputable def eK (i:Nat):TG:=fun v σ H Q=>Q (σ.set i (some v)) H
theorem ax {i:Nat}{x:Str}(hN:X.N.Nodup)(hi:X.N[i]? = some x)(hx:Loc X.env.scope x)(hf:autoParam (X.fn x=true∨X.env.scope.names.lookup x=some .local) ζ):PG X (.Name x pos) (eK i):=by
 intro pins s σ H v u Q I r h
 exact wpAny_assign_Name (gy I hN hi hx r (fun s' I'=>⟨_,H,I',h⟩) hf)
noncomputable def Qo:zK:=fun vs σ H Q=>vs=[]/\Q σ H
noncomputable def Km (t:TG)(u:zK):zK:=fun vs σ H Q=>∃ v r,vs=v :: r/\t v σ H fun σ' H'=>u r σ' H' Q
theorem fH:O2 X [] Qo:=by
 intro pins s σ H vs us Q I r h
 obtain⟨e,h⟩:=h
 subst e
 cases r
 exact assignInOrder_nil ⟨σ,H,I,h⟩
theorem bG {e:Expr}{es:List Expr}{t:TG}{u:zK}(h1:PG X e t)(h2:O2 X es u)
  (hs:autoParam ((assignEach (e :: es) X.env).map (·.2)=assign e X.env :: (assignEach es X.env).map (·.2)) η):O2 X (e :: es) (Km t u):=by
 intro pins s σ H vs us Q I r h
 obtain⟨v,vr,e1,h⟩:=h
 subst e1
 cases r with
 | cons r rr =>
  rw[hs]
  refine assignInOrder_cons (aP (h1 pins s σ H _ _ _ I r h) fun _ s1 zS=>?_)
  obtain⟨σ1,H1,I1,q1⟩:=zS
  exact h2 pins s1 σ1 H1 _ _ Q I1 rr q1
noncomputable def wP (K:Frag)(n:Nat)(t:zK):TG:=fun v σ H Q=>∃ a xs,v = .ref a/\Ab K H a xs/\xs.length=n/\t xs σ H Q
theorem il {es:List Expr}{k:Nat}{t:zK}{n:Nat}(hc:X.calm=true)(h:O2 X es t)
  (hn:autoParam ((assignEach es X.env).length=n) η) (Dn:autoParam ((assignEach es X.env).findIdx? (·.1)=none) η):PG X (.Tuple es k pos) (wP X.K n t):=by
 intro pins s σ H v u Q I r hw
 obtain⟨a,xs,e1,hq,hl,hw⟩:=hw
 subst e1
 cases r
 obtain⟨zT,rv,ht,hz⟩:=I.tuple hq
 refine assign_Tuple_tuple (I.ok.hd hc) ht (by simp[hn,← hl,rv.length]) Dn fun h' hx=>?_
 have I1:Inv X pins σ H { s with heap:=h' }:=I.kept (t':=s.toks) fun b o e=>hx b o (ne_of_lt (lt_size e)) e
 exact h pins _ σ H xs _ Q I1 (by simpa using rv) hw
noncomputable def Qp (to ti:TE)(t:zJ):TG:=fun v σ H Q=>to σ H fun o H1=>ti σ H1 fun i H2=>t o i v H2 fun H3=>Q σ H3
theorem oH {o i:Expr}{to ti:TE}{t:zJ}(ho:PE X o to)(hi:PE X i ti)(hs:Kl X t)
  (ha:∀ v,assign (.Subscript o i pos) X.env v=(do
   let ov ← holding [v] (eval o X.env)
   let iv ← holding [v,ov] (eval i X.env)
   standAt pos
   holding [v,ov,iv] (setItem ov iv v)
   release [v,ov,iv] []):=by intro _;rfl):PG X (.Subscript o i pos) (Qp to ti t):=by
 intro pins s σ H v u Q I r h
 rw[ha]
 refine wpAny_bind (wpAny_holding (aP (ho pins s σ H _ I h) fun ov s1 zS=>?_))
 obtain⟨x,H1,I1,r1,q1⟩:=zS
 refine wpAny_bind (wpAny_holding (aP (hi pins s1 σ H1 _ I1 q1) fun iv s2 zS=>?_))
 obtain⟨y,H2,I2,r2,q2⟩:=zS
 refine wpAny_bind (wpAny_standAt (wpAny_bind (wpAny_holding (aP (hs pins s2 σ H2 x y v ov iv u _ I2 r1 r2 r q2) fun _ s3 zS=>?_))))
 obtain⟨H3,I3,q3⟩:=zS
 exact wpAny_release ⟨σ,H3,I3,q3⟩
noncomputable def xX (te:TE)(g:TG):TS:=fun D σ H=>te σ H fun x H1=>g x σ H1 D.nx
theorem lp {tg e:Expr}{te:TE}{g:TG}(he:PE X e te)(hg:PG X tg g)(hs:autoParam (swapsWithSole [tg] e pos.line X.env=pure false) η)(hw:autoParam (swappedStores [tg] e X.env=pure none) η)
  (h1:autoParam ((assignEach [tg] X.env).map (·.2)=[assign tg X.env]) η):PS X (.Assign [tg] e pos) (xX te g):=by
 intro pins s σ H D I h
 refine wpAny_Assign_stores (aP (he pins s σ H _ I h) fun v s1 zS=>?_) hs hw
 obtain⟨x,H1,I1,r1,q1⟩:=zS
 rw[h1]
 exact aP (hg pins s1 σ H1 x v _ I1 r1 q1) fun _ s2 q=>q
theorem aC {i:Nat}{x:Str}{e:Expr}{te:TE}{pos':Pos}(hN:X.N.Nodup)(hi:X.N[i]? = some x)(hx:Loc X.env.scope x)(he:PE X e te)(hs:autoParam (swapsWith e (some (.Name x pos')) pos.line X.env=pure false) η)(hf:autoParam (X.fn x=true∨X.env.scope.names.lookup x=some .local) ζ) :
  PS X (.Assign [.Name x pos'] e pos) (xX te (eK i)):=by
 intro pins s σ H D I h
 refine wpAny_Assign_Name (aP (he pins s σ H _ I h) fun v s1 zS=>?_) hs
 obtain⟨y,H1,I1,r1,q1⟩:=zS
 exact gy I1 hN hi hx r1 (fun s2 I2=>⟨_,H1,I2,q1⟩) hf
noncomputable def Qq (i:Nat)(te:TE)(ti:O3):TS:=fun D σ H=>∃ x,σ[i]? = some (some x)/\te σ H fun y H1=>ti x y H1 fun z H2=>D.nx (σ.set i (some z)) H2
theorem y4 {i:Nat}{x:Str}{e:Expr}{te:TE}{op:Operator}{ti:O3}{pos':Pos}(hN:X.N.Nodup)(hi:X.N[i]? = some x)(hx:Loc X.env.scope x)(he:PE X e te)(ho:V2 X op ti)(hf:autoParam (X.fn x=true∨X.env.scope.names.lookup x=some .local) ζ) :
  PS X (.AugAssign (.Name x pos') op e pos) (Qq i te ti):=by
 intro pins s σ H D I h
 obtain⟨v,e1,h⟩:=h
 obtain⟨m,hn,hl⟩:=I.loc
 have vis:Kc X.env.scope x:=by rcases hx with k | k;exact .inl k;exact .inr (.inl k)
 obtain⟨u,r,l⟩:=hl i x v hi e1 vis
 refine wpAny_AugAssign_Name ?_
 have go:wpAny (model X.prog X.w) X.A (eval e X.env) (fun w s₂=>wpAny (model X.prog X.w) X.A (inplaceOp op u w) (fun r s₃=>wpAny (model X.prog X.w) X.A (storeName X.env x r) (fun _=>SP X pins D .next) X.xe s₃) X.xe s₂) X.xe s:=by
  refine aP (he pins s σ H _ I h) fun w s1 zS=>?_
  obtain⟨y,H1,I1,r1,q1⟩:=zS
  refine aP (ho pins s1 σ H1 v y u w _ I1 r r1 q1) fun z s2 zS=>?_
  obtain⟨zv,H2,I2,r2,q2⟩:=zS
  exact gy I2 hN hi hx r2 (fun s3 I3=>⟨_,H2,I3,q2⟩) hf
 rcases l with ⟨hk,hm⟩ | ⟨hk,c,hc,BC⟩
 ·exact wpAny_loadName_local I.ok.kind hk hn hm go
 ·rcases hk with hk | hk
  ·exact wpAny_loadName_cell I.ok.kind hk hc BC go
  ·rcases hx with k | k
   ·have:X.env.scope.names.lookup x=some .free:=hk
    rw[k]at this;cases this
   ·have:X.env.scope.names.lookup x=some .free:=hk
    rw[k]at this;cases this
noncomputable def ipI (f:Int->Int->Int):O3:=fun x y H Q=>∃ i j,x = .int i/\y = .int j/\Q (.int (f i j)) H
theorem zi:V2 X .Add (ipI fun i j=>i + j):=by
 intro pins s σ H x y v u Q I r1 r2 h
 obtain⟨i,j,e1,e2,q⟩:=h
 subst e1;subst e2
 obtain⟨t,rfl⟩:=r1
 obtain⟨t',rfl⟩:=r2
 exact iadd_int ⟨.int _,H,I.tok _,⟨_,rfl⟩,q⟩
end
section
variable {X:Cx}{pos:Pos}
noncomputable def xK (c:TT)(tb:TS):TS:=fun D σ H=>∃ W:Nat->St->Hp->Prop,(∃ m,W m σ H)/\∀ m σ H,W m σ H ->
 c σ H fun b H1=>if b=true then ∃ N:St->Hp->Prop,(∀ σ' H',N σ' H'->∃ m',m' < m/\W m' σ' H')/\tb { D with nx:=N,ct:=N,bk:=D.nx } σ H1 else D.nx σ H1
theorem mj {c:Expr}{body:List Stmt}{tc:TT}{tb:TS}(hp:PassesOwn (model X.prog X.w) X.A X.env X.xe)(hc:PT X c tc)(hb:BB X body tb):PS X (.While c body [] pos) (xK tc tb):=by
 intro pins s σ H D I h
 obtain⟨W,⟨m0,w0⟩,turn⟩:=h
 refine wpAny_While (codeAny_whileLoop (fun n s'=>∃ σ' H',Inv X pins σ' H' s'/\W n σ' H') ?_ m0 ⟨σ,H,I,w0⟩)
 rintro n s1 ⟨σ1,H1,I1,w1⟩
 refine wpAny_passesOwn hp (aP (hc pins s1 σ1 H1 _ I1 (turn n σ1 H1 w1)) fun b s2 zS=>?_)
 obtain⟨H2,I2,q2⟩:=zS
 cases b with
 | true =>
  obtain⟨N,hN,q2⟩:=q2
  rw[if_pos rfl]
  refine wpAny_passesOwn hp (aP (hb pins s2 σ1 H2 _ I2 q2) fun f s3 q3=>?_)
  cases f with
  | next =>
   obtain⟨σ3,H3,I3,n3⟩:=q3
   obtain⟨m',hm,w3⟩:=hN σ3 H3 n3
   exact⟨m',hm,σ3,H3,I3,w3⟩
  | cont =>
   obtain⟨σ3,H3,I3,n3⟩:=q3
   obtain⟨m',hm,w3⟩:=hN σ3 H3 n3
   exact⟨m',hm,σ3,H3,I3,w3⟩
  | brk=>exact q3
  | ret v=>exact q3
 | false =>
  rw[if_neg Bool.false_ne_true]
  exact wpAny_execs_nil ⟨σ1,H2,I2,q2⟩
end
structure It where
 go:Nat->Hp->Prop
 EU:Nat->Hp->V->Hp->Prop
 stop:Nat->Hp->Prop
noncomputable def fQ (X:Cx)(pins:List (Addr × Obj))(H:Hp)(b:Addr):Prop :=
 H b=none/\b ≠ X.env.locals/\b ∉ X.fs/\(b ∈ X.ex∨X.s₀.heap.objs.size <= b)/\(∀ x c,X.env.cells.lookup x=some c->c ≠ b)/\∀ p ∈ X.pn ++ pins,p.1 ≠ b
theorem Inv.DQ {X:Cx}{pins:List (Addr × Obj)}{σ:St}{H H':Hp}{s:Shared}{b:Addr}(I:Inv X pins σ H s)(hb:s.heap.objs.size <= b)(hn:H' b=none):fQ X pins H' b:=by
 refine⟨hn,ne_of_gt (lt_of_lt_of_le I.lt hb),I.HP hb, .inr (le_trans I.sz hb),fun x c e z=>?_,fun p hp z=>?_⟩
 ·obtain⟨v,q⟩:=I.cell x c e
  exact absurd (lt_of_lt_of_le q.lt (by rw[z];exact hb)) (lt_irrefl _)
 ·exact absurd (lt_of_lt_of_le (lt_size (I.pin p hp).1) (by rw[z];exact hb)) (lt_irrefl _)
structure nG (P:Program)(w:World)(K:Frag)(tg:Expr)(J:It)(fp:List Addr)(it:Addr)(tn:Nat->Heap->Prop):Prop where
 mem:it ∈ fp
 obj:∀ i h,tn i h->∀ b ∈ fp,∃ o,h.get? b=some o/\∀ v,o.data ≠ .cell v
 keep:∀ i h h',tn i h->(∀ b ∈ fp,∀ o,h.get? b=some o->h'.get? b=some o)->tn i h'
 item:∀ (X:Cx),X.prog=P->X.w=w->X.K=K->X.calm=true->∀ (i:Nat)(pins:List (Addr × Obj))(s:Shared)(σ:St)(H:Hp)(E:Value->Shared->Prop),Inv X pins σ H s->(∀ b ∈ fp,fQ X pins H b)->tn i s.heap->J.go i H ->
  wpAny (model P w) X.A (pyNext (.ref it)) (fun r s1=>∃ u,r=some u /\
   wpAny (model P w) X.A (letOwnedTupleGo tg (.ref it) u) (fun _ s2=>∃ x H',Inv X pins σ H' s2/\RelV x u/\J.EU i H x H'/\tn (i + 1) s2.heap/\∀ b ∈ fp,H' b=none) E s1) E s
 done:∀ (X:Cx),X.prog=P->X.w=w->X.K=K->X.calm=true->∀ (i:Nat)(pins:List (Addr × Obj))(s:Shared)(σ:St)(H:Hp)(E:Value->Shared->Prop),Inv X pins σ H s->(∀ b ∈ fp,fQ X pins H b)->tn i s.heap->J.stop i H ->
  wpAny (model P w) X.A (pyNext (.ref it)) (fun r s1=>r=none/\Inv X pins σ H s1) E s
 self:∀ (A:Around)(i:Nat)(s:Shared)(Q:Value->Shared->Prop)(E:Value->Shared->Prop),tn i s.heap->Q (.ref it) s->wpAny (model P w) A (pyIter (.ref it)) Q E s
abbrev TI:=St->Hp->(It->Hp->Prop)->Prop
noncomputable def V3 (X:Cx)(pins:List (Addr × Obj))(σ:St)(tg:Expr)(R:It->Hp->Prop)(O4:Value)(s2:Shared):Prop :=
 ∃ (it:Addr)(fp:List Addr)(tn:Nat->Heap->Prop)(J:It)(H':Hp),O4 = .ref it/\Inv X pins σ H' s2/\nG X.prog X.w X.K tg J fp it tn/\tn 0 s2.heap/\(∀ b ∈ fp,fQ X pins H' b)/\R J H'
noncomputable def PI (X:Cx)(tg iter:Expr)(wi:TI):Prop :=
 ∀ (pins:List (Addr × Obj))(s:Shared)(σ:St)(H:Hp)(R:It->Hp->Prop),Inv X pins σ H s->wi σ H R ->
  wpAny (model X.prog X.w) X.A (eval iter X.env) (fun v s1=>wpAny (model X.prog X.w) X.A (pyIter v) (V3 X pins σ tg R) X.xe s1) X.xe s
theorem qi {M:Model}{A:Around}{E:Value->Shared->Prop}{s:Shared}{tg:Expr}{it:Addr}{u:Value}{o:Obj}{n:String}{vs:Array Value}{Q:Unit->Shared->Prop}(ho:s.heap.get? it=some o)(hc:o.cls = .type n)(hd:o.data = .fields vs)
  (hn:["enumerate", "zip", "dict_itemiterator", "dict_reverseitemiterator", "odict_iterator", "itertools.zip_longest", "itertools.pairwise"].contains n=false) (hQ:Q () s):wpAny M A (letOwnedTupleGo tg (.ref it) u) Q E s:=by
 unfold letOwnedTupleGo
 cases tg<;>first
  | exact wpAny_pure hQ
  | (cases u<;>first
    | exact wpAny_pure hQ
    | (refine wpAny_bind (wpAny_load ho ?_)
       rw[hc,hd]
       show wpAny M A (if (["enumerate", "zip", "dict_itemiterator", "dict_reverseitemiterator", "odict_iterator", "itertools.zip_longest", "itertools.pairwise"].contains n && vs[0]? == some (rawInt _))=true then _ else _) Q E s
       rw[if_neg (by intro h;rw[hn,Bool.false_and]at h;cases h)]
       exact wpAny_pure hQ))
noncomputable def vj (K:Frag)(a:Addr):It :=
 ⟨fun i H=>∃ xs x,zU K H a xs/\xs[i]? = some x,fun i H x H'=>H' = H/\∀ xs,zU K H a xs->xs[i]? = some x,fun i H=>∃ xs,zU K H a xs/\xs.length <= i⟩
noncomputable def O5 (K:Frag)(a:Addr):It :=
 ⟨fun i H=>∃ xs x,Ab K H a xs/\xs[i]? = some x,fun i H x H'=>H' = H/\∀ xs,Ab K H a xs->xs[i]? = some x,fun i H=>∃ xs,Ab K H a xs/\xs.length <= i⟩
noncomputable def vi (lo:Int)(n:Nat):It:=⟨fun i _=>i < n,fun i H x H'=>H' = H/\x = .int (lo + i),fun i _=>n <= i⟩
theorem qx {P:Program}{w:World}{K:Frag}{tg:Expr}(a it:Addr):nG P w K tg (vj K a) [it] it (fun i h=>h.IsListIter it a i) where
 mem:=by simp
 obj:=fun i h st b hb=>by
  have e:b=it:=by simpa using hb
  subst e
  obtain⟨o,e,c,d⟩:=st
  exact⟨o,e,fun v z=>by rw[d]at z;cases z⟩
 keep:=fun i h h' st k=>st.at fun o e=>k it (by simp) o e
 item:=by
  intro X hP hw hK hc i pins s σ H E I hf st hg
  subst hP hw hK
  obtain⟨xs,x,hq,hx⟩:=hg
  obtain⟨zT,rv,p,hz⟩:=I.list hq
  obtain⟨u,hu,ru⟩:=rv.get hx
  obtain⟨f0,f1,f2,f3,f4,f5⟩:=hf it (by simp)
  refine wpAny_pyNext_list_item st p.isList (x:=u) (by simpa using hu) fun h' Eg sb=>?_
  have I1:Inv X pins σ H { s with heap:=h' }:=I.turned (t':=s.toks) (fun b o hb e=>(sb.2 b hb).trans e) f0 f1 f3 f4 f5
  obtain⟨o,e,c,d⟩:=id Eg
  exact⟨u,rfl,qi (s:={ s with heap:=h' }) e c d (by decide) ⟨x,H,I1,ru,⟨rfl,fun ys hy=>by rw[I.CO hy hq];exact hx⟩,Eg,fun b hb=>(hf b hb).1⟩⟩
 done:=by
  intro X hP hw hK hc i pins s σ H E I hf st hg
  subst hP hw hK
  obtain⟨xs,hq,hx⟩:=hg
  obtain⟨zT,rv,p,hz⟩:=I.list hq
  obtain⟨f0,f1,f2,f3,f4,f5⟩:=hf it (by simp)
  have hl:=rv.length
  exact wpAny_pyNext_list_end (I.ok.hd hc) st p.isList (by simp;omega) fun h' eb=>⟨rfl,I.turned (t':=s.toks) (fun b o hb e=>eb b o hb e) f0 f1 f3 f4 f5⟩
 self:=fun _ _ _ _ _ st h=>wpAny_pyIter_listiter st h
theorem nR {P:Program}{w:World}{K:Frag}{tg:Expr}(a it:Addr):nG P w K tg (O5 K a) [it] it (fun i h=>h.IsTupleIter it a i) where
 mem:=by simp
 obj:=fun i h st b hb=>by
  have e:b=it:=by simpa using hb
  subst e
  obtain⟨o,e,c,d⟩:=st
  exact⟨o,e,fun v z=>by rw[d]at z;cases z⟩
 keep:=fun i h h' st k=>st.at fun o e=>k it (by simp) o e
 item:=by
  intro X hP hw hK hc i pins s σ H E I hf st hg
  subst hP hw hK
  obtain⟨xs,x,hq,hx⟩:=hg
  obtain⟨zT,rv,p,hz⟩:=I.tuple hq
  obtain⟨u,hu,ru⟩:=rv.get hx
  obtain⟨f0,f1,f2,f3,f4,f5⟩:=hf it (by simp)
  refine wpAny_pyNext_tuple_item st (show s.heap.IsTuple a zT.toArray from p) (x:=u) (by simpa using hu) fun h' Eg sb=>?_
  have I1:Inv X pins σ H { s with heap:=h' }:=I.turned (t':=s.toks) (fun b o hb e=>(sb.2 b hb).trans e) f0 f1 f3 f4 f5
  obtain⟨o,e,c,d⟩:=id Eg
  exact⟨u,rfl,qi (s:={ s with heap:=h' }) e c d (by decide) ⟨x,H,I1,ru,⟨rfl,fun ys hy=>by rw[I.Cq hy hq];exact hx⟩,Eg,fun b hb=>(hf b hb).1⟩⟩
 done:=by
  intro X hP hw hK hc i pins s σ H E I hf st hg
  subst hP hw hK
  obtain⟨xs,hq,hx⟩:=hg
  obtain⟨zT,rv,p,hz⟩:=I.tuple hq
  obtain⟨f0,f1,f2,f3,f4,f5⟩:=hf it (by simp)
  have hl:=rv.length
  exact wpAny_pyNext_tuple_end (I.ok.hd hc) st (show s.heap.IsTuple a zT.toArray from p) (by simp;omega) fun h' eb=>⟨rfl,I.turned (t':=s.toks) (fun b o hb e=>eb b o hb e) f0 f1 f3 f4 f5⟩
 self:=fun _ _ _ _ _ st h=>wpAny_pyIter_tupleiter st h
theorem nS {P:Program}{w:World}{K:Frag}{tg:Expr}(it:Addr)(lo:Int)(n:Nat):nG P w K tg (vi lo n) [it] it (fun i h=>IsRangeIter h it (lo + (i:Nat) * 1) ((n:Int) - (i:Nat)) 1) where
 mem:=by simp
 obj:=fun i h st b hb=>by
  have e:b=it:=by simpa using hb
  subst e
  exact⟨_,st,fun v z=>by
   have z':Data.fields _=Data.cell v:=z
   cases z'⟩
 keep:=fun i h h' st k=>k it (by simp) _ st
 item:=by
  intro X hP hw hK hc i pins s σ H E I hf st hg
  subst hP hw hK
  obtain⟨f0,f1,f2,f3,f4,f5⟩:=hf it (by simp)
  have W:=Walks.range (prog:=X.prog) (w:=X.w) (I.ok.hd hc) it lo 1 n
  refine W.item i s _ _ hg st fun v h' tk hv Eg kk=>?_
  obtain⟨t,rfl⟩:=hv
  have I1:Inv X pins σ H { s with heap:=h',toks:=tk }:=I.turned (fun b o hb e=>kk b o (by simpa using hb) e) f0 f1 f3 f4 f5
  refine⟨_,rfl,qi (s:={ s with heap:=h',toks:=tk }) (n := "range_iterator") Eg rfl rfl (by decide) ⟨.int (lo + i),H,I1,⟨t,?_⟩,⟨rfl,rfl⟩,Eg,fun b hb=>(hf b hb).1⟩⟩
  rw[Int.mul_one]
 done:=by
  intro X hP hw hK hc i pins s σ H E I hf st hg
  subst hP hw hK
  obtain⟨f0,f1,f2,f3,f4,f5⟩:=hf it (by simp)
  exact wpAny_pyNext_range_end (I.ok.hd hc) st (by have:n <= i:=hg;omega) fun h' eb=>⟨rfl,I.turned (t':=s.toks) (fun b o hb e=>eb b o hb e) f0 f1 f3 f4 f5⟩
 self:=fun _ _ _ _ _ st h=>wpAny_pyIter_rangeiter st h
section
variable {X:Cx}{tg:Expr}
noncomputable def Kn (K:Frag)(tl:TE):TI:=fun σ H R=>tl σ H fun x H1=>∃ a,x = .ref a/\(∃ xs,zU K H1 a xs)/\R (vj K a) H1
noncomputable def Qr (K:Frag)(tl:TE):TI:=fun σ H R=>tl σ H fun x H1=>∃ a,x = .ref a/\(∃ xs,Ab K H1 a xs)/\R (O5 K a) H1
theorem bT {l:Expr}{tl:TE}(hl:PE X l tl):PI X tg l (Kn X.K tl):=by
 intro pins s σ H R I h
 refine aP (hl pins s σ H _ I h) fun v s1 zS=>?_
 obtain⟨x,H1,I1,r1,q1⟩:=zS
 obtain⟨a,e,⟨xs,hq⟩,q⟩:=q1
 subst e
 cases r1
 obtain⟨zT,rv,p,hz⟩:=I1.list hq
 refine wpAny_pyIter_list p.isList ?_
 refine⟨s1.heap.objs.size,[s1.heap.objs.size],_,_,H1,rfl,I1.kept (t':=s1.toks) fun b o e=>Heap.get?_push_of_some _ e,qx a _,⟨_,Heap.get?_push_size _ rfl,rfl,rfl⟩,fun b hb=>?_,q⟩
 have e:b=s1.heap.objs.size:=by simpa using hb
 subst e
 exact I1.DQ (Nat.le_refl _) (I1.zV.fresh (Nat.le_refl _))
theorem lr {l:Expr}{tl:TE}(hl:PE X l tl):PI X tg l (Qr X.K tl):=by
 intro pins s σ H R I h
 refine aP (hl pins s σ H _ I h) fun v s1 zS=>?_
 obtain⟨x,H1,I1,r1,q1⟩:=zS
 obtain⟨a,e,⟨xs,hq⟩,q⟩:=q1
 subst e
 cases r1
 obtain⟨zT,rv,p,hz⟩:=I1.tuple hq
 refine wpAny_pyIter_tuple (show s1.heap.IsTuple a zT.toArray from p) ?_
 refine⟨s1.heap.objs.size,[s1.heap.objs.size],_,_,H1,rfl,I1.kept (t':=s1.toks) fun b o e=>Heap.get?_push_of_some _ e,nR a _,⟨_,Heap.get?_push_size _ rfl,rfl,rfl⟩,fun b hb=>?_,q⟩
 have e:b=s1.heap.objs.size:=by simpa using hb
 subst e
 exact I1.DQ (Nat.le_refl _) (I1.zV.fresh (Nat.le_refl _))
theorem tJ {pins:List (Addr × Obj)}{σ:St}{H:Hp}{s:Shared}{R:It->Hp->Prop}{E:Value->Shared->Prop}{lo hi:Int}{t u v:Tok}{tk:Nat}(I:Inv X pins σ H s)(h1:-(2 ^ 62) <= lo)(h2:lo < 2 ^ 62)(h3:-(2 ^ 62) <= hi)(h4:hi < 2 ^ 62)
  (q:R (vi lo (hi - lo).toNat) H):wpAny (model X.prog X.w) X.A (pyIter (.ref s.heap.objs.size)) (V3 X pins σ tg R) E { s with heap:=s.heap.push { cls := .type "range",data := .fields #[.int lo t, .int hi u, .int 1 v] },toks:=tk }:=by
 refine wpAny_pyIter_range (IsRange.new ..) (small_one h1 h2 h3 h4) ?_
 have I1:Inv X pins σ H { s with heap:=s.heap.push { cls := .type "range",data := .fields #[.int lo t, .int hi u, .int 1 v] },toks:=tk }:=I.kept fun b o e=>Heap.get?_push_of_some _ e
 refine⟨(s.heap.push { cls := .type "range",data := .fields #[.int lo t, .int hi u, .int 1 v] }).objs.size,[(s.heap.push { cls := .type "range",data := .fields #[.int lo t, .int hi u, .int 1 v] }).objs.size],_,_,H,rfl,
  I1.kept (t':=tk) fun b o e=>Heap.get?_push_of_some _ e,nS _ lo (hi - lo).toNat,?_,fun b hb=>?_,q⟩
 ·have e1:lo + ((0:Nat):Int) * 1=lo:=by simp
  have e2:(((hi - lo).toNat:Nat):Int) - ((0:Nat):Int)=Builtin.Range.rangeSize lo hi 1:=by rw[rangeSize_one];split<;>omega
  show IsRangeIter _ _ (lo + ((0:Nat):Int) * 1) ((((hi - lo).toNat:Nat):Int) - ((0:Nat):Int)) 1
  rw[e1,e2]
  exact Heap.get?_push_size _ rfl
 ·have e:b=(s.heap.push { cls := .type "range",data := .fields #[.int lo t, .int hi u, .int 1 v] }).objs.size:=by simpa using hb
  subst e
  exact I1.DQ (Nat.le_refl _) (I1.zV.fresh (Nat.le_refl _))
noncomputable def Ko (ta:TA):TI:=fun σ H R=>ta σ H fun vs H1=>∃ j:Int,vs=[.int j]/\-(2 ^ 62) <= j/\j < 2 ^ 62/\R (vi 0 j.toNat) H1
theorem aL {a:Expr}{ta:TA}{p pos:Pos}(hg:Gl X "range")(hm:X.mg "range" = none)(ha:PA X [a] ta)(hs:autoParam (starEach [a] X.env=[(false,eval a X.env)]) η):PI X tg (.Call (.Name "range" p) [a] [] pos) (Ko ta):=by
 intro pins s σ H R I h
 refine Call_ (iw I hg hm boot_range (PyProof.Rows.callWith_type1 (aP (ha pos pins s σ H _ I h) fun us s1 zS=>?_) hs rfl))
 obtain⟨vs,H1,I1,r1,q1⟩:=zS
 obtain⟨j,e,q1,q2,q⟩:=q1
 subst e
 cases r1 with
 | cons r rr =>
  cases rr
  obtain⟨t,rfl⟩:=r
  exact call_range_1 (tJ I1 (by omega) (by omega) q1 q2 (by simpa using q))
noncomputable def Qs (wi:TI)(g:TG)(tb:TS):TS:=fun D σ H=>wi σ H fun J H1=>∃ W:Nat->Nat->St->Hp->Prop,(∃ m,W 0 m σ H1)/\∀ i m σ H,W i m σ H ->
 (J.stop i H/\D.nx σ H)∨(J.go i H/\∃ N:St->Hp->Prop,(∀ σ' H',N σ' H'->∃ m',m' < m/\W (i + 1) m' σ' H')/\∀ x H',J.EU i H x H'->g x σ H' fun σ2 H2=>tb { D with nx:=N,ct:=N,bk:=D.nx } σ2 H2)
noncomputable def e9 (fp:List Addr)(h:Heap):List (Addr × Obj):=fp.filterMap fun b=>(h.get? b).map fun o=>(b,o)
theorem eB {fp:List Addr}{h:Heap}{b:Addr}{o:Obj}(hb:b ∈ fp)(e:h.get? b=some o):(b,o) ∈ e9 fp h:=List.mem_filterMap.mpr ⟨b,hb,by rw[e];rfl⟩
theorem ke {fp:List Addr}{h:Heap}{p:Addr × Obj}(hp:p ∈ e9 fp h):p.1 ∈ fp/\h.get? p.1=some p.2:=by
 obtain⟨b,hb,e⟩:=List.mem_filterMap.mp hp
 cases q:h.get? b with
 | none=>rw[q]at e;cases e
 | some o =>
  rw[q]at e
  have e':(b,o)=p:=Option.some.inj e
  subst e'
  exact⟨hb,q⟩
theorem Inv.pinned {pins:List (Addr × Obj)}{σ:St}{H:Hp}{s:Shared}{fp:List Addr}(I:Inv X pins σ H s)(hf:∀ b ∈ fp,fQ X pins H b)(ho:∀ b ∈ fp,∃ o,s.heap.get? b=some o/\∀ v,o.data ≠ .cell v):Inv X (pins ++ e9 fp s.heap) σ H s :=
 I.AR fun p hp=>(mem_append.mp hp).elim (fun z=>I.pin p (mem_append_right _ z)) fun z=>by
  obtain⟨hb,e⟩:=ke z
  obtain⟨f0,f1,f2,_⟩:=hf p.1 hb
  obtain⟨o,e',d⟩:=ho p.1 hb
  rw[e]at e';cases e'
  exact⟨e,f0,f1,f2,d⟩
theorem Inv.Bt {pins pl:List (Addr × Obj)}{σ:St}{H:Hp}{s:Shared}(I:Inv X (pins ++ pl) σ H s):Inv X pins σ H s:=I.AR fun p hp=>I.pin p (mem_append_right _ (mem_append_left _ hp))
theorem bF {iter:Expr}{body:List Stmt}{wi:TI}{g:TG}{tb:TS}{pos:Pos}(hp:PassesOwn (model X.prog X.w) X.A X.env X.xe)(hc:X.calm=true)(hi:PI X tg iter wi)(hg:PG X tg g)(hb:BB X body tb)
  (hs:autoParam (∀ x,foldedSetIterable iter X.env x=pure x) ψ):PS X (.For tg iter body [] pos) (Qs wi g tb):=by
 intro pins s σ H D I h
 refine wpAny_For (aP (hi pins s σ H _ I h) fun v s1 h1=>aP h1 fun O4 s2 h2=>?_) hs
 obtain⟨it,fp,tn,J,H2,e,I2,T,Kp,f2,W,⟨m0,w0⟩,turn⟩:=h2
 subst e
 have stat:∀ {H':Hp},(∀ b ∈ fp,H' b=none)->∀ b ∈ fp,fQ X pins H' b:=fun hn b hb=>⟨hn b hb,(f2 b hb).2⟩
 refine codeAny_forLoop_any (fun n s'=>∃ i σ' H',Inv X pins σ' H' s'/\tn i s'.heap/\(∀ b ∈ fp,H' b=none)/\W i n σ' H') ?_ m0 ⟨0,σ,H2,I2,Kp,fun b hb=>(f2 b hb).1,w0⟩
 rintro n s3 ⟨i,σ3,H3,I3,V4,V5,w3⟩
 rcases turn i n σ3 H3 w3 with ⟨stop,qn⟩ | ⟨go,N,hN,step⟩
 ·refine wpAny_passesOwn hp (aP (T.done X rfl rfl rfl hc i pins s3 σ3 H3 X.xe I3 (stat V5) V4 stop) fun r s4 zS=>?_)
  obtain⟨hr,I4⟩:=zS
  subst hr
  exact wpAny_execs_nil ⟨σ3,H3,I4,qn⟩
 ·refine wpAny_passesOwn hp (aP (T.item X rfl rfl rfl hc i pins s3 σ3 H3 X.xe I3 (stat V5) V4 go) fun r s4 zS=>?_)
  obtain⟨u,hr,h4⟩:=zS
  subst hr
  refine wpAny_passesOwn hp (aP h4 fun _ s5 zS=>?_)
  obtain⟨x,H5,I5,r5,y5,Jp,O6⟩:=zS
  have I5':=I5.pinned (stat O6) (T.obj _ _ Jp)
  refine wpAny_passesOwn hp (aP (hg _ s5 σ3 H5 x u _ I5' r5 (step x H5 y5)) fun _ s6 zS=>?_)
  obtain⟨σ6,H6,I6,q6⟩:=zS
  refine wpAny_passesOwn hp (aP (hb _ s6 σ6 H6 _ I6 q6) fun f s7 q7=>?_)
  have again:∀ {σ7:St}{H7:Hp},Inv X (pins ++ e9 fp s5.heap) σ7 H7 s7->N σ7 H7->∃ m,m < n/\∃ i σ' H',Inv X pins σ' H' s7/\tn i s7.heap/\(∀ b ∈ fp,H' b=none)/\W i m σ' H':=fun {σ7 H7} I7 n7=>by
   obtain⟨m',hm,w7⟩:=hN σ7 H7 n7
   refine⟨m',hm,i + 1,σ7,H7,I7.Bt,T.keep _ _ _ Jp fun b hb o e=>(I7.pin (b,o) (mem_append_right _ (mem_append_right _ (eB hb e)))).1,fun b hb=>?_,w7⟩
   obtain⟨o,e,d⟩:=T.obj _ _ Jp b hb
   exact(I7.pin (b,o) (mem_append_right _ (mem_append_right _ (eB hb e)))).2.1
  cases f with
  | next=>obtain⟨σ7,H7,I7,n7⟩:=q7;exact again I7 n7
  | cont=>obtain⟨σ7,H7,I7,n7⟩:=q7;exact again I7 n7
  | brk=>obtain⟨σ7,H7,I7,q7⟩:=q7;exact⟨σ7,H7,I7.Bt,q7⟩
  | ret v=>obtain⟨x7,σ7,H7,I7,r7,q7⟩:=q7;exact⟨x7,σ7,H7,I7.Bt,r7,q7⟩
end
theorem gZ {K:Frag}{a:Addr}{xs:List V}{g:TG}{tb:TS}{D:jS}{σ:St}{H:Hp}(Pv:Nat->St->Hp->Prop)(h0:Pv 0 σ H)(hl:∀ i σ H,i <= xs.length->Pv i σ H->zU K H a xs)
  (hs:∀ i x σ H,xs[i]? = some x->Pv i σ H->g x σ H fun σ2 H2=>tb { D with nx:=Pv (i + 1),ct:=Pv (i + 1),bk:=D.nx } σ2 H2) (hd:∀ σ H,Pv xs.length σ H->D.nx σ H) :
  ∃ W:Nat->Nat->St->Hp->Prop,(∃ m,W 0 m σ H)/\∀ i m σ H,W i m σ H ->
   ((vj K a).stop i H/\D.nx σ H)∨((vj K a).go i H/\∃ N:St->Hp->Prop,(∀ σ' H',N σ' H'->∃ m',m' < m/\W (i + 1) m' σ' H')/\∀ x H',(vj K a).EU i H x H'->g x σ H' fun σ2 H2=>tb { D with nx:=N,ct:=N,bk:=D.nx } σ2 H2):=by
 refine⟨fun i m σ H=>m=xs.length - i/\i <= xs.length/\Pv i σ H,⟨xs.length,by simp,zero_le _,h0⟩,?_⟩
 rintro i m σ H ⟨rfl,hi,p⟩
 have q:=hl i σ H hi p
 by_cases AG:i < xs.length
 ·refine .inr ⟨⟨xs,xs[i],q,by simp[AG]⟩,Pv (i + 1),fun σ' H' p'=>⟨xs.length - (i + 1),by omega,rfl,AG,p'⟩,fun x H' y=>?_⟩
  obtain⟨e,y⟩:=y
  subst e
  exact hs i x σ _ (y xs q) p
 ·have e:i=xs.length:=by omega
  subst e
  exact .inl ⟨⟨xs,q,Nat.le_refl _⟩,hd σ H p⟩
theorem b8 {lo:Int}{n:Nat}{g:TG}{tb:TS}{D:jS}{σ:St}{H:Hp}(Pv:Nat->St->Hp->Prop)(h0:Pv 0 σ H)
  (hs:∀ i σ H,i < n->Pv i σ H->g (.int (lo + i)) σ H fun σ2 H2=>tb { D with nx:=Pv (i + 1),ct:=Pv (i + 1),bk:=D.nx } σ2 H2) (hd:∀ σ H,Pv n σ H->D.nx σ H) :
  ∃ W:Nat->Nat->St->Hp->Prop,(∃ m,W 0 m σ H)/\∀ i m σ H,W i m σ H ->
   ((vi lo n).stop i H/\D.nx σ H)∨((vi lo n).go i H/\∃ N:St->Hp->Prop,(∀ σ' H',N σ' H'->∃ m',m' < m/\W (i + 1) m' σ' H')/\∀ x H',(vi lo n).EU i H x H'->g x σ H' fun σ2 H2=>tb { D with nx:=N,ct:=N,bk:=D.nx } σ2 H2):=by
 refine⟨fun i m σ H=>m=n - i/\i <= n/\Pv i σ H,⟨n,by simp,zero_le _,h0⟩,?_⟩
 rintro i m σ H ⟨rfl,hi,p⟩
 by_cases AG:i < n
 ·refine .inr ⟨AG,Pv (i + 1),fun σ' H' p'=>⟨n - (i + 1),by omega,rfl,AG,p'⟩,fun x H' y=>?_⟩
  obtain⟨e,y⟩:=y
  subst e y
  exact hs i σ _ AG p
 ·have e:i=n:=by omega
  subst e
  exact .inl ⟨Nat.le_refl _,hd σ H p⟩
abbrev R2:=V->V->Hp->VK->Prop
noncomputable def eP (X:Cx)(f:Value->Value->Sem Value)(r:R2):Prop :=
 ∀ (pins:List (Addr × Obj))(s:Shared)(σ:St)(H:Hp)(x y:V)(v u:Value)(Q:VK),Inv X pins σ H s->RelV x v->RelV y u->r x y H Q ->
  wpAny (model X.prog X.w) X.A (f v u) (EP X pins σ Q) X.xe s
noncomputable def dv (X:Cx)(f:Value)(r:List V->Hp->VK->Prop):Prop :=
 ∀ (pins:List (Addr × Obj))(s:Shared)(σ:St)(H:Hp)(xs:List V)(us:List Value)(Q:VK),Inv X pins σ H s->Vals xs us->r xs H Q ->
  wpAny (model X.prog X.w) X.A (call f us) (EP X pins σ Q) X.xe s
noncomputable def Qt (X:Cx)(r:V->Hp->(Bool->Hp->Prop)->Prop):Prop :=
 ∀ (pins:List (Addr × Obj))(s:Shared)(σ:St)(H:Hp)(x:V)(v:Value)(Q:Bool->Hp->Prop),Inv X pins σ H s->RelV x v->r x H Q ->
  wpAny (model X.prog X.w) X.A (truthy v) (TP X pins σ Q) X.xe s
noncomputable def O7 (r:R2)(ta tb:TE):TE:=fun σ H Q=>ta σ H fun x H1=>tb σ H1 fun y H2=>r x y H2 Q
noncomputable def rI (C:Int->Int->Prop)(g:Int->Int->V):R2:=fun x y H Q=>∃ i j,x = .int i/\y = .int j/\C i j/\Q (g i j) H
noncomputable def rG (g:Int->Int->V):R2:=fun x y H Q=>∃ i j,x = .int i/\y = .int j/\Q (g i j) H
section
variable {X:Cx}{a b c:Expr}{ta tb tc:TE}{pos:Pos}
theorem zE (ha:PE X a ta)(hb:PE X b tb){pins:List (Addr × Obj)}{s:Shared}{σ:St}{H:Hp}{R:V->V->Hp->Prop}(I:Inv X pins σ H s)
  (h:ta σ H fun x H1=>tb σ H1 fun y H2=>R x y H2) {Q:Value->Shared->Prop} {f:Value->Value->Sem Value}
  (hf:∀ v u s2 x y H2,Inv X pins σ H2 s2->RelV x v->RelV y u->R x y H2->wpAny (model X.prog X.w) X.A (f v u) Q X.xe s2) :
  wpAny (model X.prog X.w) X.A (eval a X.env) (fun v s₁=>wpAny (model X.prog X.w) X.A (eval b X.env) (fun u s₂=>wpAny (model X.prog X.w) X.A (f v u) Q X.xe s₂) X.xe s₁) X.xe s:=by
 refine aP (ha pins s σ H _ I h) fun v s1 zS=>?_
 obtain⟨x,H1,I1,r1,q1⟩:=zS
 refine aP (hb pins s1 σ H1 _ I1 q1) fun u s2 zS=>?_
 obtain⟨y,H2,I2,r2,q2⟩:=zS
 exact hf v u s2 x y H2 I2 r1 r2 q2
theorem az {op:Operator}{r:R2}(ho:eP X (binaryOp op) r)(ha:PE X a ta)(hb:PE X b tb):PE X (.BinOp a op b pos) (O7 r ta tb):=by
 intro pins s σ H Q I h
 exact wpAny_BinOp (zE ha hb I h fun v u s2 x y H2 I2 rx ry q=>ho pins s2 σ H2 x y v u Q I2 rx ry q)
theorem Jq {f:Value->Value->Sem Value}{C:Int->Int->Prop}{g:Int->Int->Int}
  (rule:∀ (i j:Int)(t u:Tok)(s:Shared)(Q:Value->Shared->Prop)(E:Value->Shared->Prop),C i j->Q (.int (g i j) s.toks) { s with toks:=s.toks + 1 }->wpAny (model X.prog X.w) X.A (f (.int i t) (.int j u)) Q E s) :
  eP X f (rI C fun i j => .int (g i j)):=by
 intro pins s σ H x y v u Q I rx ry h
 obtain⟨i,j,rfl,rfl,hc,q⟩:=h
 obtain⟨t,rfl⟩:=rx
 obtain⟨t',rfl⟩:=ry
 exact rule i j t t' s _ _ hc ⟨.int (g i j),H,I.tok _,⟨_,rfl⟩,q⟩
theorem qN {f:Value->Value->Sem Value}{g:Int->Int->Int}
  (rule:∀ (i j:Int)(t u:Tok)(s:Shared)(Q:Value->Shared->Prop)(E:Value->Shared->Prop),Q (.int (g i j) s.toks) { s with toks:=s.toks + 1 }->wpAny (model X.prog X.w) X.A (f (.int i t) (.int j u)) Q E s) :
  eP X f (rG fun i j => .int (g i j)):=by
 intro pins s σ H x y v u Q I rx ry h
 obtain⟨i,j,rfl,rfl,q⟩:=h
 obtain⟨t,rfl⟩:=rx
 obtain⟨t',rfl⟩:=ry
 exact rule i j t t' s _ _ ⟨.int (g i j),H,I.tok _,⟨_,rfl⟩,q⟩
theorem vV {f:Value->Value->Sem Value}{g:Int->Int->Bool}
  (rule:∀ (i j:Int)(t u:Tok)(s:Shared)(Q:Value->Shared->Prop)(E:Value->Shared->Prop),Q (.bool (g i j)) s->wpAny (model X.prog X.w) X.A (f (.int i t) (.int j u)) Q E s) :
  eP X f (rG fun i j => .bl (g i j)):=by
 intro pins s σ H x y v u Q I rx ry h
 obtain⟨i,j,rfl,rfl,q⟩:=h
 obtain⟨t,rfl⟩:=rx
 obtain⟨t',rfl⟩:=ry
 exact rule i j t t' s _ _ ⟨.bl (g i j),H,I,rfl,q⟩
noncomputable def Qu (i j:Int):Prop:=0 < j/\j < 1073741824
noncomputable def Kq (i j:Int):Prop:=0 <= j/\j <= 1000000/\i.natAbs < 2 ^ 64
noncomputable def HR (i j:Int):Prop:=(-(2 ^ 64) < i/\i < 2 ^ 64)∨(-(2 ^ 64) < j/\j < 2 ^ 64)
theorem HR.ok {i j:Int}(h:HR i j):IntMulOk i j:=by
 rcases h with ⟨h1,h2⟩ | ⟨h1,h2⟩
 ·exact .of_left (intBits_le_64 h1 h2)
 ·exact .of_right (intBits_le_64 h1 h2)
theorem nQ (k:Nat):(0:Int) <= 2 ^ k:=by
 rw[two_pow_cast]
 exact Int.natCast_nonneg _
theorem bP:eP X (binaryOp .Add) (rG fun i j => .int (i + j)):=qN fun _ _ _ _ _ _ _ q=>add_int q
theorem dB:eP X (binaryOp .Sub) (rG fun i j => .int (i - j)):=qN fun _ _ _ _ _ _ _ q=>sub_int q
theorem eZ:eP X (binaryOp .Mult) (rI HR fun i j => .int (i * j)):=Jq fun _ _ _ _ _ _ _ hc q=>mul_int q hc.ok
theorem dq:eP X (binaryOp .FloorDiv) (rI Qu fun i j => .int (i / j)):=Jq fun i j _ _ _ _ _ hc q=>by
 have h1:(0:Int) < j:=hc.1
 have h2:j < 1073741824:=hc.2
 exact floordiv_int (by omega) (by rw[Int.fdiv_eq_ediv_of_nonneg i (by omega)];exact q) (.inl (PyProof.noPylong_small (by omega)))
theorem bC:eP X (binaryOp .Mod) (rI (fun _ j=>0 < j) fun i j => .int (i % j)):=Jq fun i j _ _ _ _ _ hc q=>by
 have h1:(0:Int) < j:=hc
 exact mod_int' (by omega) (by rw[Int.fmod_eq_emod_of_nonneg i (by omega)];exact q)
theorem oK:eP X (binaryOp .Pow) (rI Kq fun i j => .int (i ^ j.toNat)):=Jq fun _ _ _ _ _ _ _ hc q=>pow_int_small hc.1 hc.2.1 hc.2.2 q
theorem yC:eP X (binaryOp .LShift) (rI Kq fun i j => .int (i * 2 ^ j.toNat)):=Jq fun _ _ _ _ _ _ _ hc q=>lshift_int_small hc.1 hc.2.1 hc.2.2 q
theorem oJ:eP X (binaryOp .RShift) (rI (fun _ j=>0 <= j) fun i j => .int (i / 2 ^ j.toNat)):=Jq fun i j _ _ _ _ _ hc q =>
 rshift_int hc (by rw[Int.fdiv_eq_ediv_of_nonneg i (nQ _)];exact q)
theorem tZ:eP X (binaryOp .BitAnd) (rG fun i j => .int (Builtin.bitAnd i j)):=qN fun _ _ _ _ _ _ _ q=>and_int q
theorem Kr:eP X (binaryOp .BitOr) (rG fun i j => .int (Builtin.bitOr i j)):=qN fun _ _ _ _ _ _ _ q=>or_int q
theorem l8:eP X (inplaceOp .Add) (rG fun i j => .int (i + j)):=qN fun _ _ _ _ _ _ _ q=>iadd_int q
theorem qg:eP X (inplaceOp .Sub) (rG fun i j => .int (i - j)):=qN fun _ _ _ _ _ _ _ q=>isub_int q
end
noncomputable def yb:V->V->Bool
 | .Af, .Af=>true | .Af, .int _=>true | .int _, .Af=>true | .Af, .bl _=>true | .bl _, .Af=>true | .Af, .str _=>true | .str _, .Af=>true
 | .int _, .int _=>true | .bl _, .bl _=>true | .str _, .str _=>true | .D9 _, .D9 _=>true
 | .int _, .str _=>true | .str _, .int _=>true | .bl _, .str _=>true | .str _, .bl _=>true
 | _,_=>false
noncomputable def rEq:R2:=fun x y H Q=>yb x y=true/\Q (.bl (decide (x=y))) H
noncomputable def rNe:R2:=fun x y H Q=>yb x y=true/\Q (.bl (!decide (x=y))) H
theorem ql {i j:Int}:decide (V.int i=V.int j)=(i == j):=by
 rw[Bool.eq_iff_iff]
 simp
theorem uS {i j:Bool}:decide (V.bl i=V.bl j)=(i == j):=by
 rw[Bool.eq_iff_iff]
 simp
theorem qk {i j:Str}:decide (V.str i=V.str j)=(i == j):=by
 rw[Bool.eq_iff_iff]
 simp
theorem qm {i j:Array UInt8}:decide (V.D9 i=V.D9 j)=(i.toList == j.toList):=by
 rw[Bool.eq_iff_iff]
 cases i
 cases j
 simp
section
variable {X:Cx}{a b c:Expr}{ta tb tc:TE}{pos:Pos}
theorem aO {pins:List (Addr × Obj)}{σ:St}{H:Hp}{s:Shared}{Q:VK}{k k':Bool}(I:Inv X pins σ H s)(q:Q (.bl k) H)(e:k=k'):EP X pins σ Q (.bool k') s:=by
 subst e
 exact⟨.bl k,H,I,rfl,q⟩
theorem bB:eP X (compareOp .Eq) rEq:=by
 intro pins s σ H x y v u Q I rx ry h
 obtain⟨hs,q⟩:=h
 cases x with
 | Af =>
  cases rx
  cases y with
  | Af=>cases ry;exact PySem.EqNone.eq_none_none (aO I q (by simp))
  | bl j=>cases ry;exact PySem.EqNone.eq_none_bool (aO I q (by simp))
  | int j=>obtain⟨t',rfl⟩:=ry;exact PySem.EqNone.eq_none_int (aO I q (by simp))
  | str j=>obtain⟨t',rfl⟩:=ry;exact PySem.EqNone.eq_none_str (aO I q (by simp))
  | _=>exact absurd (show false=true from hs) Bool.false_ne_true
 | bl i =>
  cases rx
  cases y with
  | Af=>cases ry;exact PySem.EqNone.eq_bool_none (aO I q (by simp))
  | bl j=>cases ry;exact eq_bool (aO I q uS)
  | str j=>obtain⟨t',rfl⟩:=ry;exact PySem.EqMixed.eq_bool_str (aO I q (by simp))
  | _=>exact absurd (show false=true from hs) Bool.false_ne_true
 | int i =>
  obtain⟨t,rfl⟩:=rx
  cases y with
  | Af=>cases ry;exact PySem.EqNone.eq_int_none (aO I q (by simp))
  | int j=>obtain⟨t',rfl⟩:=ry;exact eq_int (aO I q ql)
  | str j=>obtain⟨t',rfl⟩:=ry;exact PySem.EqMixed.eq_int_str (aO I q (by simp))
  | _=>exact absurd (show false=true from hs) Bool.false_ne_true
 | str i =>
  obtain⟨t,rfl⟩:=rx
  cases y with
  | Af=>cases ry;exact PySem.EqNone.eq_str_none (aO I q (by simp))
  | bl j=>cases ry;exact PySem.EqMixed.eq_str_bool (aO I q (by simp))
  | int j=>obtain⟨t',rfl⟩:=ry;exact PySem.EqMixed.eq_str_int (aO I q (by simp))
  | str j=>obtain⟨t',rfl⟩:=ry;exact eq_str (aO I q qk)
  | _=>exact absurd (show false=true from hs) Bool.false_ne_true
 | D9 i =>
  obtain⟨t,rfl⟩:=rx
  cases y with
  | D9 j=>obtain⟨t',rfl⟩:=ry;exact PySem.W.eq_bytes (aO I q qm)
  | _=>exact absurd (show false=true from hs) Bool.false_ne_true
 | _=>cases y<;>exact absurd (show false=true from hs) Bool.false_ne_true
theorem jw:eP X (compareOp .NotEq) rNe:=by
 intro pins s σ H x y v u Q I rx ry h
 obtain⟨hs,q⟩:=h
 cases x with
 | Af =>
  cases rx
  cases y with
  | Af=>cases ry;exact PySem.EqNone.ne_none_none (aO I q (by simp))
  | bl j=>cases ry;exact PySem.EqNone.ne_none_bool (aO I q (by simp))
  | int j=>obtain⟨t',rfl⟩:=ry;exact PySem.EqNone.ne_none_int (aO I q (by simp))
  | str j=>obtain⟨t',rfl⟩:=ry;exact PySem.EqNone.ne_none_str (aO I q (by simp))
  | _=>exact absurd (show false=true from hs) Bool.false_ne_true
 | bl i =>
  cases rx
  cases y with
  | Af=>cases ry;exact PySem.EqNone.ne_bool_none (aO I q (by simp))
  | bl j=>cases ry;exact ne_bool (aO I q (congrArg not uS))
  | str j=>obtain⟨t',rfl⟩:=ry;exact PySem.EqMixed.ne_bool_str (aO I q (by simp))
  | _=>exact absurd (show false=true from hs) Bool.false_ne_true
 | int i =>
  obtain⟨t,rfl⟩:=rx
  cases y with
  | Af=>cases ry;exact PySem.EqNone.ne_int_none (aO I q (by simp))
  | int j=>obtain⟨t',rfl⟩:=ry;exact ne_int (aO I q (congrArg not ql))
  | str j=>obtain⟨t',rfl⟩:=ry;exact PySem.EqMixed.ne_int_str (aO I q (by simp))
  | _=>exact absurd (show false=true from hs) Bool.false_ne_true
 | str i =>
  obtain⟨t,rfl⟩:=rx
  cases y with
  | Af=>cases ry;exact PySem.EqNone.ne_str_none (aO I q (by simp))
  | bl j=>cases ry;exact PySem.EqMixed.ne_str_bool (aO I q (by simp))
  | int j=>obtain⟨t',rfl⟩:=ry;exact PySem.EqMixed.ne_str_int (aO I q (by simp))
  | str j=>obtain⟨t',rfl⟩:=ry;exact ne_str (aO I q (congrArg not qk))
  | _=>exact absurd (show false=true from hs) Bool.false_ne_true
 | D9 i =>
  obtain⟨t,rfl⟩:=rx
  cases y with
  | D9 j=>obtain⟨t',rfl⟩:=ry;exact PySem.W.ne_bytes (aO I q (congrArg not qm))
  | _=>exact absurd (show false=true from hs) Bool.false_ne_true
 | _=>cases y<;>exact absurd (show false=true from hs) Bool.false_ne_true
theorem m9:eP X (compareOp .Lt) (rG fun i j => .bl (decide (i < j))):=vV fun _ _ _ _ _ _ _ q=>lt_int q
theorem pO:eP X (compareOp .LtE) (rG fun i j => .bl (decide (i <= j))):=vV fun _ _ _ _ _ _ _ q=>le_int q
theorem tX:eP X (compareOp .Gt) (rG fun i j => .bl (decide (j < i))):=vV fun _ _ _ _ _ _ _ q=>gt_int q
theorem x5:eP X (compareOp .GtE) (rG fun i j => .bl (decide (j <= i))):=vV fun _ _ _ _ _ _ _ q=>ge_int q
theorem lz:eP X (compareOp .Is) (fun x y H Q=>y = .Af/\Q (.bl (decide (x = .Af))) H):=by
 intro pins s σ H x y v u Q I rx ry h
 obtain⟨rfl,q⟩:=h
 cases ry
 refine is_none_gen (aO I q ?_)
 cases x<;>first
  | (cases rx;rfl)
  | (obtain⟨t,rfl⟩:=rx;rfl)
theorem vR:eP X (compareOp .IsNot) (fun x y H Q=>y = .Af/\Q (.bl (!decide (x = .Af))) H):=by
 intro pins s σ H x y v u Q I rx ry h
 obtain⟨rfl,q⟩:=h
 cases ry
 refine isnot_none_gen (aO I q ?_)
 cases x<;>first
  | (cases rx;rfl)
  | (obtain⟨t,rfl⟩:=rx;rfl)
theorem aA (b:Expr){op:CmpOp}(h:autoParam (op ≠ .In) θ)(h2:autoParam (op ≠ .NotIn) θ):behindInMarks op b=false:=by
 have e1:(op == CmpOp.In)=false:=by cases op<;>first | rfl | exact absurd rfl h
 have e2:(op == CmpOp.NotIn)=false:=by cases op<;>first | rfl | exact absurd rfl h2
 cases b<;>simp[behindInMarks,e1,e2]
theorem dj {op:CmpOp}{r:R2}(ho:eP X (compareOp op) r)(ha:PE X a ta)(hb:PE X b tb)(hm:behindInMarks op b=false):PE X (.Compare a [op] [b] pos) (O7 r ta tb):=by
 intro pins s σ H Q I h
 exact wpAny_Compare1 (zE ha hb I h fun v u s2 x y H2 I2 rx ry q=>ho pins s2 σ H2 x y v u Q I2 rx ry q) hm
noncomputable def Ks (t:TE):TT:=fun σ H Q=>t σ H fun x H'=>∃ k,x = .bl k/\Q k H'
theorem aw {op:CmpOp}{r:R2}(ho:eP X (compareOp op) r)(ha:PE X a ta)(hb:PE X b tb)(hm:behindInMarks op b=false):PT X (.Compare a [op] [b] pos) (Ks (O7 r ta tb)):=by
 intro pins s σ H Q I h
 refine wpAny_isTrue_Compare1 (aP (ha pins s σ H _ I h) fun v s1 ⟨x,H1,I1,r1,q1⟩=>aP (hb pins s1 σ H1 _ I1 q1) fun u s2 ⟨y,H2,I2,r2,q2⟩ =>
  aP (ho pins s2 σ H2 x y v u _ I2 r1 r2 q2) fun c s3 ⟨z,H3,I3,r3,k,e,q3⟩=>?_) hm
 subst e
 cases r3
 exact wpAny_truthy_bool ⟨H3,I3,q3⟩
noncomputable def xS (r r':R2)(ta tb tc:TE):TE:=fun σ H Q=>ta σ H fun x H1=>tb σ H1 fun y H2=>r x y H2 fun z H3=>∃ k,z = .bl k /\
 (if k=true then tc σ H3 fun w' H4=>r' y w' H4 Q else Q (.bl false) H3)
theorem m7 {op Qv:CmpOp}{r r':R2}(ho:eP X (compareOp op) r)(Fm:eP X (compareOp Qv) r')(ha:PE X a ta)(hb:PE X b tb)(hc:PE X c tc)
  (hm:lastMarks [op,Qv] [b,c]=false:=by with_unfolding_all rfl):PE X (.Compare a [op,Qv] [b,c] pos) (xS r r' ta tb tc):=by
 intro pins s σ H Q I h
 refine Compare_chain (aP (ha pins s σ H _ I h) fun v s1 ⟨x,H1,I1,r1,q1⟩=>chain_link (aP (hb pins s1 σ H1 _ I1 q1) fun u s2 ⟨y,H2,I2,r2,q2⟩ =>
  aP (ho pins s2 σ H2 x y v u _ I2 r1 r2 q2) fun d s3 ⟨z,H3,I3,r3,k,e,q3⟩=>?_)) hm
 subst e
 cases r3
 refine wpAny_truthy_bool ?_
 cases k with
 | false=>exact ite_ff ⟨.bl false,H3,I3,rfl,q3⟩
 | true=>exact ite_tt (chain_last (aP (hc pins s3 σ H3 _ I3 q3) fun w' s4 zS=>by obtain⟨z',H4,I4,r4,q4⟩:=zS;exact Fm pins s4 σ H4 y z' u w' Q I4 r2 r4 q4))
noncomputable def Kt (K:Frag)(x:V)(H:Hp)(k:Bool):Prop :=
 match x with
 | .Af=>k=false
 | .bl b=>k=b
 | .int i=>k=(i != 0)
 | .str y=>y.length <= sizeLine/\k=((y.length:Int) != 0)
 | .D9 y=>y.size <= sizeLine/\k=((y.size:Int) != 0)
 | .ref p=>(∃ xs,zU K H p xs/\k = !xs.isEmpty)∨(∃ xs,Ab K H p xs/\k = !xs.isEmpty)∨∃ kvs,H p=some (.dK kvs)/\k = !kvs.isEmpty
 | _=>False
theorem oX {κ:Type} {kvs:List (κ × V)} {vs:List (κ × Value)} (r:KV kvs vs):(!vs.isEmpty) = !kvs.isEmpty:=by
 cases r<;>rfl
theorem j4 {xs:List V}{zT:List Value}(r:Vals xs zT):(!zT.toArray.isEmpty) = !xs.isEmpty:=by
 cases r<;>simp
theorem j0:(sizeLine:Nat) < 2 ^ 63:=by rw[sizeLine_eq];decide
theorem xG:Qt X (fun x H Q=>∃ k,Kt X.K x H k/\Q k H):=by
 intro pins s σ H x v Q I rx h
 obtain⟨k,e,q⟩:=h
 have hl:=j0
 have hs:sizeLine=16777216:=sizeLine_eq
 cases x with
 | Af =>
  cases rx
  have e':k=false:=e
  subst e'
  exact truthy_none ⟨H,I,q⟩
 | bl b =>
  cases rx
  have e':k=b:=e
  subst e'
  exact wpAny_truthy_bool ⟨H,I,q⟩
 | int i =>
  obtain⟨t,rfl⟩:=rx
  have e':k=(i != 0):=e
  subst e'
  exact PySem.P.truthy_int ⟨H,I,q⟩
 | str y =>
  obtain⟨t,rfl⟩:=rx
  obtain⟨hy,e'⟩:y.length <= sizeLine/\k=((y.length:Int) != 0):=e
  subst e'
  exact PySem.P.truthy_str (by omega) ⟨H,I.tok _,q⟩
 | D9 y =>
  obtain⟨t,rfl⟩:=rx
  obtain⟨hy,e'⟩:y.size <= sizeLine/\k=((y.size:Int) != 0):=e
  subst e'
  exact PySem.W.truthy_bytes (by omega) ⟨H,I.tok _,q⟩
 | ref p =>
  cases rx
  have e':(∃ xs,zU X.K H p xs/\k = !xs.isEmpty)∨(∃ xs,Ab X.K H p xs/\k = !xs.isEmpty)∨∃ kvs,H p=some (.dK kvs)/\k = !kvs.isEmpty:=e
  rcases e' with ⟨xs,hx,e'⟩ | ⟨xs,hx,e'⟩ | ⟨kvs,hx,e'⟩
  ·subst e'
   obtain⟨zT,r,pl,hz⟩:=I.list hx
   have hlen:=r.length
   exact wpAny_truthy_list pl.isList (by simp only[size_toArray];omega) ⟨H,I.tok _,by rw[j4 r];exact q⟩
  ·subst e'
   obtain⟨zT,r,pl,hz⟩:=I.tuple hx
   have hlen:=r.length
   exact truthy_tuple pl (by simp only[size_toArray];omega) ⟨H,I.tok _,by rw[j4 r];exact q⟩
  ·subst e'
   obtain⟨hz,hS,vs,r,m⟩:kvs.length <= sizeLine/\(p == sysModules)=false/\∃ vs,KV kvs vs/\s.heap.DictOf (aS X.prog X.w) p vs:=I.zV p _ hx
   have hlen:kvs.length=vs.length:=Paired.length r
   exact wpAny_truthy_dict hS m (by omega) ⟨H,I.tok _,by rw[oX r];exact q⟩
 | _=>exact(show False from e).elim
theorem gN (ha:PE X a ta)(he:∀ whole,isTrue a X.env whole=(do let v ← whole;standAt a.pos;holding [v] (truthy v))) :
  PT X a (fun σ H Q=>ta σ H fun x H'=>∃ k,Kt X.K x H' k/\Q k H'):=by
 intro pins s σ H Q I h
 exact isTrue_plain (aP (ha pins s σ H _ I h) fun v s1 zS=>by obtain⟨x,H1,I1,r1,q1⟩:=zS;exact xG pins s1 σ H1 x v Q I1 r1 q1) (he _)
theorem jU {x:V}{us:List Value}(r:Vals [x] us):∃ u,us=[u]/\RelV x u:=by
 cases r with
 | cons r1 r2=>cases r2;exact⟨_,rfl,r1⟩
theorem vals2 {x y:V}{us:List Value}(r:Vals [x,y] us):∃ u w',us=[u,w']/\RelV x u/\RelV y w':=by
 cases r with
 | cons r1 r2 =>
  cases r2 with
  | cons r3 r4=>cases r4;exact⟨_,_,rfl,r1,r3⟩
theorem uY:dv X (.builtin "abs") (fun xs H Q=>∃ i,xs=[.int i]/\Q (.int (if i < 0 then -i else i)) H):=by
 intro pins s σ H xs us Q I r h
 obtain⟨i,rfl,q⟩:=h
 obtain⟨u,rfl,t,rfl⟩:=jU r
 exact call_abs_int fun u tk=>⟨.int (if i < 0 then -i else i),H,I.tok _,⟨_,rfl⟩,q⟩
theorem rC (hc:X.calm=true):dv X (.builtin "max") (fun xs H Q=>∃ i j,xs=[.int i, .int j]/\Q (.int (if j > i then j else i)) H):=by
 intro pins s σ H xs us Q I r h
 obtain⟨i,j,rfl,q⟩:=h
 obtain⟨u,w',rfl,⟨t,rfl⟩,⟨t',rfl⟩⟩:=vals2 r
 refine max_two_ints (I.ok.hd hc) fun h' tk k=>⟨_,H,I.kept k,?_,q⟩
 by_cases hj:j > i
 ·rw[if_pos hj,if_pos hj];exact⟨_,rfl⟩
 ·rw[if_neg hj,if_neg hj];exact⟨_,rfl⟩
end
structure Dp (h:Heap)(x dx C:Addr)(mA:Str->Option Value):Prop where
 obj:h.get? x=some (PySem.W.instObj C dx)
 ns:h.Ns1 dx mA
 ne:dx ≠ x
theorem qY {h:Heap}{dx:Addr}{mA:Str->Option Value}(n:h.Ns1 dx mA):∃ od,h.get? dx=some od/\∀ name,PySem.W.lookIn name od=some (mA name):=by
 obtain⟨o,es,ep,ho,hd,hk,_,hm⟩:=n
 refine⟨o,ho,fun name=>?_⟩
 have e:=hm name
 unfold nsFind findBy at e
 rw[← Array.find?_toList]at e
 unfold PySem.W.lookIn
 rw[hd]
 dsimp only
 split
 ·rename_i y q
  rw[q]at e
  exact congrArg some e
 ·rename_i q
  rw[q]at e
  have a:es.toList.any (·.refKey)=false:=by
   rw[List.any_eq_false]
   intro y hy
   obtain⟨z,t,Qw⟩:=hk y (Array.mem_toList_iff.mp hy)
   simp[DictEntry.refKey,Qw]
  have a':¬ es.toList.any (·.refKey)=true:=by rw[a];exact Bool.false_ne_true
  rw[if_neg a']
  exact congrArg some e
theorem Dp.look {h:Heap}{x dx C:Addr}{mA:Str->Option Value}(I:Dp h x dx C mA):∃ od,PySem.W.InstAt h x (PySem.W.instObj C dx) C (some od)/\∀ name,PySem.W.lookIn name od=some (mA name) :=
 let ⟨od,ho,hl⟩:=qY I.ns
 ⟨od,⟨I.obj,rfl,rfl,ho⟩,hl⟩
section
variable {prog:Program}{w:World}{A:Around}{E:Value->Shared->Prop}{s:Shared}{K:Frag}{x dx C f:Addr}{mA:Str->Option Value}{name:Str}{v:Value}
theorem wO {expr:Bool}{Q:Value->Shared->Prop}(X:K.In s.heap)(I:Dp s.heap x dx C mA)(hg:plainGet K C name=true)(hh:hasDictIn K C=true)
  (ha:findIn K (.ref C) name=some none) (hv:mA name=some v) (Jr:PySem.W.handedIn v=true) (h:Q v { s with toks:=s.toks + 1 }) :
  wpAny (model prog w) A (getAttr (.ref x) name expr) Q E s:=by
 obtain⟨od,J,hl⟩:=I.look
 exact PySem.W.get_value X J (PySem.W.plainGet_of hg).1 (PySem.W.findObj_own hh ha rfl (by rw[hl,hv])) Jr h
theorem uF {pl:Sem Bool}{Q:Value × List Value->Shared->Prop}(X:K.In s.heap)(I:Dp s.heap x dx C mA)(hg:plainGet K C name=true)
  (hf:findIn K (.ref C) name=some (some (.ref f))) (ht:isFn K (.ref f)=true) (hv:mA name=none) (h:Q (.ref f,[.ref x]) s) :
  wpAny (model prog w) A (getMethod (.ref x) name pl) Q E s:=by
 obtain⟨od,J,hl⟩:=I.look
 exact PySem.W.method_fn X J (PySem.W.plainGet_of hg).1 (PySem.W.plainGet_of hg).2 hf (beq_iff_eq.mp ht) (by show(PySem.W.lookIn name od).map (·.isSome)=some false;rw[hl,hv];rfl) h
theorem vy {ns:List Str}{Q:Unit->Shared->Prop}(X:K.In s.heap)(I:Dp s.heap x dx C mA)
  (hs:findIn K (.ref C) "__setattr__" = some (some (.builtin "object.__setattr__"))) (hp:plainOver K C=true) (ht:PySem.W.takerIn K C name=some none) (hh:hasDictIn K C=true)
  (hw:PySem.Within mA ns) (hsz:ns.length <= sizeLine)
  (h:∀ h',Dp h' x dx C (fun y=>if y=name then some v else mA y)->Heap.SameBut dx s.heap h'->Q () { s with heap:=h',toks:=s.toks + 2 }) :
  wpAny (model prog w) A (setAttr (.ref x) name v) Q E s:=by
 obtain⟨od,J,hl⟩:=I.look
 refine PySem.W.set_plain X J hs (PySem.W.osa_open (s:={ s with toks:=s.toks + 1 }) (r:=none) X J hp ht fun b=>?_)
 obtain⟨cd,hc,HQ⟩:=PySem.W.any_some hh
 have hx:s.heap.get? x=some ⟨.ref C,some dx, .plain,#[]⟩:=I.obj
 refine wpAny_bind (wpAny_pure (wpAny_bind (wpAny_bind (wpAny_loadPart hx (wpAny_bind (PySem.W.Looks.here (s:={ s with toks:=s.toks + 1 }) (PySem.W.looks_clsIn X hc) ?_))))))
 rw[HQ]
 refine wpAny_pure (a:=some dx) (wpAny_bind (wpAny_pure (wpAny_bind ?_)))
 refine wpAny_nsSet1 (s:={ s with toks:=s.toks + 1 }) I.ns fun h' Eh EV=>?_
 obtain⟨oD,V6,V7,Ku,Js,Kv⟩:=Eh.count (PySem.Within.cons name v hw)
 refine wpAny_bind (wpAny_lookBehind Ku (by rw[Js];exact pastItsLine_dict (le_trans Kv (by rw[length_cons];omega))) ?_)
 exact wpAny_pure (h _ ⟨(EV.2 _ (Ne.symm I.ne)).trans I.obj,Eh,I.ne⟩ EV)
theorem u9 {R:Result->Shared->Prop}{vs:List Value}{kw:List (Str × Value)}(X:K.In s.heap)(hm:makesIn K C=true)
  (hi:findIn K (.ref C) "__init__" = some (some (.ref f))) (hf:PySem.W.typeIn K (.ref f)=some (.type "function"))
  (h:codeAny (model prog w) (A.under (.builtin "type.__call__" ⟨.ref C :: vs,kw⟩)) (.call (.ref f) ⟨.ref (s.heap.objs.size + 1) :: vs,kw⟩) (PySem.W.InitBack (s.heap.objs.size + 1) R)
   { s with heap:=(s.heap.push PySem.W.emptyDict).push (PySem.W.instObj C s.heap.objs.size) }) :
  codeAny (model prog w) A (.call (.ref C) ⟨vs,kw⟩) R s:=by
 obtain⟨hh,g,d,t,os⟩:=s
 exact PySem.W.make_core (PySem.W.makes_of X hm) (PySem.W.looks_findIn X hi) (fun self=>PySem.W.bind_fn X self hf) (.inl rfl) h
end
noncomputable def aK (f:Str)(v:V):List (Str × V)->List (Str × V)
 | []=>[(f,v)]
 | (g,x) :: r=>if g=f then (g,v) :: r else (g,x) :: aK f v r
theorem fz (f g:Str)(v:V):∀ fs:List (Str × V),(aK f v fs).lookup g=if g=f then some v else fs.lookup g
 | []=>by
  show List.lookup g [(f,v)]=_
  by_cases h:g=f
  ·have hb:(g == f)=true:=beq_iff_eq.mpr h
   simp only[List.lookup,hb,if_pos h]
  ·have hb:(g == f)=false:=beq_eq_false_iff_ne.mpr h
   simp only[List.lookup,hb,if_neg h]
 | (k,x) :: r=>by
  have ih:=fz f g v r
  rw[show aK f v ((k,x) :: r)=(if k=f then (k,v) :: r else (k,x) :: aK f v r) from rfl]
  by_cases hk:k=f
  ·rw[if_pos hk]
   by_cases h:g=k
   ·have hb:(g == k)=true:=beq_iff_eq.mpr h
    simp only[List.lookup,hb,if_pos (h.trans hk)]
   ·have hb:(g == k)=false:=beq_eq_false_iff_ne.mpr h
    simp only[List.lookup,hb,if_neg (fun e:g=f=>h (e.trans hk.symm))]
  ·rw[if_neg hk]
   by_cases h:g=k
   ·have hb:(g == k)=true:=beq_iff_eq.mpr h
    simp only[List.lookup,hb,if_neg (fun e:g=f=>hk (h.symm.trans e))]
   ·have hb:(g == k)=false:=beq_eq_false_iff_ne.mpr h
    simp only[List.lookup,hb]
    exact ih
theorem iy (f:Str)(v:V):∀ fs:List (Str × V),f ∈ (aK f v fs).map (·.1)/\∀ g,g ∈ fs.map (·.1)->g ∈ (aK f v fs).map (·.1)
 | []=>⟨by simp[aK],fun g h=>by simp at h⟩
 | (k,x) :: r=>by
  obtain⟨i1,i2⟩:=iy f v r
  rw[show aK f v ((k,x) :: r)=(if k=f then (k,v) :: r else (k,x) :: aK f v r) from rfl]
  by_cases hk:k=f
  ·rw[if_pos hk]
   subst hk
   exact⟨by simp,fun g h=>by simpa using h⟩
  ·rw[if_neg hk]
   refine⟨?_,fun g h=>?_⟩
   ·rw[map_cons]
    exact mem_cons_of_mem _ i1
   ·rw[map_cons]at h ⊢
    rcases mem_cons.mp h with e | e
    ·exact mem_cons.mpr (.inl e)
    ·exact mem_cons_of_mem _ (i2 g e)
theorem iA (f:Str)(v:V):∀ fs:List (Str × V),(aK f v fs).length <= fs.length + 1
 | []=>by simp[aK]
 | (k,x) :: r=>by
  have ih:=iA f v r
  rw[show aK f v ((k,x) :: r)=(if k=f then (k,v) :: r else (k,x) :: aK f v r) from rfl]
  by_cases hk:k=f
  ·rw[if_pos hk,length_cons,length_cons];omega
  ·rw[if_neg hk,length_cons,length_cons];omega
theorem AK.some_of {v:V}{o:Option Value}(r:AK (some v) o):∃ u,o=some u/\RelV v u:=by
 cases o with
 | none=>exact(show False from r).elim
 | some u=>exact⟨u,rfl,r⟩
theorem AK.none_of {o:Option Value}(r:AK none o):o=none:=by
 cases o with
 | none=>rfl
 | some u=>exact(show False from r).elim
theorem rl {v:V}{u:Value}(r:RelV v u):PySem.W.handedIn u=true:=by
 cases v with
 | Af=>cases (show u=Value.none from r);rfl
 | bl b=>cases (show u=Value.bool b from r);rfl
 | int i=>obtain⟨t,e⟩:=(show ∃ t,u=Value.int i t from r);cases e;rfl
 | str x=>obtain⟨t,e⟩:=(show ∃ t,u=Value.str x t from r);cases e;rfl
 | D9 b=>obtain⟨t,e⟩:=(show ∃ t,u=Value.bytes b t from r);cases e;rfl
 | HM b=>obtain⟨t,e⟩:=(show ∃ t,u=Value.float b t from r);cases e;rfl
 | ref a=>cases (show u=Value.ref a from r);rfl
 | ty n=>cases (show u=Value.type n from r);rfl
section
variable {P:Program}{w:World}{H H':Hp}{h h':Heap}{a C dx:Addr}{fs AD:List (Str × V)}
theorem iX (zV:AY P w H h)(e:H a=some (.ins C dx fs)):∃ mA,Dp h a dx C mA/\(∀ f,AK (fs.lookup f) (mA f))/\PySem.Within mA (fs.map (·.1))/\fs.length <= 1000/\H dx=some (.own a):=by
 obtain⟨d,z,ne,ob,mA,n,r,q⟩:=(show Ag P w H h a (.ins C dx fs) from zV a _ e)
 exact⟨mA,⟨ob,n,ne⟩,r,q,z,d⟩
end
structure Cr (K:Frag)(C:Addr):Prop where
 pg:plainGet K C Str.empty=true
 hd:hasDictIn K C=true
 po:plainOver K C=true
 sa:findIn K (.ref C) "__setattr__" = some (some (.builtin "object.__setattr__"))
theorem Cr.get {K:Frag}{C:Addr}(c:Cr K C)(f:Str):plainGet K C f=true:=c.pg
noncomputable def Ac (K:Frag)(C:Addr)(f:Str):Prop:=findIn K (.ref C) f=some none
theorem Ac.Kw {K:Frag}{C:Addr}{f:Str}(n:Ac K C f):PySem.W.takerIn K C f=some none:=by
 unfold PySem.W.takerIn
 rw[show findIn K (.ref C) f=some none from n]
 rfl
structure bu (K:Frag)(C:Addr)(m:Str)(f:Addr):Prop where
 at_:findIn K (.ref C) m=some (some (.ref f))
 fn:isFn K (.ref f)=true
 kp:keepIn K (.ref f)=true
section
variable {X:Cx}{pins:List (Addr × Obj)}{σ:St}{H:Hp}{s:Shared}{a C dx:Addr}{fs:List (Str × V)}{f:Str}{v:V}{A:Around}{E:Value->Shared->Prop}
theorem j6 {b:Bool}{Q:Value->Shared->Prop}(I:Inv X pins σ H s)(e:H a=some (.ins C dx fs))(c:Cr X.K C)(n:Ac X.K C f)(l:fs.lookup f=some v)
  (h:∀ u s',Inv X pins σ H s'->RelV v u->Q u s'):wpAny (model X.prog X.w) A (getAttr (.ref a) f b) Q E s:=by
 obtain⟨mA,O,r,_,_,_⟩:=iX I.zV e
 obtain⟨u,hu,ru⟩:=AK.some_of (v:=v) (o:=mA f) (by rw[← l];exact r f)
 exact wO I.AQ O (c.get f) c.hd n hu (rl ru) (h u _ (I.tok _) ru)
theorem j5 {m:Str}{g:Addr}{pl:Sem Bool}{Q:Value × List Value->Shared->Prop}(I:Inv X pins σ H s)(e:H a=some (.ins C dx fs))(c:Cr X.K C)(k:bu X.K C m g)(l:fs.lookup m=none)
  (h:Q (.ref g,[.ref a]) s):wpAny (model X.prog X.w) A (getMethod (.ref a) m pl) Q E s:=by
 obtain⟨mA,O,r,_,_,_⟩:=iX I.zV e
 have hn:mA m=none:=AK.none_of (by rw[← l];exact r m)
 exact uF I.AQ O (c.get m) k.at_ k.fn hn h
theorem jk {y:V}{u:Value}{Q:Unit->Shared->Prop}(I:Inv X pins σ H s)(e:H a=some (.ins C dx fs))(c:Cr X.K C)(n:Ac X.K C f)(hl:fs.length < 1000)(ry:RelV y u)
  (h:∀ s',Inv X pins σ (upd H a (.ins C dx (aK f y fs))) s'->Q () s'):wpAny (model X.prog X.w) A (setAttr (.ref a) f u) Q E s:=by
 obtain⟨mA,O,r,wi,_,ho⟩:=iX I.zV e
 have hz:(fs.map (·.1)).length <= sizeLine:=by rw[length_map,sizeLine_eq];omega
 refine vy I.AQ O c.sa c.po n.Kw c.hd wi hz fun h' O' sb=>h _ ?_
 have hd:∃ o,h'.get? dx=some o:=let ⟨o,_,_,e',_⟩:=O'.ns; ⟨o,e'⟩
 refine I.write (x:=a) (e:=dx) (by rw[e];exact True.intro) (.inr ho) (fun b q hb z=>(sb.2 b hb).trans z) hd ?_
 refine⟨by rw[ae O.ne];exact ho,?_,O.ne,O'.obj,_,O'.ns,fun g=>?_,fun g hg=>?_⟩
 ·have:=iA f y fs;omega
 ·show AK ((aK f y fs).lookup g) (if g=f then some u else mA g)
  rw[fz]
  by_cases q:g=f
  ·rw[if_pos q,if_pos q];exact ry
  ·rw[if_neg q,if_neg q];exact r g
 ·by_cases q:g=f
  ·rw[q];exact(iy f y fs).1
  ·refine(iy f y fs).2 g (wi g fun z=>hg ?_)
   show(if g=f then some u else mA g)=none
   rw[if_neg q];exact z
theorem Inv.made (I:Inv X pins σ H s):Inv X pins σ (upd (upd H s.heap.objs.size (.own (s.heap.objs.size + 1))) (s.heap.objs.size + 1) (.ins C s.heap.objs.size []))
  { s with heap:=(s.heap.push PySem.W.emptyDict).push (PySem.W.instObj C s.heap.objs.size) }:=by
 have e1:(s.heap.push PySem.W.emptyDict).get? s.heap.objs.size=some PySem.W.emptyDict:=Heap.get?_push_size s.heap rfl
 have e2:((s.heap.push PySem.W.emptyDict).push (PySem.W.instObj C s.heap.objs.size)).get? (s.heap.objs.size + 1)=some (PySem.W.instObj C s.heap.objs.size):=by
  have:=Heap.get?_push_size (s.heap.push PySem.W.emptyDict) (o:=PySem.W.instObj C s.heap.objs.size) rfl
  rwa [size_push]at this
 have e3:(s.heap.push PySem.W.emptyDict).Ns s.heap.objs.size (fun _=>none):=⟨PySem.W.emptyDict,#[],_,e1,rfl,(fun e he=>absurd he (by simp)),fun _=>rfl⟩
 have I1:=I.laid (a:=s.heap.objs.size) (o := .own (s.heap.objs.size + 1)) (h':=s.heap.push PySem.W.emptyDict) (t':=s.toks) (fun b u q=>Heap.get?_push_of_some _ q) (Nat.le_refl _) ⟨_,e1⟩
 refine I1.laid (a:=s.heap.objs.size + 1) (o := .ins C s.heap.objs.size []) (t':=s.toks) (fun b u q=>Heap.get?_push_of_some _ q) (le_of_eq (size_push _ _)) ?_
 have ne:s.heap.objs.size ≠ s.heap.objs.size + 1:=ne_of_lt (lt_succ_self _)
 refine⟨by rw[ae ne,ac],zero_le _,ne,e2,fun _=>none,(Heap.Ns1.of_empty e3).at fun o q=>Heap.get?_push_of_some _ q,fun _=>True.intro,fun y hy=>absurd rfl hy⟩
theorem wY {prog:Program}{w:World}{env:Env}{e:Expr}{f:Str}{pos:Pos}{s:Shared}{Q:Value->Shared->Prop}(hb:attributeBase e f env (eval e env)=eval e env)
  (h:wpAny (model prog w) A (eval e env) (fun o s₁=>wpAny (model prog w) A (getAttr o f true) Q E s₁) E s):wpAny (model prog w) A (eval (.Attribute e f pos) env) Q E s :=
 Attribute_any_ h (by rw[arm_eval_Attribute,hb])
end
noncomputable def rS (K:Frag)(ta:TE)(f:Str):TE:=fun σ H Q=>ta σ H fun x H1=>∃ a C dx fs v,x = .ref a/\H1 a=some (.ins C dx fs)/\Cr K C/\Ac K C f/\fs.lookup f=some v/\Q v H1
noncomputable def Qx (K:Frag)(ta tv:TE)(f:Str):TS:=fun D σ H=>tv σ H fun y H1=>ta σ H1 fun x H2=>∃ a C dx fs,x = .ref a/\H2 a=some (.ins C dx fs)/\Cr K C/\Ac K C f/\fs.length < 1000 /\
 D.nx σ (upd H2 a (.ins C dx (aK f y fs)))
noncomputable def Qy (X:Cx)(op:Operator)(rd:V->V->Hp->VK->Prop):Prop :=
 ∀ (pins:List (Addr × Obj))(s:Shared)(σ:St)(H:Hp)(x y:V)(u v:Value)(Q:VK),Inv X pins σ H s->RelV x u->RelV y v->rd x y H Q->wpAny (model X.prog X.w) X.A (inplaceOp op u v) (EP X pins σ Q) X.xe s
noncomputable def vB (K:Frag)(ta tv:TE)(rd:V->V->Hp->VK->Prop)(f:Str):TS:=fun D σ H=>ta σ H fun x H1=>∃ a C dx fs v,x = .ref a/\H1 a=some (.ins C dx fs)/\Cr K C/\Ac K C f/\fs.lookup f=some v /\
 tv σ H1 fun y H2=>rd v y H2 fun z H3=>∃ DR AD,H3 a=some (.ins C DR AD)/\AD.length < 1000/\D.nx σ (upd H3 a (.ins C DR (aK f z AD)))
section
variable {X:Cx}{o e value:Expr}{f:Str}{pos pos' DS:Pos}{ta tv:TE}
theorem al (he:PE X e ta)(hb:attributeBase e f X.env (eval e X.env)=eval e X.env):PE X (.Attribute e f pos) (rS X.K ta f):=by
 intro pins s σ H Q I h
 refine wY hb (aP (he pins s σ H _ I h) fun u s1 zS=>?_)
 obtain⟨x,H1,I1,rx,a,C,dx,fs,v,ex,ea,c,n,l,q⟩:=zS
 subst ex
 obtain rfl:u=Value.ref a:=rx
 exact j6 I1 ea c n l fun u' s2 I2 ru=>⟨v,H1,I2,ru,q⟩
theorem aU (ha:PE X o ta)(hv:PE X value tv)(hs:swapsWith value (some (.Attribute o f pos')) pos.line X.env=pure false):PS X (.Assign [.Attribute o f pos'] value pos) (Qx X.K ta tv f):=by
 intro pins s σ H D I h
 refine plainObj_wpAny_Assign_Attribute (aP (hv pins s σ H _ I h) fun u s1 ⟨y,H1,I1,ry,q⟩=>aP (ha pins s1 σ H1 _ I1 q) fun ov s2 zS=>?_) hs
 obtain⟨x,H2,I2,rx,a,C,dx,fs,ex,ea,c,n,l,q2⟩:=zS
 subst ex
 obtain rfl:ov=Value.ref a:=rx
 exact jk I2 ea c n l ry fun s3 I3=>⟨σ,_,I3,q2⟩
theorem dM {op:Operator}{rd:V->V->Hp->VK->Prop}(ha:PE X o ta)(hv:PE X value tv)(CP:Qy X op rd):PS X (.AugAssign (.Attribute o f DS) op value pos) (vB X.K ta tv rd f):=by
 intro pins s σ H D I h
 refine wpAny_AugAssign_AttributeAny (aP (ha pins s σ H _ I h) fun ov s1 zS=>?_)
 obtain⟨x,H1,I1,rx,a,C,dx,fs,v,ex,ea,c,n,l,q⟩:=zS
 subst ex
 obtain rfl:ov=Value.ref a:=rx
 refine j6 I1 ea c n l fun u s2 I2 ru=>aP (hv pins s2 σ H1 _ I2 q) fun w3 s3 ⟨y,H2,I3,ry,q3⟩=>aP (CP pins s3 σ H2 v y u w3 _ I3 ru ry q3) fun w4 s4 zS=>?_
 obtain⟨z,H3,I4,rz,DR,AD,ea',l',q4⟩:=zS
 exact jk I4 ea' c n l' rz fun s5 I5=>⟨σ,_,I5,q4⟩
end
section
variable {X:Cx}{pins:List (Addr × Obj)}{σ:St}{H:Hp}{s:Shared}{A:Around}{E:Value->Shared->Prop}{Q:Value->Shared->Prop}{c:Value}{b:Bool}
inductive i7 (K:Frag)(H:Hp):V->Value->Prop where
 | Af:i7 K H .Af (.type "NoneType")
 | bl (x:Bool):i7 K H (.bl x) (.type "bool")
 | int (i:Int):i7 K H (.int i) (.type "int")
 | str (x:Str):i7 K H (.str x) (.type "str")
 | HM (x:UInt64):i7 K H (.HM x) (.type "float")
 | lst {a:Addr} {xs:List V} (e:H a=some (.lst xs)):i7 K H (.ref a) (.type "list")
 | BA {a:Addr} {o:Obj} {xs:List V} (e:H a=some (.BA o (.lst xs))):i7 K H (.ref a) (.type "list")
 | tup {a:Addr} {xs:List V} (e:H a=some (.tup xs)):i7 K H (.ref a) (.type "tuple")
 | dK {a:Addr} {kvs:List (bX × V)} (e:H a=some (.dK kvs)):i7 K H (.ref a) (.type "dict")
 | dT {a:Addr} {kvs:List (List bX × V)} (e:H a=some (.dT kvs)):i7 K H (.ref a) (.type "dict")
 | ins {a C dx:Addr} {fs:List (Str × V)} (e:H a=some (.ins C dx fs)) (cl:Cr K C) (ha:findIn K (.ref C) "__class__" = some (some (.builtin "object.__class__")))
   (hn:PySem.W.specialIn K (.builtin "object.__class__") "__get__" = some (some (.builtin "getset_descriptor.__get__"))) (V8:PySem.W.takesIn K (.builtin "object.__class__")=some true)
   (hm:PySem.W.mroIn K C (.type "object")=some true):i7 K H (.ref a) (.ref C)
theorem rf {x:V}{u t:Value}(I:Inv X pins σ H s)(rx:RelV x u)(ty:i7 X.K H x t)(e:kitOne X.K t c=some b)(h:∀ tk,Q (.bool b) { s with toks:=tk }) :
  wpAny (model X.prog X.w) A (call (.builtin "isinstance") [u,c]) Q E s:=by
 cases ty with
 | Af=>cases (show u=Value.none from rx);exact PySem.W.kia_one PySem.W.kitx_none I.AQ True.intro e (fun z=>nomatch z) h
 | bl y=>cases (show u=Value.bool y from rx);exact PySem.W.kia_one PySem.W.kitx_bool I.AQ True.intro e (fun z=>nomatch z) h
 | int i=>obtain⟨t,q⟩:=(show ∃ t,u=Value.int i t from rx);cases q;exact PySem.W.kia_one PySem.W.kitx_int I.AQ True.intro e (fun z=>nomatch z) h
 | str y=>obtain⟨t,q⟩:=(show ∃ t,u=Value.str y t from rx);cases q;exact PySem.W.kia_one PySem.W.kitx_str I.AQ True.intro e (fun z=>nomatch z) h
 | HM y=>obtain⟨t,q⟩:=(show ∃ t,u=Value.float y t from rx);cases q;exact PySem.W.kia_one PySem.W.kitx_float I.AQ True.intro e (fun z=>nomatch z) h
 | @lst a xs ea =>
  cases (show u=Value.ref a from rx)
  obtain⟨_,_,n,_,h1⟩:=(show Ag X.prog X.w H s.heap a (.lst xs) from I.zV a _ ea)
  exact PySem.W.kia_one PySem.W.kitx_list I.AQ ⟨_,h1,rfl⟩ e (fun z=>nomatch z) h
 | @BA a ob xs ea =>
  cases (show u=Value.ref a from rx)
  obtain⟨_,_,_,n,_,h1⟩:=(show Ag X.prog X.w H s.heap a (.BA ob (.lst xs)) from I.zV a _ ea)
  exact PySem.W.kia_one PySem.W.kitx_list I.AQ ⟨_,h1,rfl⟩ e (fun z=>nomatch z) h
 | @tup a xs ea =>
  cases (show u=Value.ref a from rx)
  obtain⟨_,_,_,p⟩:=(show Ag X.prog X.w H s.heap a (.tup xs) from I.zV a _ ea)
  obtain⟨o,h1,⟨h2,_⟩,_⟩:=p
  exact PySem.W.kia_one PySem.W.kitx_tuple I.AQ ⟨o,h1,h2⟩ e (fun z=>nomatch z) h
 | @dK a kvs ea =>
  cases (show u=Value.ref a from rx)
  obtain⟨_,_,vs,_,p⟩:=(show Ag X.prog X.w H s.heap a (.dK kvs) from I.zV a _ ea)
  obtain⟨o,es,ep,h1,h2,_⟩:=p
  exact PySem.W.kia_one PySem.W.kitx_dict I.AQ ⟨o,h1,h2.1⟩ e (fun z=>nomatch z) h
 | @dT a kvs ea =>
  cases (show u=Value.ref a from rx)
  obtain⟨_,_,xs,_,o,es,ep,h1,h2,_⟩:=(show Ag X.prog X.w H s.heap a (.dT kvs) from I.zV a _ ea)
  exact PySem.W.kia_one PySem.W.kitx_dict I.AQ ⟨o,h1,h2.1⟩ e (fun z=>nomatch z) h
 | @ins a C dx fs ea cl ha hn V8 hm =>
  cases (show u=Value.ref a from rx)
  obtain⟨mA,O,_⟩:=iX I.zV ea
  obtain⟨od,J,_⟩:=O.look
  exact PySem.W.kia_one (PySem.W.kitx_own (cl.get _) cl.hd ha hn V8 hm) I.AQ J e (fun z=>nomatch z) h
end
structure zZ (k:Nat)(A:Around):Prop where
 hd:A.handled=none
 dp:A.depth + 3 * k + 5 < recursionLimit
 un:A.units + 16 * k + 200 < cLine
theorem zZ.mono {j k:Nat}{A:Around}(r:zZ k A)(h:j <= k):zZ j A:=⟨r.hd,by have:=r.dp;omega,by have:=r.un;omega⟩
theorem zZ.deeper {k:Nat}{A:Around}(r:zZ (k + 1) A)(env:Env):zZ k (A.deeper env) :=
 ⟨r.hd,by have:=r.dp;show A.depth + 1 + 3 * k + 5 < _;omega,by have:=r.un;show A.units + 3 + 16 * k + 200 < _;omega⟩
theorem oQ {A:Around}{C:Addr}{us:List Value}{kw:List (Str × Value)}:(A.under (.builtin "type.__call__" ⟨.ref C :: us,kw⟩)).depth=A.depth + 1:=by
 first | rfl | simp[Around.under,Code.weight,Code.isCreation,Code.isGuard,Code.isCaller,Code.frames,Code.isFrame,guardIds]
theorem oP {A:Around}{C:Addr}{us:List Value}{kw:List (Str × Value)}:(A.under (.builtin "type.__call__" ⟨.ref C :: us,kw⟩)).units=A.units + 1:=by
 first | rfl | simp[Around.under,Code.cUnits,Code.frames,Code.isFrame]
theorem zZ.make {k:Nat}{A:Around}(r:zZ (k + 1) A)(C:Addr)(us:List Value)(kw:List (Str × Value)):zZ k (A.under (.builtin "type.__call__" ⟨.ref C :: us,kw⟩)) :=
 ⟨r.hd,by have:=r.dp;rw[oQ];omega,by have:=r.un;rw[oP];omega⟩
theorem zZ.depth {k:Nat}{A:Around}(r:zZ k A):A.depth < recursionLimit:=by have:=r.dp;omega
theorem zZ.units {k:Nat}{A:Around}(r:zZ k A):A.units + 64 < cLine:=by have:=r.un;omega
noncomputable def Kx:TA:=fun _ H Q=>Q [] H
noncomputable def Ky (ta:TE)(tr:TA):TA:=fun σ H Q=>ta σ H fun x H1=>tr σ H1 fun xs H2=>Q (x :: xs) H2
section
variable {X:Cx}{e:Expr}{es:List Expr}{te:TE}{t:TA}{pos:Pos}
theorem ad:PA X [] Kx:=fun _ _ _ _ H Q I h=>Calls.spliced_nil ⟨[],H,I, .nil,h⟩
theorem aa (ha:PE X e te)(hr:PA X es t)(hs:autoParam (starEach (e :: es) X.env=(false,eval e X.env) :: starEach es X.env) η):PA X (e :: es) (Ky te t):=by
 intro pos pins s σ H Q I h
 rw[hs]
 show wpAny _ _ (spliced ((false,eval e X.env) :: backTo pos (starEach es X.env))) _ _ s
 refine Calls.spliced_cons (aP (ha pins s σ H _ I h) fun u s1 zS=>?_)
 obtain⟨x,H1,I1,r1,q1⟩:=zS
 exact aP (hr pos pins s1 σ H1 _ I1 q1) fun us s2 zS=>by obtain⟨xs,H2,I2,r2,q2⟩:=zS;exact⟨x :: xs,H2,I2, .cons r1 r2,q2⟩
noncomputable def Qz (t:TA):TE:=fun σ H Q=>t σ H fun xs H1=>xs.length <= sizeLine/\∀ p,H1 p=none->Q (.ref p) (upd H1 p (.tup xs))
noncomputable def Q0 (t:TA):TE:=fun σ H Q=>t σ H fun xs H1=>xs.length <= sizeLine/\∀ p,H1 p=none->Q (.ref p) (upd H1 p (.lst xs))
theorem bK {x1} (h:PA X es t):PE X (.Tuple es x1 pos) (Qz t):=by
 intro pins s σ H Q I hq
 refine wpAny_Tuple_spliced (aP (h pos pins s σ H _ I hq) fun us s1 ⟨xs,H1,I1,r,z,q⟩=>⟨by rw[← r.length];exact z,?_⟩)
 have hf:H1 s1.heap.objs.size=none:=I1.zV.fresh (Nat.le_refl _)
 refine⟨.ref s1.heap.objs.size,upd H1 s1.heap.objs.size (.tup xs),I1.laid (t':=s1.toks) (fun b u e=>Heap.get?_push_of_some _ e) (Nat.le_refl _) ?_,rfl,q _ hf⟩
 exact⟨z,us,r,⟨_,Heap.get?_push_size _ rfl,⟨rfl,_,rfl⟩,rfl⟩⟩
theorem aV (h:PA X es t):PE X (.List es pos) (Q0 t):=by
 intro pins s σ H Q I hq
 refine wpAny_List_spliced (aP (h pos pins s σ H _ I hq) fun us s1 ⟨xs,H1,I1,r,z,q⟩=>⟨by rw[← r.length];exact z,?_⟩)
 have hf:H1 s1.heap.objs.size=none:=I1.zV.fresh (Nat.le_refl _)
 refine⟨.ref s1.heap.objs.size,upd H1 s1.heap.objs.size (.lst xs),I1.laid (t':=s1.toks) (fun b u e=>Heap.get?_push_of_some _ e) (Nat.le_refl _) ?_,rfl,q _ hf⟩
 exact⟨z,us,0,r,Heap.get?_push_size _ rfl⟩
end
abbrev Sp:=List V->Hp->VK->XK->Prop
abbrev lJ:=List Env->Hp->Shared->XK->Value->Shared->Prop
structure CQ (P:Program)(w:World)(K:Frag)(mg:Str->Option Value)(base:Heap)(A:Around)(outer:List Env)(s:Shared)(H:Hp):Prop where
 frames:A.frames=some outer
 mod:Mod K mg base
 bs:∀ b o,base.get? b=some o->s.heap.get? b=some o/\H b=none
 Ee:base.objs.size <= s.heap.objs.size
 Bl:s.heap.FunFrames base outer
 ET:∀ b ∈ j8 outer,H b=none
 zV:AY P w H s.heap
 bare:AllBare s.gens
noncomputable def CE (outer:List Env)(P:Program)(w:World)(H:Hp)(s:Shared)(Q:VK)(u:Value)(s':Shared):Prop :=
 ∃ v H',s'.os=s.os/\AllBare s'.gens/\Un (j8 outer) [] H H' s.heap s'.heap/\AY P w H' s'.heap/\RelV v u/\Q v H'
noncomputable def CR (CX:lJ)(outer:List Env)(P:Program)(w:World)(H:Hp)(s:Shared)(Q:VK)(E:XK)(r:Result)(s':Shared):Prop :=
 match r with
 | .ok (.ret u)=>CE outer P w H s Q u s'
 | .ok _=>False
 | .error e=>CX outer H s E e s'
structure zP (P:Program)(w:World)(K:Frag)(mg:Str->Option Value)(base:Heap)(CX:lJ)(k:Nat)(f:Addr)(fd:FuncData)(ps:List Str)(sp:Sp):Prop where
 len:∀ vs H Q E,sp vs H Q E->vs.length=ps.length
 run:∀ (A:Around)(outer:List Env)(s:Shared)(H:Hp)(args:Args)(us:List Value)(vs:List V)(Q:VK)(E:XK),zZ k A->CQ P w K mg base A outer s H->BindsTo s fd args (ps.zip us)->Vals vs us->sp vs H Q E ->
  codeAny (model P w) A (.call (.ref f) args) (CR CX outer P w H s Q E) s
theorem zP.imp {P:Program}{w:World}{K:Frag}{mg:Str->Option Value}{base:Heap}{CX:lJ}{k:Nat}{f:Addr}{fd:FuncData}{ps:List Str}{sp V9:Sp}(F:zP P w K mg base CX k f fd ps sp)
  (h:∀ vs H Q E,V9 vs H Q E->sp vs H Q E):zP P w K mg base CX k f fd ps V9 :=
 ⟨fun vs H Q E q=>F.len vs H Q E (h _ _ _ _ q),fun A outer s H args us vs Q E hr he hb hv hs=>F.run A outer s H args us vs Q E hr he hb hv (h _ _ _ _ hs)⟩
theorem CQ.make {P:Program}{w:World}{K:Frag}{mg:Str->Option Value}{base:Heap}{A:Around}{outer:List Env}{s:Shared}{H:Hp}(e:CQ P w K mg base A outer s H)(C:Addr)(us:List Value)(kw:List (Str × Value)) :
  CQ P w K mg base (A.under (.builtin "type.__call__" ⟨.ref C :: us,kw⟩)) outer s H:=⟨by first | exact e.frames | (simpa [Around.under,Code.envs,Code.isFrame,pushEnvs] using e.frames),e.mod,e.bs,e.Ee,e.Bl,e.ET,e.zV,e.bare⟩
section
variable {X:Cx}{pins:List (Addr × Obj)}{σ:St}{H:Hp}{s s':Shared}
theorem Inv.HS (I:Inv X pins σ H s):CQ X.prog X.w X.K X.mg X.base X.A X.stack s H :=
 ⟨I.ok.frames,I.ok.mod,I.bs,le_trans I.ok.Ee I.sz,I.stack,I.BP,I.zV,I.bare⟩
theorem Inv.after {Q:VK}{u:Value}(I:Inv X pins σ H s)(h:CE X.stack X.prog X.w H s Q u s'):EP X pins σ Q u s':=by
 obtain⟨v,H',os,bare,un,zV,r,q⟩:=h
 obtain⟨hh,g,d,t,os'⟩:=s'
 obtain rfl:os' = s.os:=os
 exact⟨v,H',I.call (h':=hh) (g':=g) (d':=d) (t':=t) (ch:=[]) un zV bare (fun b z=>absurd z (by simp)),r,q⟩
end
noncomputable def Kz (sp:Sp)(Aw:List V)(E:XK)(t:TA):TE:=fun σ H Q=>t σ H fun vs H1=>sp (vs ++ Aw) H1 Q E
noncomputable def xk (C:Addr)(m:Str)(sp:Sp)(Aw:List V)(E:XK)(ta:TE)(t:TA):TE:=fun σ H Q=>ta σ H fun x H1=>∃ a dx fs,x = .ref a/\H1 a=some (.ins C dx fs)/\fs.lookup m=none /\
 t σ H1 fun vs H2=>sp (x :: (vs ++ Aw)) H2 Q E
noncomputable def K0 (C:Addr)(sp:Sp)(Aw:List V)(E:XK)(t:TA):TE:=fun σ H Q=>t σ H fun vs H1=>∀ x dx,H1 x=none->H1 dx=none->dx ≠ x ->
 sp (.ref x :: (vs ++ Aw)) (upd (upd H1 dx (.own x)) x (.ins C dx [])) (fun v H2=>v = .Af/\Q (.ref x) H2) E
noncomputable def Binds (K:Frag)(fd:FuncData)(ps:List Str)(ds:List Value):Prop :=
 ∀ (s:Shared)(us:List Value),K.In s.heap->(us ++ ds).length=ps.length->BindsTo s fd ⟨us,[]⟩ (ps.zip (us ++ ds))
theorem Binds.all {K:Frag}{fd:FuncData}{ps:List Str}(h:∀ us:List Value,us.length=ps.length->bindArgs fd ⟨us,[]⟩ = pure (ps.zip us)):Binds K fd ps []:=fun s us _ hl=>by
 rw[append_nil]at hl ⊢
 exact .of_eq (h us hl)
noncomputable def cx (CX:lJ)(X:Cx)(E:XK):Prop:=∀ (pins:List (Addr × Obj))(σ:St)(H:Hp)(s:Shared)(e:Value)(s':Shared),Inv X pins σ H s->CX X.stack H s E e s'->X.xe e s'
section
variable {X:Cx}{CX:lJ}{k:Nat}{f C:Addr}{fd:FuncData}{ps:List Str}{sp:Sp}{Aw:List V}{ds:List Value}{E:XK}{x m:Str}{p pos apos:Pos}{e o:Expr}{es:List Expr}{ta:TE}{t:TA}
theorem jo {pins:List (Addr × Obj)}{σ:St}{H:Hp}{s:Shared}{Q:VK}{us:List Value}{vs:List V}(F:zP X.prog X.w X.K X.mg X.base CX k f fd ps sp)(hr:zZ k X.A)(hb:Binds X.K fd ps ds)(hd:Vals Aw ds)(hx:cx CX X E)
  (I:Inv X pins σ H s) (r:Vals vs us) (h:sp (vs ++ Aw) H Q E):wpAny (model X.prog X.w) X.A (call (.ref f) us) (EP X pins σ Q) X.xe s:=by
 have r2:Vals (vs ++ Aw) (us ++ ds):=r.append hd
 have hl:(us ++ ds).length=ps.length:=by rw[← r2.length];exact F.len _ _ _ _ h
 refine wpAny_call (codeAny_mono (F.run X.A X.stack s H ⟨us,[]⟩ (us ++ ds) (vs ++ Aw) Q E hr I.HS (hb s us I.AQ hl) r2 h) fun r s' hq=>?_)
 cases r with
 | error e=>exact hx pins σ H s e s' I hq
 | ok fl =>
  cases fl with
  | ret u=>exact I.after hq
  | next=>exact False.elim hq
  | brk=>exact False.elim hq
  | cont=>exact False.elim hq
theorem au (F:zP X.prog X.w X.K X.mg X.base CX k f fd ps sp)(hr:zZ k X.A)(hg:Gl X x)(hm:X.mg x=some (.ref f))(hk:keepIn X.K (.ref f)=true)(hb:Binds X.K fd ps ds)(hd:Vals Aw ds)(hx:cx CX X E)
  (ha:PA X (e :: es) t) (Dq:autoParam ((x == ("__debug__":Str))=false) θ) (he:autoParam (starEach (e :: es) X.env=(false,eval e X.env) :: starEach es X.env) η) (Br:autoParam ((backTo pos (starEach es X.env)).any (·.1)=false) η) :
  PE X (.Call (.Name x p) (e :: es) [] pos) (Kz sp Aw E t):=by
 intro pins s σ H Q I h
 refine wpAny_Call_Name_kw (fM I hg hm ?_ Dq)
 refine PySem.W.callWith_K (h₀:=X.base) I.ok.mod.CH hk (aP (ha pos pins s σ H _ I h) fun us s1 ⟨vs,H1,I1,r,q⟩=>⟨I1.AQ,?_⟩) he Br
 exact jo F hr hb hd hx I1 r q
theorem aD {pl:Sem Bool}(he:PE X o ta)(c:Cr X.K C)(hm:bu X.K C m f)(F:zP X.prog X.w X.K X.mg X.base CX k f fd ps sp)(hr:zZ k X.A)(hb:Binds X.K fd ps ds)(hd:Vals Aw ds)(hx:cx CX X E)(ha:PA X (e :: es) t)
  (Dn:autoParam (starEach (e :: es) X.env=(false,eval e X.env) :: starEach es X.env) η) (Br:autoParam ((backTo pos (starEach es X.env)).any (·.1)=false) η)
  (ht:eval (.Call (.Attribute o m apos) (e :: es) [] pos) X.env=(do
   let ov ← eval o X.env
   standAt apos.atName
   let (f,first) ← holding [ov] (getMethod ov m pl)
   callWith pos f first (backTo pos (starEach (e :: es) X.env)) (backToKw pos (keywordEach [] X.env))):=by rfl) :
  PE X (.Call (.Attribute o m apos) (e :: es) [] pos) (xk C m sp Aw E ta t):=by
 intro pins s σ H Q I h
 refine PySem.W.methodCall_KW (pl:=pl) (aP (he pins s σ H _ I h) fun u s1 zS=>?_) ht
 obtain⟨x,H1,I1,rx,a,dx,fs,ex,ea,l,q⟩:=zS
 subst ex
 obtain rfl:u=Value.ref a:=rx
 refine j5 I1 ea c hm l ?_
 refine PySem.W.callWith_K (first:=[.ref a]) (h₀:=X.base) I.ok.mod.CH hm.kp (aP (ha pos pins s1 σ H1 _ I1 q) fun us s2 ⟨vs,H2,I2,r,q2⟩=>⟨I2.AQ,?_⟩) Dn Br
 exact jo (us := .ref a :: us) (vs := .ref a :: vs) F hr hb hd hx I2 (.cons rfl r) q2
theorem bA {pl:Sem Bool}(he:PE X o ta)(c:Cr X.K C)(hm:bu X.K C m f)(F:zP X.prog X.w X.K X.mg X.base CX k f fd ps sp)(hr:zZ k X.A)(hb:Binds X.K fd ps ds)(hd:Vals Aw ds)(hx:cx CX X E)
  (ht:eval (.Call (.Attribute o m apos) [] [] pos) X.env=(do
   let ov ← eval o X.env
   standAt apos.atName
   let (f,first) ← holding [ov] (getMethod ov m pl)
   callWith pos f first (backTo pos (starEach [] X.env)) (backToKw pos (keywordEach [] X.env))):=by rfl) :
  PE X (.Call (.Attribute o m apos) [] [] pos) (xk C m sp Aw E ta Kx):=by
 intro pins s σ H Q I h
 refine PySem.W.methodCall_KW (pl:=pl) (aP (he pins s σ H _ I h) fun u s1 zS=>?_) ht
 obtain⟨x,H1,I1,rx,a,dx,fs,ex,ea,l,q⟩:=zS
 subst ex
 obtain rfl:u=Value.ref a:=rx
 refine j5 I1 ea c hm l ?_
 exact PySem.W.callWith_K0 (first:=[.ref a]) I1.AQ hm.kp (jo (us:=[.ref a]) (vs:=[.ref a]) F hr hb hd hx I1 (.cons rfl .nil) q)
structure Mk (K:Frag)(C f:Addr):Prop where
 makes:makesIn K C=true
 init:findIn K (.ref C) "__init__" = some (some (.ref f))
 fn:isFn K (.ref f)=true
 kp:keepIn K (.ref C)=true
theorem tE {pins:List (Addr × Obj)}{σ:St}{H:Hp}{s:Shared}{Q:VK}{us:List Value}{vs:List V}(M:Mk X.K C f)(F:zP X.prog X.w X.K X.mg X.base CX k f fd ps sp)(hr:zZ (k + 1) X.A)(hb:Binds X.K fd ps ds)(hd:Vals Aw ds)
  (hx:cx CX X E) (I:Inv X pins σ H s) (r:Vals vs us)
  (h:∀ x dx,H x=none->H dx=none->dx ≠ x->sp (.ref x :: (vs ++ Aw)) (upd (upd H dx (.own x)) x (.ins C dx [])) (fun v H2=>v = .Af/\Q (.ref x) H2) E) :
  wpAny (model X.prog X.w) X.A (call (.ref C) us) (EP X pins σ Q) X.xe s:=by
 have hq:=h (s.heap.objs.size + 1) s.heap.objs.size (I.zV.fresh (le_succ _)) (I.zV.fresh (Nat.le_refl _)) (ne_of_lt (lt_succ_self _))
 have I2:=Inv.made (C:=C) I
 have r2:Vals (V.ref (s.heap.objs.size + 1) :: (vs ++ Aw)) (Value.ref (s.heap.objs.size + 1) :: (us ++ ds)) := .cons rfl (r.append hd)
 have hl:(Value.ref (s.heap.objs.size + 1) :: us ++ ds).length=ps.length:=by
  have e:=r2.length
  rw[F.len _ _ _ _ hq]at e
  exact e.symm
 refine wpAny_call (u9 (f:=f) I.AQ M.makes M.init (beq_iff_eq.mp M.fn) (codeAny_mono (F.run _ X.stack _ _ ⟨Value.ref (s.heap.objs.size + 1) :: us,[]⟩ (Value.ref (s.heap.objs.size + 1) :: (us ++ ds)) _ _ E (hr.make C us [])
  (I2.HS.make C us []) (hb _ (Value.ref (s.heap.objs.size + 1) :: us) I2.AQ hl) r2 hq) fun r s' Cy=>?_))
 cases r with
 | error e=>exact hx pins σ _ _ e s' I2 Cy
 | ok fl =>
  cases fl with
  | ret u =>
   obtain⟨v,H',I3,rv,ev,q3⟩:=I2.after Cy
   subst ev
   exact⟨rv,⟨V.ref (s.heap.objs.size + 1),H',I3,rfl,q3⟩⟩
  | next=>exact False.elim Cy
  | brk=>exact False.elim Cy
  | cont=>exact False.elim Cy
theorem cY (M:Mk X.K C f)(F:zP X.prog X.w X.K X.mg X.base CX k f fd ps sp)(hr:zZ (k + 1) X.A)(hg:Gl X x)(hm:X.mg x=some (.ref C))(hb:Binds X.K fd ps ds)(hd:Vals Aw ds)(hx:cx CX X E)
  (ha:PA X (e :: es) t) (Dq:autoParam ((x == ("__debug__":Str))=false) θ) (he:autoParam (starEach (e :: es) X.env=(false,eval e X.env) :: starEach es X.env) η) (Br:autoParam ((backTo pos (starEach es X.env)).any (·.1)=false) η) :
  PE X (.Call (.Name x p) (e :: es) [] pos) (K0 C sp Aw E t):=by
 intro pins s σ H Q I h
 refine wpAny_Call_Name_kw (fM I hg hm ?_ Dq)
 refine PySem.W.callWith_K (h₀:=X.base) I.ok.mod.CH M.kp (aP (ha pos pins s σ H _ I h) fun us s1 ⟨vs,H1,I1,r,q⟩=>⟨I1.AQ,?_⟩) he Br
 exact tE M F hr hb hd hx I1 r q
end
section
variable {X:Cx}{CX:lJ}{k:Nat}{f C:Addr}{fd:FuncData}{ps ks:List Str}{sp:Sp}{E:XK}{x m:Str}{p pos apos kpos:Pos}{e o:Expr}{es:List Expr}{kws:List Keyword}{te ta:TE}{t tk:TA}{nm:Option Str}
variable {g:List Value->List Value->List Value}{gV:List V->List V->List V}
end
structure ao (N P:List Str)(sc:Scope):Prop where
 kind:sc.kind = .function
 co:sc.isCoroutine=false
 gen:sc.isGenerator=false
 nd:N.Nodup
 pre:N.take P.length=P
 par:∀ x ∈ P,sc.names.lookup x=some .local∨sc.names.lookup x=some .cell
 HU:∀ y ∈ sc.names,y.2 ≠ .free
theorem kH {kindOf:Str->Option NameKind}{x:Str}:∀ {binds:List (Str × Value)}{m:Str->Option Value},(∀ v,(x,v) ∉ binds)->bindL kindOf binds m x=m x
 | [],_,_=>rfl
 | (n,v) :: r,m,h=>by
  unfold bindL
  rw[kH fun w hw=>h w (mem_cons_of_mem _ hw)]
  split
  ·have:x ≠ n:=by rintro rfl;exact h v mem_cons_self
   simp[this]
  ·rfl
theorem kJ {kindOf:Str->Option NameKind}{x:Str}:∀ {binds:List (Str × Value)}{m:Str->Option Value},(∀ v,(x,v) ∉ binds)->bindC kindOf binds m x=m x
 | [],_,_=>rfl
 | (n,v) :: r,m,h=>by
  unfold bindC
  rw[kJ fun w hw=>h w (mem_cons_of_mem _ hw)]
  split
  ·rfl
  ·have:x ≠ n:=by rintro rfl;exact h v mem_cons_self
   simp[this]
theorem kI {kindOf:Str->Option NameKind}{x:Str}{v:Value}:∀ {P:List Str}{vs:List Value}{i:Nat}{m:Str->Option Value},P.Nodup->P[i]? = some x->vs[i]? = some v->kindOf x=some .local ->
  bindL kindOf (P.zip vs) m x=some v
 | [],_,_,_,_,h,_,_=>by simp at h
 | _ :: _,[],_,_,_,_,h,_=>by simp at h
 | p :: P,w :: vs,0,m,nd,h1,h2,hk=>by
  simp at h1 h2;subst h1;subst h2
  show bindL kindOf ((p,w) :: P.zip vs) m p=_
  unfold bindL
  rw[kH fun v hv=>(nodup_cons.mp nd).1 (of_mem_zip hv).1,if_pos hk]
  simp
 | p :: P,w :: vs,i + 1,m,nd,h1,h2,hk=>by
  show bindL kindOf ((p,w) :: P.zip vs) m x=_
  unfold bindL
  exact kI (i:=i) (nodup_cons.mp nd).2 (by simpa using h1) (by simpa using h2) hk
theorem kK {kindOf:Str->Option NameKind}{x:Str}{v:Value}:∀ {P:List Str}{vs:List Value}{i:Nat}{m:Str->Option Value},P.Nodup->P[i]? = some x->vs[i]? = some v->kindOf x ≠ some .local ->
  bindC kindOf (P.zip vs) m x=some v
 | [],_,_,_,_,h,_,_=>by simp at h
 | _ :: _,[],_,_,_,_,h,_=>by simp at h
 | p :: P,w :: vs,0,m,nd,h1,h2,hk=>by
  simp at h1 h2;subst h1;subst h2
  show bindC kindOf ((p,w) :: P.zip vs) m p=_
  unfold bindC
  rw[kJ fun v hv=>(nodup_cons.mp nd).1 (of_mem_zip hv).1,if_neg hk]
  simp
 | p :: P,w :: vs,i + 1,m,nd,h1,h2,hk=>by
  show bindC kindOf ((p,w) :: P.zip vs) m x=_
  unfold bindC
  exact kK (i:=i) (nodup_cons.mp nd).2 (by simpa using h1) (by simpa using h2) hk
noncomputable def start (N:List Str)(vs:List V):St:=vs.map some ++ List.replicate (N.length - vs.length) none
noncomputable def i5 (CX:lJ)(P:Program)(w:World)(K:Frag)(mg:Str->Option Value)(base:Heap)(N:List Str)(qual:Str)(scope:Scope)(f:Addr)(cd:Value)(A:Around)(outer:List Env)(s:Shared)(H:Hp)(E:XK):Cx where
 prog:=P
 w:=w
 K:=K
 mg:=mg
 base:=base
 A:=A.deeper (envOfC qual scope s.heap.objs.size f cd)
 N:=N
 s₀:=s
 H₀:=H
 env:=envOfC qual scope s.heap.objs.size f cd
 outer:=outer
 stack:=envOfC qual scope s.heap.objs.size f cd :: outer
 ex:=[]
 calm:=true
 fn:=fun _=>true
 pn:=[]
 xe:=fun e s'=>wpAny (model P w) (A.deeper (envOfC qual scope s.heap.objs.size f cd)) (leaving (envOfC qual scope s.heap.objs.size f cd) e) (fun _ Et=>CX outer H s E e Et) (fun e' Et=>CX outer H s E e' Et) s'
theorem nu {sc:Scope}{n:Nat}{x:Str}(h:sc.names.lookup x=some .cell):∃ c,(cellsFrom n sc.names []).lookup x=some c:=by
 have q:=PySem.W.cellsFrom_some sc.names n [] (.inl h)
 exact Option.isSome_iff_exists.mp q
theorem rg {CX:lJ}{P:Program}{w:World}{K:Frag}{mg:Str->Option Value}{base:Heap}{N ps:List Str}{qual:Str}{scope:Scope}{f:Addr}{cd:Value}{A:Around}{outer:List Env}{s s1:Shared}{H:Hp}{E:XK}{us:List Value}{vs:List V}
  (S:ao N ps scope) (hd:A.handled=none) (e0:CQ P w K mg base A outer s H) (hl:vs.length=ps.length) (r:Vals vs us)
  (x:InCallC s s.heap.objs.size (bindL (envOfC qual scope s.heap.objs.size f cd).kindOf (ps.zip us) fun _=>none) (cellsFrom (s.heap.objs.size + 1) scope.names []) (bindC (envOfC qual scope s.heap.objs.size f cd).kindOf (ps.zip us) fun _=>none) s1) :
  Inv (i5 CX P w K mg base N qual scope f cd A outer s H E) [] (start N vs) H s1:=by
 have Br:ps.length <= N.length:=by have:=congrArg List.length S.pre;rw[length_take]at this;omega
 obtain⟨h1,tk,rfl,hk⟩:=x.done
 have Fn:∀ b:Addr,b ∉ (i5 CX P w K mg base N qual scope f cd A outer s H E).ex:=fun b z=>absurd (show b ∈ ([]:List Addr) from z) (by simp)
 refine⟨⟨e0.mod,S.kind,rfl,rfl,Nat.le_refl _,fun y z c h1 h2=>?_,fun y hy=>?_,fun y c _ h=>?_,fun _=>hd,Around.frames_deeper e0.frames, .inr ⟨rfl,rfl⟩,fun b z=>absurd z (Fn b),e0.bs,e0.Ee,fun b _ _=>Fn b,fun b z=>absurd z (Fn b),e0.Bl,e0.ET⟩,
  rfl,e0.bare,Un.kept hk,⟨_,x.toInCall.ns,fun i y v h1 h2 h3=>?_⟩,fun y c h=>⟨_,x.cell y c h⟩,e0.zV.fresh (Nat.le_refl _),fun y c h=>?_,fun p hp=>absurd (show p ∈ ([]:List (Addr × Obj)) from hp) (by simp),e0.zV.kept hk,?_⟩
 ·exact name_of_addr x.apart (PySem.mem_of_lookup h1) (PySem.mem_of_lookup h2)
 ·have hy:scope.names.lookup y=some .cell∨scope.names.lookup y=some .free:=hy
  rcases hy with hy | hy
  ·exact nu hy
  ·exact absurd rfl (S.HU _ (PySem.mem_of_lookup hy))
 ·exact le_of_lt (x.above y c (PySem.mem_of_lookup h))
 ·have hi:i < vs.length:=by
   unfold start at h2
   by_cases hi:i < vs.length
   ·exact hi
   ·rw[getElem?_append_right (by simpa using hi)]at h2
    rw[List.getElem?_replicate]at h2
    split at h2<;>cases h2
  have ha:vs[i]? = some v:=by
   unfold start at h2
   rw[getElem?_append_left (by simpa using hi),getElem?_map]at h2
   cases e:vs[i]? with
   | none=>rw[e]at h2;cases h2
   | some a=>rw[e]at h2;cases h2;rfl
  obtain⟨u,hu,rv⟩:=r.get ha
  have hp:ps[i]? = some y:=by
   rw[← S.pre,List.getElem?_take_of_lt (by omega)];exact h1
  have O8:ps.Nodup:=by rw[← S.pre];exact S.nd.sublist (List.take_sublist _ _)
  refine⟨u,rv,?_⟩
  rcases S.par y (mem_of_getElem? hp) with k | k
  ·exact .inl ⟨k,kI O8 hp hu k⟩
  ·obtain⟨c,e⟩:=nu (n:=s.heap.objs.size + 1) k
   refine .inr ⟨.inl k,c,e,?_⟩
   have q:=x.cell y c e
   rw[kK O8 hp hu (by show scope.names.lookup y ≠ _;rw[k];decide)]at q
   exact q
 ·exact e0.zV.fresh (le_of_lt (x.above y c (PySem.mem_of_lookup h)))
 ·unfold start
  show _=N.length
  rw[length_append,length_map,length_replicate]
  omega
theorem qj {CX:lJ}{P:Program}{w:World}{K:Frag}{mg:Str->Option Value}{base:Heap}{k:Nat}{f:Addr}{name qual:Str}{params:Arguments}{body:List Stmt}{scope:Scope}{dV kV doc pm cdv ct oc:Value}{an od:Option Addr}
  {CJ:Array (Option Value)} {N ps:List Str} {sp:Sp} (lk:K.lookup f=some ⟨oc,od, .func (fnOf name qual params body scope dV kV doc pm an cdv ct),CJ⟩) (B6:codeIn K cdv qual=true) (S:ao N ps scope)
  (len:∀ vs H Q E,sp vs H Q E->vs.length=ps.length)
  (AO:∀ (A:Around)(outer:List Env)(s:Shared)(H:Hp)(vs:List V)(Q:VK)(E:XK),zZ k (A.deeper (envOfC qual scope s.heap.objs.size f cdv))->sp vs H Q E ->
   ∃ t,BB (i5 CX P w K mg base N qual scope f cdv A outer s H E) body t/\t { nx:=fun _ H'=>Q .Af H',rt:=Q } (start N vs) H) :
  zP P w K mg base CX (k + 1) f (fnOf name qual params body scope dV kV doc pm an cdv ct) ps sp:=by
 refine⟨len,fun A outer s H args us vs Q E hr e0 hb r Cz=>?_⟩
 have hl:=len _ _ _ _ Cz
 have KX:K.In s.heap:=e0.mod.CH.keeps fun b o e=>(e0.bs b o e).1
 have lim:s.heap.NoLimit:=e0.mod.nolimit.keeps fun b o e=>(e0.bs b o e).1
 have K1:∀ y ∈ ps.zip us,scope.names.lookup y.1=some .local∨(scope.names.lookup y.1=some .cell/\((cellsFrom (s.heap.objs.size + 1) scope.names []).lookup y.1).isSome=true):=fun⟨n,v⟩ hy=>by
  rcases S.par n (of_mem_zip hy).1 with q | q
  ·exact .inl q
  ·exact .inr ⟨q,PySem.W.cellsFrom_some _ _ _ (.inl q)⟩
 refine codeAny_call_function hr.depth (KX _ _ lk) rfl S.co S.gen rfl (PySem.W.codeRec_of KX B6) (hb _ _ _ _ ?_)
 refine wpAny_newFunctionEnv_cells S.kind K1 fun env he s1 x=>?_
 subst he
 refine⟨lim.keeps x.toInCall.keep,codeAny_func ?_⟩
 obtain⟨t,ht,hq⟩:=AO A outer s H vs Q E (hr.deeper _) Cz
 have I:Inv (i5 CX P w K mg base N qual scope f cdv A outer s H E) [] (start N vs) H s1:=rg S hr.hd e0 hl r x
 refine wpAny_mono (ht [] s1 (start N vs) H _ I hq) (fun fl s' hs=>?_) fun e s' hs=>hs
 have fin:∀ {σ':St}{H':Hp}{v:V}{u:Value},Inv (i5 CX P w K mg base N qual scope f cdv A outer s H E) [] σ' H' s'->RelV v u->Q v H'->CE outer P w H s Q u s' :=
  fun {σ' H' v u} J rv q=>⟨v,H',J.os,J.bare,J.base,J.zV,rv,q⟩
 cases fl with
 | ret u =>
  obtain⟨v,σ',H',J,rv,q⟩:=hs
  exact fin J rv q
 | next =>
  obtain⟨σ',H',J,q⟩:=hs
  exact fin (v:=V.Af) (u:=Value.none) J rfl q
 | brk =>
  obtain⟨_,_,_,q⟩:=hs
  exact False.elim q
 | cont =>
  obtain⟨_,_,_,q⟩:=hs
  exact False.elim q
section
variable {X:Cx}{x:Str}{p pos:Pos}{e:Expr}{es:List Expr}{t:TA}{id T:String}{r:List V->Hp->VK->Prop}
noncomputable def VA (r:List V->Hp->VK->Prop)(t:TA):TE:=fun σ H Q=>t σ H fun vs H1=>r vs H1 Q
theorem av (hc:dv X (.builtin id) r)(hg:Gl X x)(hm:X.mg x=none)(hv:bootBuiltins x=some (.builtin id))(ha:PA X (e :: es) t)(hn:autoParam (x ≠ "__name__") θ)(Dq:autoParam ((x == ("__debug__":Str))=false) θ)
  (he:autoParam (starEach (e :: es) X.env=(false,eval e X.env) :: starEach es X.env) η) (Br:autoParam ((backTo pos (starEach es X.env)).any (·.1)=false) η):PE X (.Call (.Name x p) (e :: es) [] pos) (VA r t):=by
 intro pins s σ H Q I h
 refine wpAny_Call_Name_kw (iw I hg hm hv ?_ hn Dq)
 exact PyProof.Rows.callWith_builtin1 (aP (ha pos pins s σ H _ I h) fun us s1 zS=>by obtain⟨vs,H1,I1,r1,q1⟩:=zS;exact hc pins s1 σ H1 vs us Q I1 r1 q1) he Br
theorem bU (hc:dv X (.type T) r)(hg:Gl X x)(hm:X.mg x=none)(hv:bootBuiltins x=some (.type T))(ha:PA X (e :: es) t)(hn:autoParam (x ≠ "__name__") θ)(Dq:autoParam ((x == ("__debug__":Str))=false) θ)
  (he:autoParam (starEach (e :: es) X.env=(false,eval e X.env) :: starEach es X.env) η) (Br:autoParam ((backTo pos (starEach es X.env)).any (·.1)=false) η):PE X (.Call (.Name x p) (e :: es) [] pos) (VA r t):=by
 intro pins s σ H Q I h
 refine wpAny_Call_Name_kw (iw I hg hm hv ?_ hn Dq)
 exact PyProof.Rows.callWith_type1 (aP (ha pos pins s σ H _ I h) fun us s1 zS=>by obtain⟨vs,H1,I1,r1,q1⟩:=zS;exact hc pins s1 σ H1 vs us Q I1 r1 q1) he Br
end
end L2
namespace HT
open PySem PyProof.Rows
section
open PySem.SeqAt
open PySem.AutoSeq1 (wpAny_loadPart')
open PySem.MeetsSeq PySem.MeetsSeq2 PySem.MeetsSeq3
end
section
variable {prog:Program}{w:World}{A:Around}{E:Value->Shared->Prop}{s:Shared}
theorem Fo {t b:Addr}{vs ws:List Value}{Q:Value->Shared->Prop}(ht:IsTup s.heap t vs.toArray)(hb:IsTup s.heap b ws.toArray)(hv:vs ≠ [])
  (h1:ws=[]->Q (.ref t) s) (h2:ws ≠ []->Q (.ref s.heap.objs.size) { s with heap:=s.heap.push { cls := .type "tuple",data := .seq (vs ++ ws).toArray } })
  (hsz:vs.length + ws.length <= sizeLine):wpAny (model prog w) A (binaryOp .Add (.ref t) (.ref b)) Q E s:=by
 obtain⟨⟨cls,dd,data,sl⟩,ho,hc,n,hd⟩:=id ht
 obtain⟨⟨Q2,O9,data2,Jt⟩,Bu,CS,n2,hd2⟩:=id hb
 simp only at hc hd CS hd2
 subst hc hd CS hd2
 have e:vs.toArray ++ ws.toArray=(vs ++ ws).toArray:=by simp
 by_cases hw:ws=[]
 ·exact concat_meets ⟨_,ho,rfl⟩ ⟨_,Bu,rfl⟩ noFill_tuple_add seq_tuple_add slot_tuple_add entry_tuple_add (args_tuple_add_2 _ _)
   (tuple_addW1 t b vs.toArray ws.toArray n n2 dd O9 sl Jt (by simpa using hv) (by simp[hw])) ⟨ho,Bu,h1 hw⟩
 ·refine concat_meets ⟨_,ho,rfl⟩ ⟨_,Bu,rfl⟩ noFill_tuple_add seq_tuple_add slot_tuple_add entry_tuple_add (args_tuple_add_2 _ _)
   (tuple_addW2 t b vs.toArray ws.toArray n n2 dd O9 sl Jt (by simpa using hv) (by simpa using hw) (by rw[size_toArray,size_toArray];exact hsz)) ⟨ho,Bu,?_⟩
  rw[e]
  exact h2 hw
noncomputable def BY (n d:Nat):Option Int->Nat
 | none=>d
 | some v=>if v < 0 then (v + (n:Int)).toNat else min v.toNat n
theorem BQ (n d k:Nat):BY n d (some (k:Int))=min k n:=by
 show(if (k:Int) < 0 then ((k:Int) + (n:Int)).toNat else min (k:Int).toNat n)=min k n
 rw[if_neg (by omega),toNat_natCast]
end
end HT
namespace L2
open PySem PySem.Spec PyProof.Rows
abbrev TO:=St->Hp->(Option Int->Hp->Prop)->Prop
noncomputable def PO (X:Cx)(e:Option Expr)(t:TO):Prop :=
 ∀ (pins:List (Addr × Obj))(s:Shared)(σ:St)(H:Hp)(Q:Option Int->Hp->Prop),Inv X pins σ H s->t σ H Q ->
  wpAny (model X.prog X.w) X.A (evalPart e X.env) (fun u s'=>∃ o H',Inv X pins σ H' s'/\IsPart u o/\Q o H') X.xe s
noncomputable def vp:TO:=fun _ H Q=>Q none H
noncomputable def K2 (t:TE):TO:=fun σ H Q=>t σ H fun x H1=>∃ i,x = .int i/\Q (some i) H1
theorem oY {ns:List Int}:∀ {us:List Value},Vals (ns.map V.int) us->IntsAre us ns:=by
 induction ns with
 | nil=>intro us r;rw[map_nil]at r;cases r;exact .nil
 | cons n ns ih =>
  intro us r
  rw[map_cons]at r
  cases r with
  | cons r1 r2 =>
   obtain⟨t,e⟩:=r1
   subst e
   exact .cons n t (ih r2)
section
variable {X:Cx}{e:Expr}{te:TE}{lo hi:Option Expr}{tl th:TO}{pos p2:Pos}
theorem lq:PO X none vp:=by
 intro pins s σ H Q I h
 rw[evalPart_none]
 exact wpAny_pure ⟨none,H,I, .none,h⟩
theorem gQ (h:PE X e te):PO X (some e) (K2 te):=by
 intro pins s σ H Q I hw
 rw[evalPart_some]
 refine aP (h pins s σ H _ I hw) fun u s1 zS=>?_
 obtain⟨x,H1,I1,r1,q1⟩:=zS
 obtain⟨i,rfl,q⟩:=q1
 obtain⟨t,rfl⟩:=r1
 exact⟨some i,H1,I1, .int i t,q⟩
noncomputable def VB (X:Cx)(r:V->Option Int->Option Int->Hp->VK->Prop):Prop :=
 ∀ (pins:List (Addr × Obj))(s:Shared)(σ:St)(H:Hp)(x:V)(v vl vu:Value)(lo hi:Option Int)(sl:Addr)(Q:VK),Inv X pins σ H s->RelV x v->s.heap.IsSliceOf sl vl vu .none->IsPart vl lo->IsPart vu hi->r x lo hi H Q ->
  ∃ T id,typeLookup (.type T) "__getitem__" = pure (some (.builtin id))/\s.TypeIs v T/\wpAny (model X.prog X.w) X.A (getItem v (.ref sl)) (EP X pins σ Q) X.xe s
noncomputable def tSl (r:V->Option Int->Option Int->Hp->VK->Prop)(te:TE)(tl th:TO):TE:=fun σ H Q=>te σ H fun x H1=>tl σ H1 fun l H2=>th σ H2 fun u H3=>r x l u H3 Q
theorem gR {r:V->Option Int->Option Int->Hp->VK->Prop}(hr:VB X r)(he:PE X e te)(hl:PO X lo tl)(hu:PO X hi th):PE X (.Subscript e (.Slice lo hi none p2) pos) (tSl r te tl th):=by
 intro pins s σ H Q I h
 refine Subscript_ (aP (he pins s σ H _ I h) fun v s1 zS=>?_)
 obtain⟨x,H1,I1,r1,q1⟩:=zS
 refine wpAny_Slice (aP (hl pins s1 σ H1 _ I1 q1) fun vl s2 ⟨l,H2,I2,pl,q2⟩=>aP (hu pins s2 σ H2 _ I2 q2) fun vu s3 zS=>?_)
 obtain⟨u,H3,I3,pu,q3⟩:=zS
 rw[evalPart_none]
 refine wpAny_pure ?_
 have I4:Inv X pins σ H3 { s3 with heap:=s3.heap.push { cls := .type "slice",data := .fields #[vl,vu, .none] } }:=I3.kept (t':=s3.toks) fun b ob q=>Heap.get?_push_of_some _ q
 obtain⟨T,id,hT,ht,hg⟩:=hr pins { s3 with heap:=s3.heap.push { cls := .type "slice",data := .fields #[vl,vu, .none] } } σ H3 x v vl vu l u s3.heap.objs.size Q I4 r1 (Heap.IsSliceOf.new ..) pl pu q3
 show wpAny (model X.prog X.w) X.A (subscriptTail e (.Slice lo hi none p2) v (.ref s3.heap.objs.size)) (EP X pins σ Q) X.xe { s3 with heap:=s3.heap.push { cls := .type "slice",data := .fields #[vl,vu, .none] } }
 exact tail_any (ops:=[.ref s3.heap.objs.size,v]) ht hT hg (by with_unfolding_all rfl)
noncomputable def hW (xs:List V)(lo hi:Option Int):List V:=(xs.drop (HT.BY xs.length 0 lo)).take (HT.BY xs.length xs.length hi - HT.BY xs.length 0 lo)
theorem nc (xs:List V)(lo hi:Option Int):(hW xs lo hi).length <= xs.length:=by
 unfold hW
 rw[length_take,length_drop]
 omega
noncomputable def K3 (K:Frag):R2:=fun x y H Q=>∃ a b xs ys,x = .ref a/\y = .ref b/\Ab K H a xs/\Ab K H b ys/\xs ≠ []/\xs.length + ys.length <= sizeLine /\
 (ys=[]->Q (.ref a) H)/\(ys ≠ []->∀ p,H p=none->Q (.ref p) (upd H p (.tup (xs ++ ys))))
theorem Vals.BR {xs:List V}{us:List Value}(r:Vals xs us):us=[]↔xs=[]:=by
 cases r with
 | nil=>simp
 | cons _ _=>simp
theorem vS:eP X (binaryOp .Add) (K3 X.K):=by
 intro pins s σ H x y v u Q I rx ry h
 obtain⟨a,b,xs,ys,rfl,rfl,ha,hb,hx,hz,q1,q2⟩:=h
 cases rx
 cases ry
 obtain⟨zT,r1,p1,_⟩:=I.tuple ha
 obtain⟨Cm,r2,p2,_⟩:=I.tuple hb
 refine HT.Fo p1 p2 (fun z=>hx (r1.BR.mp z)) (fun z=>⟨.ref a,H,I,rfl,q1 (r2.BR.mp z)⟩) (fun z=>?_) (by rw[← r1.length,← r2.length];exact hz)
 refine⟨.ref s.heap.objs.size,_,I.laid (t':=s.toks) (o := .tup (xs ++ ys)) (fun b ob q=>Heap.get?_push_of_some _ q) (Nat.le_refl _) ?_,rfl,q2 (fun w=>z (r2.BR.mpr w)) _ (I.zV.fresh (Nat.le_refl _))⟩
 exact⟨by rw[length_append];exact hz,_,r1.append r2,Ba.new _ _⟩
end
noncomputable def wL (n:Nat)(i:Int):Option Nat:=if 0 <= i then (if i < n then some i.toNat else none) else if -(n:Int) <= i then some (i + n).toNat else none
noncomputable def Ju {α:Type}(xs:List α)(i:Int):Option α:=(wL xs.length i).bind fun j=>xs[j]?
theorem qd {n:Nat}{i:Int}{j:Nat}(h:wL n i=some j):seqIndex? i n=some j/\j < n/\-(n:Int) <= i/\i < n:=by
 unfold wL at h
 by_cases h0:0 <= i
 ·rw[if_pos h0]at h
  by_cases h1:i < n
  ·rw[if_pos h1]at h
   have e:i.toNat=j:=Option.some.inj h
   exact⟨by rw[seqIndex_of h0 h1,e],by omega,by omega,h1⟩
  ·rw[if_neg h1]at h;cases h
 ·rw[if_neg h0]at h
  by_cases h1:-(n:Int) <= i
  ·rw[if_pos h1]at h
   have e:(i + n).toNat=j:=Option.some.inj h
   exact⟨by rw[seqIndex_neg (by omega) h1,e],by omega,h1,by omega⟩
  ·rw[if_neg h1]at h;cases h
theorem qt {α:Type}{xs:List α}{i:Int}{v:α}(h:Ju xs i=some v):∃ j,seqIndex? i xs.length=some j/\xs[j]? = some v/\j < xs.length/\-(xs.length:Int) <= i/\i < xs.length:=by
 unfold Ju at h
 cases e:wL xs.length i with
 | none=>rw[e]at h;cases h
 | some j =>
  rw[e]at h
  obtain⟨h1,h2,h3,h4⟩:=qd e
  exact⟨j,h1,h,h2,h3,h4⟩
theorem ak {α:Type}{xs:List α}{j:Nat}{v:α}(h:xs[j]? = some v):Ju xs (j:Int)=some v:=by
 have hj:j < xs.length:=(gQ0 h)
 have e:wL xs.length (j:Int)=some j:=by
  unfold wL
  rw[if_pos (by omega),if_pos (by omega)];simp
 unfold Ju;rw[e];exact h
noncomputable def xf (b:Expr):Prop:=∀ o i,subscripted b false o i=operate [o,i] (getItem o i)
noncomputable def nH (X:Cx)(r:R2):Prop :=
 ∀ (value slice:Expr)(pins:List (Addr × Obj))(s:Shared)(σ:St)(H:Hp)(x y:V)(v u:Value)(Q:VK),Inv X pins σ H s->RelV x v->RelV y u->r x y H Q ->
  subscripted slice false v u=operate [v,u] (getItem v u)->wpAny (model X.prog X.w) X.A (subscriptTail value slice v u) (EP X pins σ Q) X.xe s
noncomputable def OA (X:Cx)(id:String)(r:V->List V->Hp->VK->Prop):Prop :=
 ∀ (pins:List (Addr × Obj))(s:Shared)(σ:St)(H:Hp)(x:V)(xs:List V)(v:Value)(us:List Value)(Q:VK),Inv X pins σ H s->RelV x v->Vals xs us->r x xs H Q ->
  wpAny (model X.prog X.w) X.A (call (.builtin id) (v :: us)) (EP X pins σ Q) X.xe s
section
variable {X:Cx}{a b:Expr}{ta tb:TE}{pos:Pos}
theorem ay {r:R2}(hr:nH X r)(ha:PE X a ta)(hb:PE X b tb)(hs:xf b):PE X (.Subscript a b pos) (O7 r ta tb):=by
 intro pins s σ H Q I h
 exact Subscript_ (zE ha hb I h fun v u s2 x y H2 I2 rx ry q=>hr a b pins s2 σ H2 x y v u Q I2 rx ry q (hs _ _))
noncomputable def tK (K:Frag):R2:=fun x y H Q=>∃ p xs i v,x = .ref p/\y = .int i/\zU K H p xs/\Ju xs i=some v/\Q v H
noncomputable def js (K:Frag):R2:=fun x y H Q=>∃ p xs i v,x = .ref p/\y = .int i/\Ab K H p xs/\Ju xs i=some v/\Q v H
theorem aT:nH X (tK X.K):=by
 intro value slice pins s σ H x y v u Q I rx ry h hs
 obtain⟨p,xs,i,z,rfl,rfl,hq,he,q⟩:=h
 cases rx
 obtain⟨t,rfl⟩:=ry
 obtain⟨zT,r,pl,hz⟩:=I.list hq
 obtain⟨j,h1,h2,h3,h4,h5⟩:=qt he
 obtain⟨w,ew,CT⟩:=r.get h2
 have hl:=r.length
 have hn:=j0
 have fin:EP X pins σ Q w s:=⟨z,H,I,CT,q⟩
 by_cases h0:0 <= i
 ·have hj:i.toNat=j:=by
   rw[seqIndex_of h0 h5]at h1
   exact Option.some.inj h1
  exact item_listR pl.isList h0 (by omega) (by rw[hj];simpa using ew) fin hs
 ·have hj:(i + (zT.toArray.size:Int)).toNat=j:=by
   rw[seqIndex_neg (by omega) h4]at h1
   rw[size_toArray,← hl]
   exact Option.some.inj h1
  exact subscriptTail_builtinR (x:=w) pl.isList.typeIs slot_list_getitem.lookup
   (wpAny_getItem_list_neg (Q:=fun r s'=>r=w/\EP X pins σ Q r s') pl.isList (by omega) (by rw[size_toArray]<;>omega) (by omega) (by rw[hj];simpa using ew) ⟨rfl,fin⟩) hs
theorem aE:nH X (js X.K):=by
 intro value slice pins s σ H x y v u Q I rx ry h hs
 obtain⟨p,xs,i,z,rfl,rfl,hq,he,q⟩:=h
 cases rx
 obtain⟨t,rfl⟩:=ry
 obtain⟨zT,r,pl,hz⟩:=I.tuple hq
 obtain⟨j,h1,h2,h3,h4,h5⟩:=qt he
 obtain⟨w,ew,CT⟩:=r.get h2
 have hl:=r.length
 have hn:=j0
 have fin:EP X pins σ Q w s:=⟨z,H,I,CT,q⟩
 exact subscriptTail_builtinR (x:=w) pl.typeIs slot_tuple_getitem.lookup
  (getItem_tuple (j:=j) (Q:=fun r s'=>r=w/\EP X pins σ Q r s') pl (by omega) (by omega) (by rw[size_toArray,← hl];exact h1) (by simpa using ew) ⟨rfl,fin⟩) hs
theorem oO (zT:List Value)(n j:Nat)(u:Value):Obj.mapSeq (·.setIfInBounds j u) { cls := .type "list",data := .seq zT.toArray n } = { cls := .type "list",data := .seq (zT.set j u).toArray n }:=by
 simp[Obj.mapSeq]
theorem Inv.lst {pins:List (Addr × Obj)}{σ:St}{H:Hp}{s:Shared}{p:Addr}{xs:List V}(I:Inv X pins σ H s)(h:H p=some (.lst xs)) :
  ∃ (zT:List Value)(n:Nat),Vals xs zT/\s.heap.get? p=some { cls := .type "list",data := .seq zT.toArray n }/\xs.length <= sizeLine:=by
 obtain⟨z,zT,n,r,e⟩:=I.zV p _ h
 exact⟨zT,n,r,e,z⟩
theorem Inv.HV {pins:List (Addr × Obj)}{σ:St}{H:Hp}{s:Shared}{p:Addr}{xs ys:List V}{zT its':List Value}{n n':Nat}{f:Obj->Obj}(I:Inv X pins σ H s)(h:H p=some (.lst xs))
  (ho:s.heap.get? p=some { cls := .type "list",data := .seq zT.toArray n }) (hf:f { cls := .type "list",data := .seq zT.toArray n } = { cls := .type "list",data := .seq its'.toArray n' }) (r:Vals ys its') (hz:ys.length <= sizeLine) (t:Nat) :
  Inv X pins σ (upd H p (.lst ys)) { s with heap:=s.heap.update p f,toks:=t }:=by
 have e:(s.heap.update p f).get? p=some { cls := .type "list",data := .seq its'.toArray n' }:=by
  rw[Heap.get?_update_self f ho (by rw[hf]<;>rfl),hf]
 refine I.write (x:=p) (e:=p) (by rw[h];trivial) (.inl rfl) (fun b u hb q=>(Heap.get?_update_other _ _ (Ne.symm hb)).trans q) ⟨_,e⟩ ?_
 exact⟨hz,its',n',r,e⟩
noncomputable def K4:V->V->V->Hp->(Hp->Prop)->Prop:=fun o i v H Q=>∃ p xs k j,o = .ref p/\i = .int k/\H p=some (.lst xs)/\wL xs.length k=some j/\Q (upd H p (.lst (xs.set j v)))
theorem jl:Kl X K4:=by
 intro pins s σ H o i v ov iv u Q I ro ri rv h
 obtain⟨p,xs,k,j,rfl,rfl,hp,hj,q⟩:=h
 cases ro
 obtain⟨t,rfl⟩:=ri
 obtain⟨zT,n,r,ho,hz⟩:=I.lst hp
 obtain⟨h1,h2,h3,h4⟩:=qd hj
 have hl:=r.length
 have hn:=j0
 have I':Inv X pins σ (upd H p (.lst (xs.set j v))) { s with heap:=s.heap.update p (Obj.mapSeq (·.setIfInBounds j u)) } :=
  I.HV hp ho (oO zT n j u) (r.set rv j) (by rw[length_set];exact hz) s.toks
 by_cases h0:0 <= k
 ·have hk:k.toNat=j:=by
   rw[seqIndex_of h0 h4]at h1
   exact Option.some.inj h1
  exact PySem.W.ki_setAt ho h0 (by omega) (by rw[size_toArray,← hl];exact h4) (by rw[hk];exact⟨_,I',q⟩)
 ·have hk:(k + (zT.toArray.size:Int)).toNat=j:=by
   rw[seqIndex_neg (by omega) h3]at h1
   rw[size_toArray,← hl]
   exact Option.some.inj h1
  exact PySem.W.ki_setBack ho (by omega) (by rw[size_toArray,← hl];exact h3) (by omega) (by rw[hk];exact⟨_,I',q⟩)
theorem kY (lo hi:Option Int)(n:Nat):(sliceBounds lo hi none n).1=((HT.BY n 0 lo:Nat):Int)/\(sliceBounds lo hi none n).2.1=((HT.BY n n hi:Nat):Int)/\(sliceBounds lo hi none n).2.2=1:=by
 refine⟨?_,?_,rfl⟩
 ·cases lo with
  | none=>simp[sliceBounds,HT.BY]
  | some i =>
   simp only[sliceBounds,HT.BY,Option.getD_none,show (1:Int) > 0 by decide,if_true]
   by_cases h:i < 0
   ·simp only[h,if_true]<;>omega
   ·simp only[h,if_false]<;>omega
 ·cases hi with
  | none=>simp[sliceBounds,HT.BY]
  | some i =>
   simp only[sliceBounds,HT.BY,Option.getD_none,show (1:Int) > 0 by decide,if_true]
   by_cases h:i < 0
   ·simp only[h,if_true]<;>omega
   ·simp only[h,if_false]<;>omega
theorem jN (zT:List Value)(lo hi:Option Int):slicePick zT.toArray lo hi none=((zT.drop (HT.BY zT.length 0 lo)).take (HT.BY zT.length zT.length hi - HT.BY zT.length 0 lo)).toArray:=by
 obtain⟨h1,h2,h3⟩:=kY lo hi zT.toArray.size
 unfold slicePick
 rw[h1,h2,h3]
 simp only[sliceRange_one,pick_run,size_toArray]<;>rfl
noncomputable def Q3 (K:Frag):V->Option Int->Option Int->Hp->VK->Prop:=fun x lo hi H Q=>∃ a xs,x = .ref a/\zU K H a xs/\∀ p,H p=none->Q (.ref p) (upd H p (.lst (hW xs lo hi)))
theorem iL:VB X (Q3 X.K):=by
 intro pins s σ H x v vl vu lo hi sl Q I rx hs pl pu h
 obtain⟨a,xs,rfl,hx,q⟩:=h
 cases rx
 obtain⟨zT,r,ht,hz⟩:=I.list hx
 have hlen:=r.length
 refine⟨"list",_,slot_list_getitem.lookup,ht.isList.typeIs,?_⟩
 refine wpAny_getItem_list_slice ht.isList hs pl pu .none (by simp) ?_ (by rw[size_toArray]<;>omega)
 rw[jN,← hlen]
 refine⟨.ref s.heap.objs.size,_,I.laid (t':=s.toks) (o := .lst (hW xs lo hi)) (fun b ob q=>Heap.get?_push_of_some _ q) (Nat.le_refl _) ?_,rfl,q _ (I.zV.fresh (Nat.le_refl _))⟩
 exact⟨le_trans (nc xs lo hi) hz,_,0,(r.drop (HT.BY xs.length 0 lo)).take (HT.BY xs.length xs.length hi - HT.BY xs.length 0 lo),Heap.get?_push_size _ rfl⟩
noncomputable def hU:V->Bool
 | .Af=>true
 | .bl _=>true
 | .int _=>true
 | .str _=>true
 | _=>false
noncomputable def xA:V->V->Bool
 | .Af, .Af=>true
 | .bl a, .bl b=>a == b
 | .bl a, .int b=>(if a then 1 else 0) == b
 | .int a, .bl b=>a == (if b then 1 else 0)
 | .int a, .int b=>a == b
 | .str a, .str b=>a == b
 | _,_=>false
theorem zu {A:Around}{s:Shared}{y x:V}{u v:Value}(ry:RelV y u)(rx:RelV x v)(fy:hU y=true)(fx:hU x=true):SeqAt.EqAt A s u v (xA y x):=by
 cases y with
 | Af =>
  cases ry
  cases x with
  | Af=>cases rx;exact SeqAt.EqAt.same _
  | bl b=>cases rx;exact SeqAt.EqAt.none_bool b
  | int b=>obtain⟨t,rfl⟩:=rx;exact SeqAt.EqAt.none_int b t
  | str b=>obtain⟨t,rfl⟩:=rx;exact SeqAt.EqAt.none_str b t
  | _=>exact absurd (show false=true from fx) Bool.false_ne_true
 | bl a =>
  cases ry
  cases x with
  | Af=>cases rx;exact SeqAt.EqAt.bool_none a
  | bl b=>cases rx;exact SeqAt.EqAt.bool_bool a b
  | int b=>obtain⟨t,rfl⟩:=rx;exact SeqAt.EqAt.bool_int a b t
  | str b=>obtain⟨t,rfl⟩:=rx;exact SeqAt.EqAt.bool_str a b t
  | _=>exact absurd (show false=true from fx) Bool.false_ne_true
 | int a =>
  obtain⟨t',rfl⟩:=ry
  cases x with
  | Af=>cases rx;exact SeqAt.EqAt.int_none a t'
  | bl b=>cases rx;exact SeqAt.EqAt.int_bool a t' b
  | int b=>obtain⟨t,rfl⟩:=rx;exact SeqAt.EqAt.int_int a t' b t
  | str b=>obtain⟨t,rfl⟩:=rx;exact SeqAt.EqAt.int_str a t' b t
  | _=>exact absurd (show false=true from fx) Bool.false_ne_true
 | str a =>
  obtain⟨t',rfl⟩:=ry
  cases x with
  | Af=>cases rx;exact SeqAt.EqAt.str_none a t'
  | bl b=>cases rx;exact SeqAt.EqAt.str_bool a t' b
  | int b=>obtain⟨t,rfl⟩:=rx;exact SeqAt.EqAt.str_int a t' b t
  | str b=>obtain⟨t,rfl⟩:=rx;exact SeqAt.EqAt.str_str a t' b t
  | _=>exact absurd (show false=true from fx) Bool.false_ne_true
 | _=>exact absurd (show false=true from fy) Bool.false_ne_true
noncomputable def pc (x:V)(u:Value):Bool:=match u with
 | .none=>xA .Af x
 | .bool b=>xA (.bl b) x
 | .int i _=>xA (.int i) x
 | .str z _=>xA (.str z) x
 | _=>false
theorem uH {x y:V}{u:Value}(r:RelV y u)(f:hU y=true):pc x u=xA y x:=by
 cases y with
 | Af=>cases r;rfl
 | bl b=>cases r;rfl
 | int i=>obtain⟨t,rfl⟩:=r;rfl
 | str z=>obtain⟨t,rfl⟩:=r;rfl
 | _=>exact absurd (show false=true from f) Bool.false_ne_true
theorem ie {x:V}:∀ {xs:List V}{us:List Value},Vals xs us->xs.all hU=true->us.any (pc x)=xs.any fun y=>xA y x
 | _,_, .nil,_=>rfl
 | y :: xs,u :: us, .cons r t,f=>by
  rw[all_cons,Bool.and_eq_true]at f
  rw[any_cons,any_cons,uH r f.1,ie t f.2]
theorem fv {A:Around}{s:Shared}{x:V}{v:Value}(rx:RelV x v)(fx:hU x=true):∀ {xs:List V}{us:List Value},Vals xs us->xs.all hU=true->∀ u ∈ us,SeqAt.EqAt A s u v (pc x u)
 | _,_, .nil,_=>fun u hu=>by cases hu
 | y :: xs,u :: us, .cons r t,f=>fun u' hu=>by
  rw[all_cons,Bool.and_eq_true]at f
  rcases mem_cons.mp hu with rfl | hu
  ·rw[uH r f.1];exact zu r rx f.1 fx
  ·exact fv rx fx t f.2 u' hu
noncomputable def Jv (x:V)(xs:List V):Bool:=xs.any fun y=>xA y x
noncomputable def Q4 (K:Frag)(neg:Bool):R2:=fun x y H Q=>∃ p xs,y = .ref p/\(zU K H p xs∨Ab K H p xs)/\hU x=true/\xs.all hU=true/\Q (.bl (if neg then !Jv x xs else Jv x xs)) H
theorem qM:eP X (compareOp .In) (Q4 X.K false):=by
 intro pins s σ H x y v u Q I rx ry h
 obtain⟨p,xs,rfl,hq,fx,fs,q⟩:=h
 cases ry
 rcases hq with hq | hq
 ·obtain⟨zT,r,pl,hz⟩:=I.list hq
  refine SeqAt.in_listAt (pc x) pl.isList (fun w hw=>fv rx fx r fs w (by simpa using hw)) ⟨.bl _,H,I,rfl,?_⟩
  rw[show zT.toArray.any (pc x)=zT.any (pc x) by simp,ie r fs]
  exact q
 ·obtain⟨zT,r,pl,hz⟩:=I.tuple hq
  refine SeqAt.in_tupleAt (pc x) pl (fun w hw=>fv rx fx r fs w (by simpa using hw)) ⟨.bl _,H,I,rfl,?_⟩
  rw[show zT.toArray.any (pc x)=zT.any (pc x) by simp,ie r fs]
  exact q
theorem ly:eP X (compareOp .NotIn) (Q4 X.K true):=by
 intro pins s σ H x y v u Q I rx ry h
 obtain⟨p,xs,rfl,hq,fx,fs,q⟩:=h
 cases ry
 rcases hq with hq | hq
 ·obtain⟨zT,r,pl,hz⟩:=I.list hq
  refine SeqAt.notIn_listAt (pc x) pl.isList (fun w hw=>fv rx fx r fs w (by simpa using hw)) ⟨.bl _,H,I,rfl,?_⟩
  rw[show zT.toArray.any (pc x)=zT.any (pc x) by simp,ie r fs]
  exact q
 ·obtain⟨zT,r,pl,hz⟩:=I.tuple hq
  refine SeqAt.notIn_tupleAt (pc x) pl (fun w hw=>fv rx fx r fs w (by simpa using hw)) ⟨.bl _,H,I,rfl,?_⟩
  rw[show zT.toArray.any (pc x)=zT.any (pc x) by simp,ie r fs]
  exact q
theorem aq:dv X (.builtin "len") (fun xs H Q=>∃ p ys,xs=[.ref p]/\(zU X.K H p ys∨Ab X.K H p ys)/\Q (.int ys.length) H):=by
 intro pins s σ H xs us Q I r h
 obtain⟨p,ys,rfl,hq,q⟩:=h
 obtain⟨u,rfl,rx⟩:=jU r
 cases rx
 have hn:=j0
 rcases hq with hq | hq
 ·obtain⟨zT,r',pl,hz⟩:=I.list hq
  have hlen:=r'.length
  exact Calls.call_len_list pl.isList (by simp only[size_toArray]<;>omega) ⟨.int ys.length,H,I.tok _,⟨s.toks + 1,by rw[size_toArray,hlen]⟩,q⟩
 ·obtain⟨zT,r',pl,hz⟩:=I.tuple hq
  have hlen:=r'.length
  exact len_tuple pl (by simp only[size_toArray]<;>omega) ⟨.int ys.length,H,I.tok _,⟨s.toks + 1,by rw[size_toArray,hlen]⟩,q⟩
theorem c4:dv X (.type "list") (fun xs H Q=>∃ p ys,xs=[.ref p]/\(zU X.K H p ys∨Ab X.K H p ys)/\∀ l,H l=none->Q (.ref l) (upd H l (.lst ys))):=by
 intro pins s σ H xs us Q I r h
 obtain⟨p,ys,rfl,hq,q⟩:=h
 obtain⟨u,rfl,rx⟩:=jU r
 cases rx
 have fin:∀ (zT:List Value),Vals ys zT->ys.length <= sizeLine->∀ (h':Heap)(c':Nat),(∀ b o',s.heap.get? b=some o'->h'.get? b=some o') ->
   h'.get? s.heap.objs.size=some { cls := .type "list",dict:=none,data := .seq zT.toArray c',slots:=#[] }->EP X pins σ Q (.ref s.heap.objs.size) { s with heap:=h' }:=fun zT r' hz h' c' kp e =>
  ⟨.ref s.heap.objs.size,_,I.laid (t':=s.toks) kp (Nat.le_refl _) (show Ag X.prog X.w _ h' _ (.lst ys) from ⟨hz,zT,c',r',e⟩),rfl,q _ (I.zV.fresh (Nat.le_refl _))⟩
 rcases hq with hq | hq
 ·obtain⟨zT,r',pl,hz⟩:=I.list hq
  have hlen:=r'.length
  obtain⟨o,ho,hc,n,hd⟩:=pl.isList
  exact call_list_seq p (.inl rfl) ho hc hd (fun h' c' kp e=>fin zT r' hz h' c' kp e) (by simp only[size_toArray]<;>omega)
 ·obtain⟨zT,r',pl,hz⟩:=I.tuple hq
  have hlen:=r'.length
  obtain⟨o,ho,hc,n,hd⟩:=pl
  exact call_list_seq p (.inr rfl) ho hc hd (fun h' c' kp e=>fin zT r' hz h' c' kp e) (by simp only[size_toArray]<;>omega)
theorem dG:dv X (.type "tuple") (fun xs H Q=>∃ p ys,xs=[.ref p]/\((zU X.K H p ys/\∀ l,H l=none->Q (.ref l) (upd H l (.tup ys)))∨(Ab X.K H p ys/\Q (.ref p) H))):=by
 intro pins s σ H xs us Q I r h
 obtain⟨p,ys,rfl,h⟩:=h
 obtain⟨u,rfl,rx⟩:=jU r
 cases rx
 rcases h with ⟨hq,q⟩ | ⟨hq,q⟩
 ·obtain⟨zT,r',pl,hz⟩:=I.list hq
  have hlen:=r'.length
  refine call_tuple_list pl.isList (fun h' kp=>?_) (by simp only[size_toArray]<;>omega)
  have I1:Inv X pins σ H { s with heap:=h' }:=I.kept (t':=s.toks) kp
  have I2:Inv X pins σ (upd H h'.objs.size (.tup ys)) { s with heap:=h'.push { cls := .type "tuple",data := .seq zT.toArray } } :=
   I1.laid (t':=s.toks) (fun b o e=>Heap.get?_push_of_some _ e) (Nat.le_refl _) (show Ag X.prog X.w _ _ _ (.tup ys) from ⟨hz,zT,r',Ba.new _ _⟩)
  exact⟨.ref h'.objs.size,_,I2,rfl,q _ (I1.zV.fresh (Nat.le_refl _))⟩
 ·obtain⟨zT,r',pl,hz⟩:=I.tuple hq
  exact call_tuple_same pl ⟨.ref p,H,I,rfl,q⟩
noncomputable def Q5 (K:Frag)(T:String)(x:V)(H:Hp):Prop:=match x with
 | .str _=>T = "str"
 | .int _=>T = "int"
 | .ref p=>(T = "list"/\∃ xs,zU K H p xs)∨(T = "tuple"/\∃ o,K.lookup p=some o/\o.cls = .type "tuple"/\o.dict=none) ∨
   (T = "dict"/\((∃ kvs,H p=some (.dK kvs))∨∃ kvs,H p=some (.dT kvs)))∨(T = "set"/\∃ S n,H p=some (.set S n))
 | _=>False
theorem rO {pins:List (Addr × Obj)}{σ:St}{H:Hp}{s:Shared}{T:String}{x:V}{v:Value}(I:Inv X pins σ H s)(r:RelV x v)(ty:Q5 X.K T x H) :
  s.TypeIs v T/\∀ a,v = .ref a->∃ ob,s.heap.get? a=some ob/\ob.dict=none:=by
 cases x with
 | str z =>
  obtain⟨t,rfl⟩:=r
  cases (show T = "str" from ty)
  exact⟨typeIs_str s z t,fun _ e=>nomatch e⟩
 | int i =>
  obtain⟨t,rfl⟩:=r
  cases (show T = "int" from ty)
  exact⟨typeIs_int s i t,fun _ e=>nomatch e⟩
 | ref p =>
  cases r
  rcases ty with ⟨rfl,xs,hq⟩ | ⟨rfl,o,hk,hc,hd⟩ | ⟨rfl,hk⟩ | ⟨rfl,S,n,hk⟩
  ·obtain⟨zT,_,pl,_⟩:=I.list hq
   refine⟨pl.isList.typeIs,fun a e=>?_⟩
   cases e
   obtain⟨o,n,e,c,hd,_⟩:=pl
   exact⟨o,e,hd⟩
  ·refine⟨⟨o,I.AQ p o hk,hc⟩,fun a e=>?_⟩
   cases e
   exact⟨o,I.AQ _ o hk,hd⟩
  ·have z:∃ o,s.heap.get? p=some o/\o.ExactDict:=by
    rcases hk with ⟨kvs,hk⟩ | ⟨kvs,hk⟩
    ·obtain⟨_,_,_,_,o,_,_,e,ex,_⟩:=I.zV p _ hk
     exact⟨o,e,ex⟩
    ·obtain⟨_,_,_,_,o,_,_,e,ex,_⟩:=I.zV p _ hk
     exact⟨o,e,ex⟩
   obtain⟨o,e,ex⟩:=z
   refine⟨⟨o,e,ex.1⟩,fun a e2=>?_⟩
   cases e2
   exact⟨o,e,ex.2.1⟩
  ·obtain⟨o,_,_,_,e,ex,_⟩:=I.zV p _ hk
   refine⟨⟨o,e,ex.1⟩,fun a e2=>?_⟩
   cases e2
   exact⟨o,e,ex.2.1⟩
 | _=>exact False.elim ty
noncomputable def Q6 (K:Frag)(T:String)(r:V->List V->Hp->VK->Prop)(to:TE):TE:=fun σ H Q=>to σ H fun x H1=>Q5 K T x H1/\r x [] H1 Q
noncomputable def tBM (K:Frag)(T:String)(r:V->List V->Hp->VK->Prop)(to:TE)(t:TA):TE:=fun σ H Q=>to σ H fun x H1=>Q5 K T x H1/\t σ H1 fun xs H2=>r x xs H2 Q
variable {o e:Expr}{es:List Expr}{to:TE}{t:TA}{name:Str}{apos AH:Pos}{T id:String}{r:V->List V->Hp->VK->Prop}
theorem y6 (pa:PlainAttrs T)(slot:Slot T name id)(Q7:typeOf (.builtin id)=pure (.type "method_descriptor"))(hm:OA X id r)(ho:PE X o to)
  (CU:autoParam (attributeBase o name X.env (eval o X.env)=eval o X.env) η) (Eu:autoParam ((apos.endLine == AH.line)=true) η):PE X (.Call (.Attribute o name apos) [] [] AH) (Q6 X.K T r to):=by
 intro pins s σ H Q I h
 refine wpAny_Call_method0_late CU Eu (aP (ho pins s σ H _ I h) fun v s1 zS=>?_)
 obtain⟨x,H1,I1,r1,ty,q1⟩:=zS
 obtain⟨h1,h2⟩:=rO I1 r1 ty
 exact⟨T,id,pa,slot,Q7,h1,h2,Calls.callWith_builtin rfl (PySem.evalArgs_none (hm pins s1 σ H1 x [] v [] Q I1 r1 .nil q1))⟩
theorem cp (pa:PlainAttrs T)(slot:Slot T name id)(Q7:typeOf (.builtin id)=pure (.type "method_descriptor"))(hm:OA X id r)(ho:PE X o to)(ha:PA X (e :: es) t)
  (CU:autoParam (attributeBase o name X.env (eval o X.env)=eval o X.env) η)
  (Dr:((backTo AH (starEach (e :: es) X.env)).all (fun x=>!x.1) && (backToKw AH (keywordEach [] X.env)).all (fun x=>x.1.isSome)
   && decide ((e :: es).length + ([]:List Keyword).length + (if ([]:List Keyword).isEmpty then 0 else 1) < 30))=true:=by rfl)
  (Eu:autoParam ((apos.endLine == AH.line)=true) η) (hs:autoParam (starEach (e :: es) X.env=(false,eval e X.env) :: starEach es X.env) η) (HW:autoParam ((backTo AH (starEach es X.env)).any (·.1)=false) η) :
  PE X (.Call (.Attribute o name apos) (e :: es) [] AH) (tBM X.K T r to t):=by
 intro pins s σ H Q I h
 refine wpAny_Call_method_late CU Dr Eu rfl (aP (ho pins s σ H _ I h) fun v s1 zS=>?_)
 obtain⟨x,H1,I1,r1,ty,q1⟩:=zS
 obtain⟨h1,h2⟩:=rO I1 r1 ty
 refine⟨T,id,pa,slot,Q7,h1,h2,?_⟩
 have hA:=ha AH pins s1 σ H1 _ I1 q1
 rw[hs]at hA ⊢
 refine Calls.callWith_builtin (by show(false || (backTo AH (starEach es X.env)).any (·.1))=false;rw[HW]<;>rfl) (Calls.evalArgs_plain ?_)
 exact aP hA fun us s2 zS=>by obtain⟨vs,H2,I2,r2,q2⟩:=zS;exact hm pins s2 σ H2 x vs v us Q I2 r1 r2 q2
end
noncomputable def Q8 (X:Cx)(id:String)(r:V->List V->Hp->VK->Prop):Prop :=
 ∀ (pins:List (Addr × Obj))(s:Shared)(σ:St)(H:Hp)(x:V)(xs:List V)(v:Value)(us:List Value)(Q:VK),Inv X pins σ H s->RelV x v->Vals xs us->r x xs H Q ->
  wpAny (model X.prog X.w) X.A (call (.builtin id) (v :: us)) (EP X pins σ Q) X.xe s
theorem Vals.one:∀ {x:V}{us:List Value},Vals [x] us->∃ u,us=[u]/\RelV x u:=by
 intro x us h
 cases h with
 | cons r t=>cases t;exact⟨_,rfl,r⟩
theorem Vals.eraseIdx:∀ {xs:List V}{us:List Value}(i:Nat),Vals xs us->Vals (xs.eraseIdx i) (us.eraseIdx i)
 | _,_,_, .nil => .nil
 | _,_,0, .cons _ t=>t
 | _,_,i + 1, .cons r t => .cons r (Vals.eraseIdx i t)
theorem ky {α:Type}:∀ (l:List α)(i:Nat),(l.eraseIdx i).length <= l.length
 | [],_=>Nat.le_refl _
 | _ :: _,0=>le_succ _
 | _ :: r,i + 1=>Nat.succ_le_succ (ky r i)
section
variable {X:Cx}{pins:List (Addr × Obj)}{σ:St}{H:Hp}{s:Shared}{l b:Addr}{xs ys zs:List V}
theorem Inv.HX {zT its':List Value}{n:Nat}{f:Array Value->Array Value}{t':Nat}(I:Inv X pins σ H s)(hH:H l=some (.lst xs))
  (e:s.heap.get? l=some { cls := .type "list",data := .seq zT.toArray n }) (hf:f zT.toArray=its'.toArray) (hv:Vals ys its') (hz:ys.length <= sizeLine) :
  Inv X pins σ (upd H l (.lst ys)) { s with heap:=s.heap.update l (Obj.mapSeq f),toks:=t' }:=by
 have q:=PySem.IsL.update e f
 rw[hf]at q
 refine I.write (x:=l) (e:=l) (by rw[hH];exact trivial) (.inl rfl) (fun b' u hb hu=>(Heap.get?_update_other s.heap (Obj.mapSeq f) (Ne.symm hb)).trans hu) ⟨_,q⟩ ?_
 exact⟨hz,its',_,hv,q⟩
theorem Inv.Q9 {zT:List Value}{t':Nat}(I:Inv X pins σ H s)(hv:Vals ys zT)(hz:ys.length <= sizeLine) :
  Inv X pins σ (upd H s.heap.objs.size (.lst ys)) { s with heap:=s.heap.push { cls := .type "list",data := .seq zT.toArray },toks:=t' } :=
 I.laid (fun _ _ q=>Heap.get?_push_of_some _ q) (Nat.le_refl _) ⟨hz,zT,0,hv,Heap.get?_push_size _ rfl⟩
theorem Inv.fresh (I:Inv X pins σ H s):H s.heap.objs.size=none:=I.zV.fresh (Nat.le_refl _)
theorem Inv.Ds (I:Inv X pins σ H s)(hH:H l=some (.lst xs)):xs.length <= sizeLine/\∃ (zT:List Value)(n:Nat),Vals xs zT/\xs.length=zT.length/\s.heap.get? l=some { cls := .type "list",data := .seq zT.toArray n }:=by
 obtain⟨z,zT,n,r,e⟩:=I.zV l _ hH
 exact⟨z,zT,n,r,r.length,e⟩
theorem ur {n:Nat}(h:n <= sizeLine):Builtin.List.listTooLong n=false:=by
 unfold Builtin.List.listTooLong
 exact decide_eq_false (by omega)
end
section
variable {X:Cx}
noncomputable def vG:V->List V->Hp->VK->Prop:=fun x vs H Q=>∃ l xs y,x = .ref l/\vs=[y]/\H l=some (.lst xs)/\xs.length < sizeLine/\Q .Af (upd H l (.lst (xs ++ [y])))
theorem bE:Q8 X "list.append" vG:=by
 intro pins s σ H x vs v us Q I rx rv h
 obtain⟨l,xs,y,rfl,rfl,hH,hz,q⟩:=h
 cases rx
 obtain⟨u,rfl,ru⟩:=rv.one
 obtain⟨z,zT,n,r,hl,e⟩:=I.Ds hH
 refine call_meets F.slot_list_append ⟨_,e,rfl⟩ F.entry_list_append (F.args_list_append_2 _ _) (PySem.list_append l zT.toArray n u (by rw[size_toArray];omega)) ⟨e,?_⟩
 refine⟨.Af,_,I.HX (its':=zT ++ [u]) hH e (by simp) (r.append (.cons ru .nil)) ?_,rfl,q⟩
 rw[length_append,length_singleton]
 omega
noncomputable def vF:V->List V->Hp->VK->Prop:=fun x vs H Q=>∃ l b xs zs,x = .ref l/\vs=[.ref b]/\H l=some (.lst xs)/\H b=some (.lst zs)/\xs.length + zs.length <= sizeLine/\Q .Af (upd H l (.lst (xs ++ zs)))
theorem fL:Q8 X "list.extend" vF:=by
 intro pins s σ H x vs v us Q I rx rv h
 obtain⟨l,b,xs,zs,rfl,rfl,hH,hB,hz,q⟩:=h
 cases rx
 obtain⟨u,rfl,ru⟩:=rv.one
 cases ru
 obtain⟨z,zT,n,r,hl,e⟩:=I.Ds hH
 obtain⟨z2,Cm,n2,r2,Fp,e2⟩:=I.Ds hB
 have hsz:zT.toArray.size + Cm.toArray.size <= sizeLine:=by rw[size_toArray,size_toArray];omega
 have K5:¬ (!zT.toArray.isEmpty && Builtin.List.listTooLong (zT.toArray.size + Cm.toArray.size))=true:=by
  rw[ur hsz,Bool.and_false]
  exact Bool.false_ne_true
 refine call_meets F.slot_list_extend ⟨_,e,rfl⟩ F.entry_list_extend (F.args_list_extend_2 _ _)
  (AutoSeq1.list_extend_list_list_0 l zT.toArray n b Cm.toArray n2 K5 (by rw[size_toArray];omega) (by omega)) ⟨e,e2,?_⟩
 refine⟨.Af,_,I.HX (its':=zT ++ Cm) hH e (by simp) (r.append r2) ?_,rfl,q⟩
 rw[length_append]
 omega
noncomputable def y1:V->List V->Hp->VK->Prop:=fun x vs H Q=>∃ l xs i k y,x = .ref l/\vs=[.int i]/\H l=some (.lst xs)/\-(2 ^ 63) <= i/\i < 2 ^ 63/\seqIndex? i xs.length=some k/\xs[k]? = some y/\Q y (upd H l (.lst (xs.eraseIdx k)))
theorem ux:Q8 X "list.pop" y1:=by
 intro pins s σ H x vs v us Q I rx rv h
 obtain⟨l,xs,i,k,y,rfl,rfl,hH,h1,h2,hk,hy,q⟩:=h
 cases rx
 obtain⟨u,rfl,ru⟩:=rv.one
 obtain⟨t,rfl⟩:=ru
 obtain⟨z,zT,n,r,hl,e⟩:=I.Ds hH
 obtain⟨w,hw,CT⟩:=r.get hy
 refine call_meets F.slot_list_pop ⟨_,e,rfl⟩ F.entry_list_pop (F.args_list_pop_2 _ _)
  (MeetsSeq.list_pop_at l zT.toArray n i t k w (fitsIndex_both h1 h2) (by rw[size_toArray,← hl];exact hk) (by rw[← Array.getElem?_toList];exact hw) (by rw[size_toArray];omega)) ⟨e,?_⟩
 refine⟨y,_,I.HX (its':=zT.eraseIdx k) hH e ?_ (r.eraseIdx k) ?_,CT,q⟩
 ·show zT.toArray.eraseIdxIfInBounds k=(zT.eraseIdx k).toArray
  rw[List.eraseIdxIfInBounds_toArray]
 ·have:=ky xs k
  omega
noncomputable def QA:R2:=fun x y H Q=>∃ l b xs zs,x = .ref l/\y = .ref b/\H l=some (.lst xs)/\H b=some (.lst zs)/\xs.length + zs.length <= sizeLine/\∀ p,H p=none->Q (.ref p) (upd H p (.lst (xs ++ zs)))
theorem tY:eP X (binaryOp .Add) QA:=by
 intro pins s σ H x y v u Q I rx ry h
 obtain⟨l,b,xs,zs,rfl,rfl,hH,hB,hz,q⟩:=h
 cases rx
 cases ry
 obtain⟨z,zT,n,r,hl,e⟩:=I.Ds hH
 obtain⟨z2,Cm,n2,r2,Fp,e2⟩:=I.Ds hB
 refine PySem.P.add_list e e2 ?_ (by rw[size_toArray,size_toArray];omega)
 have ea:zT.toArray ++ Cm.toArray=(zT ++ Cm).toArray:=by simp
 rw[ea]
 exact⟨.ref _,_,I.Q9 (t':=s.toks) (r.append r2) (by rw[length_append];omega),rfl,q _ I.fresh⟩
end
section
variable {prog:Program}{w:World}{A:Around}{E:Value->Shared->Prop}{s:Shared}
set_option maxRecDepth 100000 in
end
section
variable {X:Cx}
end
end L2
namespace VC
open PySem PySem.W PySem.Calls PyProof.Rows
theorem iI {P:Params}{h:Heap}:∀ (ns:List Int)(vs:List Value),WellAll P h vs (ns.map WData.int)->IntsAre vs ns:=by
 intro ns
 induction ns with
 | nil =>
  intro vs w
  rw[map_nil]at w
  cases w
  exact .nil
 | cons n ns ih =>
  intro vs w
  rw[map_cons]at w
  cases w with
  | cons a b =>
   cases a
   exact .cons _ _ (ih _ b)
theorem qF {l:OpenLaw}{n:Nat}(hn:l.most=some n){P:Params}{h:Heap}{args:List WData}{vals:List Value}
  (Fq:l.row.toRowW.claim.pre args=true) (EW:WellAll P h vals args) :
  ∃ a vs ns,vals=[Value.ref a]/\args=[WData.list (ns.map WData.int)]/\h.get? a=some { cls := .type "list",data := .seq vs.toArray }/\IntsAre vs ns/\ns.length <= n:=by
 have hsh:WShape.hasAll [] args [.list .int]=true:=(pre_splitW Fq).1
 have hc:l.pre.holds [] { args:=args } = true:=(pre_splitW Fq).2
 obtain⟨d,r,rfl,h1,h2⟩:=hasAllW_cons hsh
 obtain rfl:=hasAllW_nil h2
 obtain⟨xs,rfl,h3⟩:=hasW_list h1
 obtain⟨ns,rfl⟩:=items_int h3
 have hlen:ns.length <= n:=by
  unfold OpenLaw.pre at hc
  have h4:(WTm.not (.lt (.lit (.int (n:Int))) (.len (.arg 0)))).holds [] { args:=[.list (ns.map .int)] } = true:=by
   have h4:=(holds_andW hc).1
   rw[hn]at h4
   exact h4
  have h5:=condW_of h4 (w_not (w_lt w_lit (w_len_list (w_arg rfl))))
  rw[length_map]at h5
  refine Nat.le_of_not_lt fun q=>?_
  have q':(n:Int) < ((ns.length:Nat):Int):=by omega
  first
   | (rw[decide_eq_true q']at h5;exact absurd h5 (by decide))
   | (simp at h5;omega)
 cases EW with
 | cons w1 w2 =>
  cases w2
  cases w1 with
  | list ho Bo=>exact⟨_,_,ns,rfl,rfl,ho,iI ns _ Bo,hlen⟩
theorem qI (l:OpenLaw)(args:List WData):l.row.toRowW.claim.post args (.bool true) args=true :=
 postW_of (r:=l.row.toRowW) (X:=(true == true))
  (show WShape.has [] (.bool true) .bool=true by first | rfl | decide | simp[WShape.has,WShape.arms,WShape.armsAll])
  (show(WTm.eq .res (.lit (.bool true))).value [] { args:=args,res:=some (.bool true),after:=args } = some (.bool (true == true)) from w_eq_bool (w_res rfl) w_lit) rfl
theorem CV {l:OpenLaw}{n:Nat}{q:Program}{loose:List Str}{XP:(Str->Option Value)->Heap->Prop}{YP:World->Heap->Prop}{d:DefRec}
  (hn:l.most=some n) (K6:d.params.defaults=[])
  (call:∀ (w:World)(s₀ s₁:Shared)(mg mb:Str->Option Value)(fa:Addr)(o:Obj)(pm cd doc:Value)(a:Addr)(vs:List Value)(ns:List Int),
   Ground q loose [] XP w s₀ mg mb s₁.heap->YP w s₁.heap ->
   s₁.heap.get? fa=some o->o.data = .func (docDef d.name d.params d.body d.scope pm cd doc)->s₁.heap.CodeRec cd d.name->mg d.name=some (.ref fa) ->
   s₁.heap.get? a=some { cls := .type "list",data := .seq vs.toArray }->IntsAre vs ns->ns.length <= n->s₁.gens = #[] ->
   codeAny (model l.prog w) callerA (.call (.ref fa) ⟨[.ref a],[]⟩) (fun r s'=>r = .ok (.ret (.bool true))/\OldK s₁.heap s'.heap/\s'.os=s₁.os/\AllBare s'.gens) s₁) :
  WalkO q loose XP YP l.row.toRowW d [] (fun f vs=>PySem.call f vs):=by
 intro w s₀ s₁ mg mb G Y fa o pm cd doc dV kV ho hd B6 hD hmg hg args vals as Fq hlay hrd EW hlo
 obtain rfl:dV = .none:=Dflts.none hD K6
 obtain rfl:kV = .none:=Dflts.noKw hD
 obtain⟨a,vs,ns,rfl,rfl,HY,hints,hlen⟩:=qF hn Fq EW
 refine enter_call (codeAny_mono (call w s₀ s₁ mg mb fa o pm cd doc a vs ns G Y ho (fd_plain hd) B6 hmg HY hints hlen hg) fun r s' hq=>?_)
 obtain⟨rfl,h2,h3,h4⟩:=hq
 exact⟨.inl ⟨.bool true, .bool true,[],rfl,fun _=>rfl, .bool true,qI l _,fun _=>⟨List.Pairwise.nil,fun _ hm=>(nomatch hm)⟩⟩,h2,h3,h4⟩
section
variable {prog:Program}{w:World}{A:Around}{E:Value->Shared->Prop}{s:Shared}{K:Frag}
end
end VC
namespace L2
open PySem PySem.Spec PyProof.Rows
theorem jT:∀ {vs:List Value}{ns:List Int},IntsAre vs ns->Vals (ns.map V.int) vs
 | _,_, .nil => .nil
 | _,_, .cons n t h => .cons ⟨t,rfl⟩ (jT h)
noncomputable def aG (s:Stmt)(j:Nat):Stmt:=match s with
 | .ClassDef _ _ _ body _ _ _ _ _ _ _=>body.getD j (.Pass ⟨0,0,0,0⟩)
 | _ => .Pass ⟨0,0,0,0⟩
noncomputable def aZ (s:Stmt):Arguments:=match s with
 | .FunctionDef _ a _ _ _ _ _ _ _ _=>a
 | _=>{ posonlyargs:=[],args:=[],vararg:=none,kwonlyargs:=[],kw_defaults:=[],kwarg:=none,defaults:=[] }
noncomputable def aF (s:Stmt):List Stmt:=match s with
 | .FunctionDef _ _ b _ _ _ _ _ _ _=>b
 | _=>[]
noncomputable def ah (s:Stmt):Scope:=match s with
 | .FunctionDef _ _ _ _ _ _ sc _ _ _=>sc
 | _=>zQ0
abbrev aB:lJ:=fun _ _ _ _ _ _=>False
abbrev E0:XK:=fun _ _ _=>False
theorem ap {X:Cx}:cx aB X E0:=fun _ _ _ _ _ _ _ h=>h.elim
structure Al (K:Frag)(x qual:Str)(st:Stmt)(f:Addr)(fd:FuncData):Prop where
 ex:∃ (oc:Value)(od:Option Addr)(kV doc pm:Value)(an:Option Addr)(cdv ct:Value)(CJ:Array (Option Value)),
  fd=fnOf x qual (aZ st) (aF st) (ah st) .none kV doc pm an cdv ct/\K.lookup f=some ⟨oc,od, .func fd,CJ⟩/\codeIn K cdv qual=true
 kp:keepIn K (.ref f)=true
section
variable {P:Program}{w:World}{K:Frag}{mg:Str->Option Value}{base:Heap}
theorem Al.ok {x qual:Str}{st:Stmt}{f:Addr}{fd:FuncData}{N ps:List Str}{k:Nat}{sp:Sp}(F:Al K x qual st f fd)(S:ao N ps (ah st))(len:∀ vs H Q E,sp vs H Q E->vs.length=ps.length)
  (AO:∀ (cdv:Value)(A:Around)(outer:List Env)(s:Shared)(H:Hp)(vs:List V)(Q:VK)(E:XK),zZ k (A.deeper (envOfC qual (ah st) s.heap.objs.size f cdv))->sp vs H Q E ->
   ∃ t,BB (i5 aB P w K mg base N qual (ah st) f cdv A outer s H E).Gj (aF st) t/\t { nx:=fun _ H'=>Q .Af H',rt:=Q } (start N vs) H):zP P w K mg base aB (k + 1) f fd ps sp:=by
 obtain⟨oc,od,kV,doc,pm,an,cdv,ct,CJ,rfl,lk,B6⟩:=F.ex
 refine qj lk B6 S len fun A outer s H vs Q E hr Cz=>?_
 obtain⟨t,h,q⟩:=AO cdv A outer s H vs Q E hr Cz
 exact⟨t,h.Gj,q⟩
theorem Al.binds {x qual:Str}{st:Stmt}{f:Addr}{fd:FuncData}{ps:List Str}(F:Al K x qual st f fd)
  (h:∀ (kV doc pm:Value)(an:Option Addr)(cdv ct:Value)(us:List Value),us.length=ps.length->bindArgs (fnOf x qual (aZ st) (aF st) (ah st) .none kV doc pm an cdv ct) ⟨us,[]⟩ = pure (ps.zip us)):Binds K fd ps []:=by
 obtain⟨oc,od,kV,doc,pm,an,cdv,ct,CJ,rfl,lk,B6⟩:=F.ex
 exact .all (h kV doc pm an cdv ct)
theorem j7 {x qual:Str}{st:Stmt}{f:Addr}{oc:Value}{od an:Option Addr}{CJ:Array (Option Value)}{kV doc pm cdv ct:Value}(l:K.lookup f=some ⟨oc,od, .func (fnOf x qual (aZ st) (aF st) (ah st) .none kV doc pm an cdv ct),CJ⟩)
  (c:codeIn K cdv qual=true) (k:keepIn K (.ref f)=true):Al K x qual st f (fnOf x qual (aZ st) (aF st) (ah st) .none kV doc pm an cdv ct):=⟨⟨oc,od,kV,doc,pm,an,cdv,ct,CJ,rfl,l,c⟩,k⟩
end
theorem k9 {A:Around}{k:Nat}(hr:zZ k A):A.units + 1 < cLine:=lt_of_le_of_lt (Nat.add_le_add_left (by decide:1 <= 64) _) hr.units
section
variable {X:Cx}
theorem pv (i:Nat){x:Str}{pos:Pos}(hN:autoParam (X.N[i]? = some x) η)(hv:Kc X.env.scope x:=by first | exact Or.inl rfl | exact Or.inr (Or.inl rfl) | exact Or.inr (Or.inr rfl))(hd:autoParam ((x == ("__debug__":Str))=false) θ)
  (B6:autoParam ((x == ("__classdict__":Str))=false) θ):PE X (.Name x pos) (q5 i):=tR hN hv hd B6
end
theorem aI {A B:Prop}(h:B):if false=true then A else B:=by
 rw[if_neg Bool.false_ne_true]
 exact h
theorem aJ {A B:Prop}(h:A):if true=true then A else B:=by
 rw[if_pos rfl]
 exact h
theorem QB {c A B:Prop} [Decidable c] (h1:c->A) (h2:¬ c->B):if c then A else B:=by
 by_cases h:c
 ·rw[if_pos h]
  exact h1 h
 ·rw[if_neg h]
  exact h2 h
theorem K7 {c A B:Prop} [Decidable c] (hc:c) (h:B):if (!decide c)=true then A else B:=by
 rw[decide_eq_true hc]
 exact aI h
noncomputable def zO (H H':Hp):Prop:=∀ b o,H b=some o->H' b=some o
theorem zO.refl (H:Hp):zO H H:=fun _ _ h=>h
theorem zO.trans {H H1 H2:Hp}(a:zO H H1)(b:zO H1 H2):zO H H2:=fun c o h=>b c o (a c o h)
theorem zO.free {H H':Hp}(e:zO H H'){l:Addr}(h:H' l=Option.none):H l=Option.none:=by
 cases q:H l with
 | none=>rfl
 | some o =>
  rw[e l o q]at h
  cases h
theorem zO.seq {K:Frag}{H H':Hp}{a:Addr}{xs:List V}(e:zO H H')(h:zU K H a xs):zU K H' a xs:=by
 rcases h with (h | ⟨o,h⟩) | h
 ·exact .inl (.inl (e _ _ h))
 ·exact .inl (.inr ⟨o,e _ _ h⟩)
 ·exact .inr h
end L2
namespace Yd
open PySem
theorem ph (a b:Nat):Builtin.bitAnd (a:Int) (b:Int)=((a &&& b:Nat):Int):=by
 unfold Builtin.bitAnd
 simp
theorem c8 (x:Int):Builtin.bitNot x = -x - 1:=by
 unfold Builtin.bitNot
 omega
theorem DT (a b:Nat):Builtin.bitOr (a:Int) (b:Int)=((a ||| b:Nat):Int):=by
 unfold Builtin.bitOr
 have h1:Builtin.bitNot (a:Int) = -(a:Int) - 1:=c8 _
 have h2:Builtin.bitNot (b:Int) = -(b:Int) - 1:=c8 _
 unfold Builtin.bitAnd
 rw[h1,h2]
 have e1:decide (0 <= -(a:Int) - 1)=false:=decide_eq_false (by omega)
 have e2:decide (0 <= -(b:Int) - 1)=false:=decide_eq_false (by omega)
 rw[e1,e2]
 simp only[]
 have e3:Builtin.bitNot (-(a:Int) - 1)=a:=by rw[c8];omega
 have e4:Builtin.bitNot (-(b:Int) - 1)=b:=by rw[c8];omega
 rw[e3,e4]
 simp only[toNat_natCast]
 rw[c8,c8]
 omega
noncomputable def Ax:List Nat->Nat->Nat
 | [],s=>s
 | n :: r,s=>Ax r (s ||| 2 ^ n)
theorem Bd (k:Nat):∀ (l:List Nat)(s:Nat),(Ax l s).testBit k=(s.testBit k || decide (k ∈ l))
 | [],s=>by simp[Ax]
 | n :: r,s=>by
  unfold Ax
  rw[Bd k r]
  rw[Nat.testBit_or,Nat.testBit_two_pow]
  by_cases h:n=k
  ·subst h;simp
  ·have:¬ k=n:=fun z=>h z.symm
   simp[h,this]
theorem Ew (l r:List Nat)(s:Nat):Ax (l ++ r) s=Ax r (Ax l s):=by
 induction l generalizing s with
 | nil=>rfl
 | cons n t ih=>exact ih _
noncomputable def jQ (l:List Nat):Nat->Nat
 | 0=>0
 | n + 1=>if n ∈ l then jQ l n + 2 ^ n else jQ l n
theorem C0 (l:List Nat):∀ n,jQ l n < 2 ^ n
 | 0=>by simp[jQ]
 | n + 1=>by
  have:=C0 l n
  unfold jQ
  rw[Nat.pow_succ]
  split<;>omega
theorem mX (l:List Nat)(k:Nat):∀ n,(jQ l n).testBit k=decide (k < n/\k ∈ l)
 | 0=>by simp[jQ]
 | n + 1=>by
  have ih:=mX l k n
  have AG:=C0 l n
  unfold jQ
  by_cases hn:n ∈ l
  ·rw[if_pos hn,Nat.add_comm]
   rcases Nat.lt_trichotomy k n with h | h | h
   ·rw[Nat.testBit_two_pow_add_gt h,ih]
    simp[h,Nat.lt_succ_of_lt h]
   ·subst h
    rw[Nat.testBit_two_pow_add_eq,testBit_lt_two_pow AG]
    simp[hn]
   ·have hb:2 ^ n + jQ l n < 2 ^ k:=by
     have:2 ^ (n + 1) <= 2 ^ k:=pow_le_pow_right (by decide) h
     rw[Nat.pow_succ]at this
     omega
    rw[testBit_lt_two_pow hb]
    have:¬ k < n + 1:=by omega
    simp[this]
  ·rw[if_neg hn,ih]
   by_cases h:k=n
   ·subst h;simp[hn]
   ·have:k < n↔k < n + 1:=by omega
    simp[this]
theorem Ft {l:List Nat}{n:Nat}(h:∀ k ∈ l,k < n):jQ l n=Ax l 0:=by
 apply Nat.eq_of_testBit_eq
 intro k
 rw[mX,Bd]
 by_cases hk:k ∈ l
 ·simp[hk,h k hk]
 ·simp[hk]
noncomputable def Du (m b:Nat):List Nat:=(List.range b).filter fun k=>m.testBit k
theorem CW {m b k:Nat}(h:m < 2 ^ b):k ∈ Du m b↔m.testBit k=true:=by
 unfold Du
 rw[mem_filter,mem_range]
 constructor
 ·exact fun z=>z.2
 ·intro z
  refine⟨?_,z⟩
  by_cases hk:k < b
  ·exact hk
  ·have:m < 2 ^ k:=lt_of_lt_of_le h (pow_le_pow_right (by decide) (by omega))
   rw[testBit_lt_two_pow this]at z
   cases z
theorem DU (m b:Nat):(Du m b).Pairwise (· < ·):=List.Pairwise.filter _ pairwise_lt_range
theorem CY:∀ {l r:List Int},l.Pairwise (· < ·)->r.Pairwise (· < ·)->(∀ k,k ∈ l↔k ∈ r)->l=r
 | [],[],_,_,_=>rfl
 | [],y :: r,_,_,h=>by
  have:=(h y).mpr mem_cons_self
  cases this
 | x :: l,[],_,_,h=>by
  have:=(h x).mp mem_cons_self
  cases this
 | x :: l,y :: r,hl,hr,h=>by
  obtain⟨hx,Dv⟩:=pairwise_cons.mp hl
  obtain⟨hy,Gq⟩:=pairwise_cons.mp hr
  have e:x=y:=by
   rcases mem_cons.mp ((h x).mp mem_cons_self) with z | z
   ·exact z
   ·rcases mem_cons.mp ((h y).mpr mem_cons_self) with z' | z'
    ·exact z'.symm
    ·have:=hx y z'
     have:=hy x z
     omega
  subst e
  congr 1
  refine CY Dv Gq fun k=>?_
  constructor
  ·intro z
   rcases mem_cons.mp ((h k).mp (mem_cons_of_mem _ z)) with q | q
   ·have:=hx k z;omega
   ·exact q
  ·intro z
   rcases mem_cons.mp ((h k).mpr (mem_cons_of_mem _ z)) with q | q
   ·have:=hy k z;omega
   ·exact q
theorem DA (m:Nat):m < 2 ^ (Builtin.Int.intBits (m:Int)):=by
 unfold Builtin.Int.intBits
 by_cases h:m=0
 ·subst h;simp
 ·have e:((m:Int) == 0)=false:=by simp[h]
  rw[e]
  simp only[Bool.false_eq_true,if_false,Int.natAbs_natCast]
  exact Nat.lt_log2_self
theorem bits_le {m b:Nat}(h:m < 2 ^ b):Builtin.Int.intBits (m:Int) <= b:=by
 unfold Builtin.Int.intBits
 by_cases h0:m=0
 ·subst h0;simp
 ·have e:((m:Int) == 0)=false:=by simp[h0]
  rw[e]
  simp only[Bool.false_eq_true,if_false,Int.natAbs_natCast]
  have:=(Nat.log2_lt h0).mpr h
  omega
theorem DB (m k:Nat):decide (Builtin.bitAnd ((m:Int) / 2 ^ k) 1=1)=m.testBit k:=by
 have e:((m:Int) / 2 ^ k)=((m / 2 ^ k:Nat):Int):=by
  rw[Int.natCast_ediv,Int.natCast_pow]
  rfl
 rw[e,show (1:Int)=((1:Nat):Int) from rfl,ph,Nat.testBit_eq_decide_div_mod_eq]
 rw[Nat.and_one_is_mod]
 congr 1
 exact propext ⟨fun z=>by exact_mod_cast z,fun z=>by exact_mod_cast z⟩
end Yd
namespace L2
open PySem PySem.Spec PyProof.Rows
noncomputable def bW (cells:List (Str × Addr)):List (Str × NameKind)->List (Str × Addr)->List (Str × Addr)
 | [],acc=>acc
 | (n,k) :: r,acc=>if k == .free then bW cells r ((n,(cells.lookup n).getD 0) :: acc) else bW cells r acc
theorem fV {scope:Scope}{env:Env}(h:∀ y ∈ scope.names,y.2 = .free->∃ c,env.cells.lookup y.1=some c) :
  closureFor scope env=pure (bW env.cells scope.names []):=by
 unfold closureFor
 have key:∀ (names:List (Str × NameKind))(acc:List (Str × Addr)),(∀ y ∈ names,y.2 = .free->∃ c,env.cells.lookup y.1=some c) ->
   (forIn names acc fun (x:Str × NameKind)(cs:List (Str × Addr))=>(match x with
    | (name,kind)=>if (kind == NameKind.free)=true then do
      let c ← cellOf env name
      pure (ForInStep.yield ((name,c) :: cs))
     else pure (ForInStep.yield cs):Sem (ForInStep (List (Str × Addr)))))=(pure (bW env.cells names acc):Sem (List (Str × Addr))):=by
  intro names
  induction names with
  | nil=>intro acc _;rfl
  | cons y r ih =>
   intro acc hy
   obtain⟨n,k⟩:=y
   rw[List.forIn_cons]
   by_cases hk:(k == NameKind.free)=true
   ·obtain⟨c,hc⟩:=hy (n,k) mem_cons_self (by simpa using hk)
    have e1:cellOf env n=pure c:=by
     unfold cellOf
     simp only[]at hc
     rw[hc]
    simp only[hk,if_true,e1,pure_bind]
    rw[ih _ fun z hz=>hy z (mem_cons_of_mem _ hz)]
    unfold bW
    simp only[]at hc
    rw[if_pos hk,hc]
    conv=>rhs;unfold bW
    rfl
   ·simp only[hk,Bool.false_eq_true,if_false,pure_bind]
    rw[ih _ fun z hz=>hy z (mem_cons_of_mem _ hz)]
    conv=>rhs;unfold bW
    rw[if_neg hk]
 exact(congrArg (fun (m:Sem (List (Str × Addr)))=>m >>= fun z=>pure z) (key scope.names [] h)).trans (pure_bind _ _)
theorem dF {cells:List (Str × Addr)}{x:Str}{c:Addr}:∀ (names:List (Str × NameKind))(acc:List (Str × Addr)),(∀ y ∈ names,y.2 = .free->∃ c,cells.lookup y.1=some c) ->
  (∀ c,acc.lookup x=some c->cells.lookup x=some c)->(bW cells names acc).lookup x=some c->cells.lookup x=some c
 | [],acc,_,ha,e=>ha c e
 | (n,k) :: r,acc,hn,ha,e=>by
  unfold bW at e
  have hr:=fun z hz=>hn z (mem_cons_of_mem _ hz)
  split at e
  ·rename_i hk
   refine dF r _ hr (fun c' e'=>?_) e
   rw[lookup_cons]at e'
   split at e'
   ·rename_i hx
    have Ct:x=n:=by simpa using hx
    subst Ct
    obtain⟨c0,hc0⟩:=hn (x,k) mem_cons_self (by simpa using hk)
    simp only[]at hc0
    rw[hc0]at e' ⊢
    exact e'
   ·exact ha c' e'
  ·exact dF r acc hr ha e
theorem eG {cells:List (Str × Addr)}{x:Str}:∀ (names:List (Str × NameKind))(acc:List (Str × Addr)),((x,NameKind.free) ∈ names∨∃ c,acc.lookup x=some c) ->
  ∃ c,(bW cells names acc).lookup x=some c
 | [],acc,h=>by
  rcases h with h | h
  ·cases h
  ·exact h
 | (n,k) :: r,acc,h=>by
  unfold bW
  split
  ·rename_i hk
   refine eG r _ ?_
   rcases h with h | ⟨c,h⟩
   ·rcases mem_cons.mp h with h | h
    ·refine .inr ⟨(cells.lookup n).getD 0,?_⟩
     injection h with h1 h2
     rw[lookup_cons,h1]
     simp
    ·exact .inl h
   ·refine .inr ?_
    rw[lookup_cons]
    split
    ·exact⟨_,rfl⟩
    ·exact⟨c,h⟩
  ·rename_i hk
   refine eG r _ ?_
   rcases h with h | h
   ·rcases mem_cons.mp h with h | h
    ·injection h with h1 h2
     subst h2
     exact absurd rfl hk
    ·exact .inl h
   ·exact .inr h
theorem gK {env:Env}{x:Str}:∀ {names:List (Str × NameKind)},names.lookup x=some .free ->
  (names.map fun (n,k)=>if (k == NameKind.free && env.scope.kind == .function && env.kindOf n == some .cell) then (n,NameKind.cell) else (n,k)).lookup x=some .cell ∨
  (names.map fun (n,k)=>if (k == NameKind.free && env.scope.kind == .function && env.kindOf n == some .cell) then (n,NameKind.cell) else (n,k)).lookup x=some .free
 | [],h=>by simp at h
 | (n,k) :: r,h=>by
  have ih:=@gK env x r
  rw[map_cons]
  cases hx:x == n with
  | true =>
   rw[lookup_cons,hx]at h
   cases h
   simp only[]
   split
   ·left;rw[lookup_cons,hx]
   ·right;rw[lookup_cons,hx]
  | false =>
   rw[lookup_cons,hx]at h
   simp only[]
   split
   ·rw[lookup_cons,hx];exact ih h
   ·rw[lookup_cons,hx];exact ih h
theorem eU {env:Env}{x:Str}{k:NameKind}(hk:k = .cell∨k = .free):∀ {names:List (Str × NameKind)},(∀ y ∈ names,y.2 ≠ .cell) ->
  (names.map fun (n,k)=>if (k == NameKind.free && env.scope.kind == .function && env.kindOf n == some .cell) then (n,NameKind.cell) else (n,k)).lookup x=some k->(x,NameKind.free) ∈ names
 | [],_,h=>by simp at h
 | (n,k') :: r,hc,h=>by
  have ih:=@eU env x k hk r fun y hy=>hc y (mem_cons_of_mem _ hy)
  rw[map_cons]at h
  simp only[]at h
  cases hx:x == n with
  | true =>
   have e:x=n:=by simpa using hx
   subst e
   split at h
   ·rename_i q
    have q':k' = .free:=by
     have:=(Bool.and_eq_true _ _ ▸ q:_/\_).1
     have:=(Bool.and_eq_true _ _ ▸ this:_/\_).1
     simpa using this
    rw[q']
    exact mem_cons_self
   ·rw[lookup_cons,hx]at h
    have e2:k' = k:=Option.some.inj h
    rcases hk with z | z
    ·exact absurd (e2.trans z) (hc (x,k') mem_cons_self)
    ·rw[e2,z];exact mem_cons_self
  | false =>
   split at h
   ·rw[lookup_cons,hx]at h;exact mem_cons_of_mem _ (ih h)
   ·rw[lookup_cons,hx]at h;exact mem_cons_of_mem _ (ih h)
section
variable {prog:Program}{w:World}{A:Around}{R:Result->Shared->Prop}{s:Shared}
abbrev kO (ifs:List Expr)(env:Env):Sem Bool :=
 forIn ifs true fun c r=>if r=true then do let ok ← isTrue c env (eval c env);pure (ForInStep.yield ok) else pure (ForInStep.yield r)
theorem nq {elt tg iter:Expr}{ifs:List Expr}{scope:Scope}{pos:Pos}{it acc:Value}{env:Env}(I:Nat->Shared->Prop)
  (turn:∀ n s,I n s->wpAny (model prog w) A (pyNext it) (fun r s1=>match r with
   | none=>R (.ok .next) s1
   | some v=>wpAny (model prog w) A (letOwnedTupleGo tg it v) (fun _ s2=>wpAny (model prog w) A (assign tg env v) (fun _ s3 =>
     wpAny (model prog w) A (kO ifs env) (fun ok s4 =>
      if ok=true then wpAny (model prog w) A (eval elt env) (fun x s5 =>
       wpAny (model prog w) A (call (.builtin "list.append") [acc,x]) (fun _ s6=>∃ m,m < n/\I m s6) (fun _ _=>False) s5) (fun _ _=>False) s4
      else ∃ m,m < n/\I m s4) (fun _ _=>False) s3) (fun _ _=>False) s2) (fun _ _=>False) s1) (fun _ _=>False) s)
  (n:Nat) (h:I n s):codeAny (model prog w) A (.compLoop (.ListComp elt [⟨tg,iter,ifs,0⟩] scope pos) 0 it acc env) R s:=by
 refine codeAny_loop rfl I (fun n s hI=>?_) n h
 have no:∀ {E':Value->Shared->Prop}(e:Value)(s':Shared),False->E' e s':=fun _ _ z=>z.elim
 show wpAny _ A (Sem.onRaise (compTurn (.ListComp elt [⟨tg,iter,ifs,0⟩] scope pos) 0 it acc env) fun x=>do
  noteFrame x env
  theTreesLotGoes x) _ _ s
 refine wpAny_noted ?_
 rw[compTurn_list]
 refine wpAny_bind (wpAny_standAt (wpAny_bind (wpAny_mono (turn n s hI) (fun r s1 h1=>?_) no)))
 cases r with
 | none=>exact wpAny_pure h1
 | some v =>
  refine wpAny_bind (wpAny_mono h1 (fun _ s2 h2=>?_) no)
  refine wpAny_bind (wpAny_mono h2 (fun _ s3 h3=>?_) no)
  refine wpAny_bind (wpAny_mono h3 (fun ok s4 h4=>?_) no)
  cases ok with
  | false=>exact wpAny_pure ⟨rfl,h4⟩
  | true =>
   refine wpAny_bind (wpAny_bind (wpAny_mono h4 (fun x s5 h5=>?_) no))
   exact wpAny_bind (wpAny_mono h5 (fun _ s6 h6=>wpAny_pure (wpAny_pure ⟨rfl,h6⟩)) no)
end
noncomputable def K8 (X:Cx)(ifs:List Expr)(t:TT):Prop :=
 ∀ (pins:List (Addr × Obj))(s:Shared)(σ:St)(H:Hp)(Q:Bool->Hp->Prop),Inv X pins σ H s->t σ H Q->wpAny (model X.prog X.w) X.A (kO ifs X.env) (TP X pins σ Q) X.xe s
noncomputable def nZ:TT:=fun _ H Q=>Q true H
theorem ci {X:Cx}:K8 X [] nZ:=fun _ _ _ H _ I h=>wpAny_pure ⟨H,I,h⟩
theorem cf {X:Cx}{c:Expr}{t:TT}(h:PT X c t):K8 X [c] t:=fun pins s σ H Q I hw=>by
 simp only[kO,List.forIn_cons,List.forIn_nil,if_true]
 exact wpAny_bind (wpAny_bind (aP (h pins s σ H Q I hw) fun b s' hb=>wpAny_pure (wpAny_pure hb)))
structure Bk (N:List Str)(sc scope:Scope)(capN:List Str)(cap:List Nat):Prop where
 kind:scope.kind = .function
 B7:∀ y ∈ scope.names,y.2 ≠ .cell
 loc:∀ y ∈ scope.names,y.2 = .local->scope.names.lookup y.1=some .local
 free:∀ y ∈ scope.names,y.2 = .free->sc.names.lookup y.1=some .cell∨sc.names.lookup y.1=some .free
 len:cap.length=capN.length
 cap:∀ p ∈ capN.zip cap,scope.names.lookup p.1=some .free/\N[p.2]? = some p.1
abbrev bR (X:Cx)(scope:Scope)(N:List Str)(C:Addr)(s:Shared)(H:Hp)(fp:List Addr):Cx :=
 { X with N:=N,s₀:=s,H₀:=H,env:=compEnvC scope (bW X.env.cells scope.names []) C X.env,outer:=X.stack,stack:=X.stack,ex:=fp,fn:=fun _=>false,pn:=[],xe:=fun _ _=>False }
noncomputable def i6 (n:Nat)(cap:List Nat)(σ:St):St:=List.replicate n none ++ cap.map fun j=>(σ[j]?).join
theorem n8 (n:Nat)(cap:List Nat)(σ:St):(i6 n cap σ).length=n + cap.length:=by simp[i6]
section
variable {X:Cx}{pins:List (Addr × Obj)}{σ:St}{H:Hp}{s:Shared}{scope:Scope}{own capN:List Str}{cap:List Nat}{fp:List Addr}
theorem Bk.clos (B:Bk X.N X.env.scope scope capN cap)(ok:X.Ok):∀ y ∈ scope.names,y.2 = .free->∃ c,X.env.cells.lookup y.1=some c:=fun y hy hf=>ok.has y.1 (B.free y hy hf)
theorem Bk.cell (B:Bk X.N X.env.scope scope capN cap)(ok:X.Ok){x:Str}{c:Addr}(h:(bW X.env.cells scope.names []).lookup x=some c):X.env.cells.lookup x=some c :=
 dF scope.names [] (B.clos ok) (fun _ e=>by cases e) h
theorem Bk.locs (I:Inv X pins σ H s)(B:Bk X.N X.env.scope scope capN cap){h':Heap}(k:∀ x c v,X.env.cells.lookup x=some c->s.heap.IsCell c v->h'.IsCell c v)(C:Addr)(m0:Str->Option Value) :
  ∀ (i:Nat)(x:Str)(v:V),(own ++ capN)[i]? = some x->(i6 own.length cap σ)[i]? = some (some v)->∃ u,RelV v u/\Look (compEnvC scope (bW X.env.cells scope.names []) C X.env) h' m0 x u:=by
 intro i x v e1 e2
 have hi:own.length <= i:=by
  by_cases q:own.length <= i
  ·exact q
  ·unfold i6 at e2
   rw[getElem?_append_left (by simp;omega),List.getElem?_replicate,if_pos (by omega)]at e2
   cases e2
 have e1':capN[i - own.length]? = some x:=by
  rwa [getElem?_append_right hi]at e1
 unfold i6 at e2
 rw[getElem?_append_right (by simpa using hi),length_replicate,getElem?_map]at e2
 cases ej:cap[i - own.length]? with
 | none=>rw[ej]at e2;cases e2
 | some j =>
  rw[ej]at e2
  have OB:(σ[j]?).join=some v:=Option.some.inj e2
  have e3':σ[j]? = some (some v):=by
   cases q:σ[j]? with
   | none=>rw[q]at OB;cases OB
   | some u=>rw[q]at OB;exact congrArg some OB
  have hz:(x,j) ∈ capN.zip cap:=by
   refine List.mem_iff_getElem?.mpr ⟨i - own.length,?_⟩
   rw[List.getElem?_zip_eq_some]
   exact⟨e1',ej⟩
  obtain⟨c1,c2⟩:=B.cap (x,j) hz
  have VD:(x,NameKind.free) ∈ scope.names:=PySem.mem_of_lookup c1
  have hX:=B.free _ VD rfl
  obtain⟨m,hm,hl⟩:=I.loc
  obtain⟨u,ru,lk⟩:=hl j x v c2 e3' (hX.elim (fun z => .inr (.inl z)) fun z => .inr (.inr z))
  refine⟨u,ru, .inr ⟨gK c1,?_⟩⟩
  rcases lk with ⟨q,_⟩ | ⟨_,c,ec,ic⟩
  ·have q':X.env.scope.names.lookup x=some .local:=q
   rcases hX with z | z
   ·rw[z]at q';cases q'
   ·rw[z]at q';cases q'
  ·obtain⟨c',VE⟩:=eG (cells:=X.env.cells) (x:=x) scope.names [] (.inl VD)
   have:=B.cell I.ok VE
   rw[ec]at this
   cases this
   exact⟨c,VE,k x c _ ec ic⟩
theorem Inv.blk {h4:Heap}{tk:Nat}{m0:Str->Option Value}{C:Addr}(I:Inv X pins σ H s)(B:Bk X.N X.env.scope scope capN cap)(hC:s.heap.objs.size <= C)(k:∀ b o,s.heap.get? b=some o->h4.get? b=some o)
  (hn:h4.Ns C m0) (hf:∀ b ∈ fp,fQ X pins H b) (AG:∀ b ∈ fp,b < s.heap.objs.size) :
  Inv (bR X scope (own ++ capN) C s H fp) [] (i6 own.length cap σ) H { s with heap:=h4,toks:=tk }:=by
 have QC:∀ b ∈ fp,b ∉ j8 X.stack:=fun b hb z=>by
  obtain⟨_,f1,f2,_⟩:=hf b hb
  rcases mem_cons.mp (I.Bb b z) with e | e
  ·exact f1 e
  ·exact f2 e
 have hinv:∀ x,((relabel scope X.env).names.lookup x=some .cell∨(relabel scope X.env).names.lookup x=some .free)->(x,NameKind.free) ∈ scope.names:=fun x hx=>by
  rcases hx with q | q
  ·exact eU (.inl rfl) B.B7 q
  ·exact eU (.inr rfl) B.B7 q
 refine⟨⟨I.ok.mod,B.kind,I.ok.glob,I.ok.blt,hC,fun x y c h1 h2=>I.ok.inj x y c (B.cell I.ok h1) (B.cell I.ok h2),fun x hx=>eG scope.names [] (.inl (hinv x hx)),fun _ _ z=>absurd z Bool.false_ne_true,I.ok.hd,I.ok.frames, .inl rfl,
  fun b hb=>⟨ne_of_lt (lt_of_lt_of_le (AG b hb) hC),fun x c e=>(hf b hb).2.2.2.2.1 x c (B.cell I.ok e)⟩,I.bs,le_trans I.ok.Ee I.sz,fun b o e hb=>?_,fun b hb=>QC b hb,I.stack,I.BP⟩,
  rfl,I.bare,Un.kept k,⟨m0,hn,fun i x v e1 e2 _=>B.locs I (fun _ _ _ _ q=>q.keeps k) C m0 i x v e1 e2⟩,fun x c e=>?_,I.zV.fresh hC,fun x c e=>I.Az x c (B.cell I.ok e),fun p hp=>absurd (show p ∈ ([]:List (Addr × Obj)) from hp) (by simp),I.zV.kept k,?_⟩
 ·rcases (hf b hb).2.2.2.1 with z | z
  ·exact I.ok.Dm b o e z
  ·exact absurd (lt_of_lt_of_le (lt_size e) (le_trans I.ok.Ee z)) (lt_irrefl _)
 ·obtain⟨v,q⟩:=I.cell x c (B.cell I.ok e)
  exact⟨v,q.keeps k⟩
 ·show(i6 own.length cap σ).length=(own ++ capN).length
  rw[n8,length_append,B.len]
theorem Inv.reset {pins':List (Addr × Obj)}{σ':St}{H':Hp}{s':Shared}{C:Addr}(I:Inv X pins σ H s)(B:Bk X.N X.env.scope scope capN cap)(hf:∀ b ∈ fp,fQ X pins H b)(J:Inv (bR X scope (own ++ capN) C s H fp) pins' σ' H' s') :
  Inv (bR X scope (own ++ capN) C s H fp) pins' (i6 own.length cap σ) H' s':=by
 obtain⟨m,hn,_⟩:=J.loc
 refine⟨J.ok,J.os,J.bare,J.base,⟨m,hn,fun i x v e1 e2 _=>?_⟩,J.cell,J.free,J.Az,J.pin,J.zV,?_⟩
 ·refine B.locs I (fun y c v' ec ic=>?_) C m i x v e1 e2
  obtain⟨o,ho,hd⟩:=ic
  have hx:c ∉ fp:=fun z=>(hf c z).2.2.2.2.1 y c ec rfl
  obtain⟨sl,e⟩:=J.base.any ho (I.Az y c ec) hx
  exact⟨_,e,hd⟩
 ·show(i6 own.length cap σ).length=(own ++ capN).length
  rw[n8,length_append,B.len]
theorem Inv.adopt {D:Addr}{o:HO}(I:Inv X pins σ H s)(hn:H D=none)(h0:X.s₀.heap.objs.size <= D)(hL:D ≠ X.env.locals)(hc:∀ x c,X.env.cells.lookup x=some c->c ≠ D)(hp:∀ p ∈ X.pn ++ pins,p.1 ≠ D)
  (new:Ag X.prog X.w (upd H D o) s.heap D o):Inv X pins σ (upd H D o) s:=by
 have ne:∀ b u,H b=some u->b ≠ D:=fun b u e=>ag e hn
 refine⟨I.ok,I.os,I.bare,⟨I.base.keep,I.base.slot,fun b ob e n hx=>?_,I.base.there,fun b xs e=>?_,fun b ob u e=>?_,fun b ps e=>?_⟩,I.loc,I.cell,?_,fun x c e=>?_,fun p C2=>?_,fun b u e=>?_,I.len⟩
 ·rw[ae (ne_of_lt (lt_of_lt_of_le (lt_size e) h0))]
  exact I.base.free b ob e n hx
 ·have q:=I.base.BX b xs e
  rw[ae (ne b _ q)];exact q
 ·have q:=I.base.BH b ob u e
  rw[ae (ne b _ q)];exact q
 ·obtain⟨more,q⟩:=I.base.BI b ps e
  exact⟨more,by rw[ae (ne b _ q)];exact q⟩
 ·rw[ae (Ne.symm hL)];exact I.free
 ·rw[ae (hc x c e)];exact I.Az x c e
 ·obtain⟨e,n,r⟩:=I.pin p C2
  exact⟨e,by rw[ae (hp p C2)];exact n,r⟩
 ·by_cases hb:b=D
  ·subst hb;rw[ac]at e;cases e;exact new
  ·rw[ae hb]at e
   exact(I.zV b u e).B5 (fun _ _ _ q=>q) (fun c q=>by rw[ae (ne c _ q)];exact q) fun c xs q=>by rw[ae (ne c _ q)];exact q
end
noncomputable def du (J:It)(g:TG)(tt:TT)(te:TE)(σ0:St)(Q:VK)(H1:Hp):Prop:=∃ W:Nat->Nat->List V->Hp->Prop,(∃ m,W 0 m [] H1)/\∀ i m acc H,W i m acc H ->
 acc.length < sizeLine/\((J.stop i H/\∀ D,H D=none->Q (.ref D) (upd H D (.lst acc)))∨(J.go i H/\∃ N:List V->Hp->Prop,(∀ AL H',N AL H'->∃ m',m' < m/\W (i + 1) m' AL H') /\
  ∀ x H',J.EU i H x H'->g x σ0 H' fun σ2 H2=>tt σ2 H2 fun b H3=>if b=true then te σ2 H3 fun y H4=>N (acc ++ [y]) H4 else N acc H3))
noncomputable def xm (wi:TI)(g:TG)(tt:TT)(te:TE)(n:Nat)(cap:List Nat):TE:=fun σ H Q=>wi σ H fun J H1=>du J g tt te (i6 n cap σ) Q H1
section
variable {X:Cx}{tg iter elt:Expr}{ifs:List Expr}{scope:Scope}{pos:Pos}{wi:TI}{g:TG}{tt:TT}{te:TE}{own capN:List Str}{cap:List Nat}
abbrev l5 (zT:List Value)(k:Nat):Obj:={ cls := .type "list",data := .seq zT.toArray k }
theorem ng {pins:List (Addr × Obj)}{s:Shared}{σ:St}{H:Hp}{Q:VK}{it:Addr}{fp:List Addr}{tn:Nat->Heap->Prop}{J:It}(B:Bk X.N X.env.scope scope capN cap)(hc:X.calm=true)
  (hb:∀ (C:Addr)(s:Shared)(H:Hp)(fp:List Addr),PG (bR X scope (own ++ capN) C s H fp) tg g/\K8 (bR X scope (own ++ capN) C s H fp) ifs tt/\PE (bR X scope (own ++ capN) C s H fp) elt te)
  (I:Inv X pins σ H s) (T:nG X.prog X.w X.K tg J fp it tn) (st:tn 0 s.heap) (hf:∀ b ∈ fp,fQ X pins H b) {W:Nat->Nat->List V->Hp->Prop} {m0:Nat} (w0:W 0 m0 [] H)
  (turn:∀ i m acc H,W i m acc H->acc.length < sizeLine/\((J.stop i H/\∀ D,H D=none->Q (.ref D) (upd H D (.lst acc)))∨(J.go i H/\∃ N:List V->Hp->Prop,(∀ AL H',N AL H'->∃ m',m' < m/\W (i + 1) m' AL H') /\
   ∀ x H',J.EU i H x H'->g x (i6 own.length cap σ) H' fun σ2 H2=>tt σ2 H2 fun b H3=>if b=true then te σ2 H3 fun y H4=>N (acc ++ [y]) H4 else N acc H3)))
  {RR:Value->Addr->Result->Shared->Prop}
  (fin:∀ (D C:Addr)(H':Hp)(s':Shared),Q (.ref D) H'->Inv X pins σ H' s'->(∃ m,s'.heap.Ns C m)->H' C=none->C ≠ X.env.locals->X.s₀.heap.objs.size <= C->(∀ x c,X.env.cells.lookup x=some c->c ≠ C)->(∀ p ∈ X.pn ++ pins,p.1 ≠ C) ->
   RR (.ref D) C (.ok .next) s') :
  wpAny (model X.prog X.w) X.A (newList []) (fun acc s3=>wpAny (model X.prog X.w) X.A (newFunctionEnv scope X.env.globals (bW X.env.cells scope.names []) [] X.env.qual none .none (some X.env)) (fun KA s4 =>
   codeAny (model X.prog X.w) X.A (.compStart (.ListComp elt [⟨tg,iter,ifs,0⟩] scope pos) 0 (.ref it) acc { KA with scope:=relabel scope X.env }) (RR acc KA.locals) s4) X.xe s3) X.xe s:=by
 refine wpAny_newObj_type (wpAny_newFunctionEnv B.B7 (by intro y hy;simp at hy) (fun h1 Jw Gu=>?_) B.kind)
 dsimp only at Jw Gu ⊢
 generalize Ey:s.heap.push { cls := .type "list",dict:=none,data := .seq ([]:List Value).toArray } = H2 at Jw Gu ⊢
 have hCs:H2.objs.size=s.heap.objs.size + 1:=by rw[← Ey,size_push]
 have Dx:s.heap.objs.size <= H2.objs.size:=by omega
 have Fu:∀ b ∈ fp,b < s.heap.objs.size:=fun b hb=>by
  obtain⟨o,e,_⟩:=T.obj 0 s.heap st b hb
  exact lt_size e
 have old:∀ b o,s.heap.get? b=some o->h1.get? b=some o:=fun b o e =>
  Gu.extBut b o (ne_of_lt (lt_of_lt_of_le (lt_size e) Dx)) (Heap.get?_push_of_some _ (Ey ▸ Heap.get?_push_of_some _ e))
 have OC:s.heap.objs.size ≠ H2.objs.size:=by omega
 have QD:h1.get? s.heap.objs.size=some (l5 [] 0):=Gu.extBut _ _ OC (Heap.get?_push_of_some _ (Ey ▸ Heap.get?_push_size _ rfl))
 have I4:Inv (bR X scope (own ++ capN) H2.objs.size s H fp) [] (i6 own.length cap σ) H { s with heap:=h1,toks:=s.toks + ([]:List (Str × Value)).length }:=I.blk (own:=own) B Dx old Jw hf Fu
 have QC:∀ b ∈ fp,b ∉ j8 X.stack:=fun b hb z=>by
  obtain⟨_,f1,f2,_⟩:=hf b hb
  rcases mem_cons.mp (I.Bb b z) with e | e
  ·exact f1 e
  ·exact f2 e
 have Fv:∀ b ∈ j8 X.stack,b < s.heap.objs.size:=fun b hb=>by
  obtain⟨_,o,ho,_⟩:=I.stack.mem hb
  exact lt_size ho
 have Dy:∀ x c,X.env.cells.lookup x=some c->c < s.heap.objs.size:=fun x c e=>by
  obtain⟨v,q⟩:=I.cell x c e
  exact q.lt
 have Gv:∀ (H':Hp)(h':Heap)(zT:List Value)(k:Nat),H' s.heap.objs.size=none->h'.get? s.heap.objs.size=some (l5 zT k) ->
   ∀ p ∈ [(s.heap.objs.size,l5 zT k)],h'.get? p.1=some p.2/\H' p.1=none/\p.1 ≠ (bR X scope (own ++ capN) H2.objs.size s H fp).env.locals/\p.1 ∉ (bR X scope (own ++ capN) H2.objs.size s H fp).fs/\∀ v,p.2.data ≠ .cell v:=fun H' h' zT k hn he p hp=>by
  have e:p=(s.heap.objs.size,l5 zT k):=by simpa using hp
  subst e
  exact⟨he,hn,OC,fun z=>absurd (Fv _ z) (lt_irrefl _),fun v z=>by cases z⟩
 have stat:∀ (H':Hp)(zT:List Value)(k:Nat),(∀ b ∈ fp,H' b=none)->∀ b ∈ fp,fQ (bR X scope (own ++ capN) H2.objs.size s H fp) [(s.heap.objs.size,l5 zT k)] H' b:=fun H' zT k hn b hb =>
  ⟨hn b hb,ne_of_lt (lt_of_lt_of_le (Fu b hb) Dx),QC b hb, .inl hb,fun x c e=>(hf b hb).2.2.2.2.1 x c (B.cell I.ok e),fun p hp=>by
   have e:p=(s.heap.objs.size,l5 zT k):=by simpa using hp
   subst e
   exact ne_of_gt (Fu b hb)⟩
 have loop:∀ s3:Shared,s3 = { s with heap:=h1,toks:=s.toks + ([]:List (Str × Value)).length } ->
   codeAny (model X.prog X.w) X.A (.compLoop (.ListComp elt [⟨tg,iter,ifs,0⟩] scope pos) 0 (.ref it) (.ref s.heap.objs.size) (compEnvC scope (bW X.env.cells scope.names []) H2.objs.size X.env))
    (RR (.ref s.heap.objs.size) H2.objs.size) s3:=by
  rintro s3 rfl
  refine nq (fun n s'=>∃ i acc zT k H',Inv (bR X scope (own ++ capN) H2.objs.size s H fp) [(s.heap.objs.size,l5 zT k)] (i6 own.length cap σ) H' s'/\tn i s'.heap/\(∀ b ∈ fp,H' b=none)/\Vals acc zT/\W i n acc H') ?_ m0
   ⟨0,[],[],0,H,I4.AR (Gv _ _ _ _ (I.zV.fresh (Nat.le_refl _)) QD),T.keep 0 s.heap h1 st fun b _ o e=>old b o e,fun b hb=>(hf b hb).1, .nil,w0⟩
  rintro n s5 ⟨i,acc,zT,k,H5,I5,Jp,O6,rv,w5⟩
  obtain⟨hsz,KC⟩:=turn i n acc H5 w5
  obtain⟨hgt,EX,hte⟩:=hb H2.objs.size s H fp
  rcases KC with ⟨stop,q⟩ | ⟨go,N,hN,step⟩
  ·refine aP (T.done (bR X scope (own ++ capN) H2.objs.size s H fp) rfl rfl rfl hc i _ s5 _ H5 _ I5 (stat H5 zT k O6) Jp stop) fun r s6 zS=>?_
   obtain⟨hr,I6⟩:=zS
   subst hr
   obtain⟨hD,KD,_⟩:=I6.pin (s.heap.objs.size,l5 zT k) (by simp)
   have J1:Inv X pins σ H5 s6:=I.FZ (s':=s6) (ch:=fp) I6.os I6.base I6.zV I6.bare fun b hb=>by
    obtain⟨_,f1,_,f3,f4,f5⟩:=hf b hb
    exact⟨f3,f1,f4,f5⟩
   have J2:Inv X pins σ (upd H5 s.heap.objs.size (.lst acc)) s6:=J1.adopt KD I.sz (ne_of_gt I.lt) (fun x c e=>ne_of_lt (Dy x c e)) (fun p hp=>ne_of_lt (lt_size (I.pin p hp).1)) ⟨le_of_lt hsz,zT,k,rv,hD⟩
   obtain⟨mC,KG,_⟩:=I6.loc
   refine fin _ _ _ s6 (q _ KD) J2 ⟨mC,KG⟩ (by rw[ae (Ne.symm OC)];exact I6.free) (ne_of_gt (lt_of_lt_of_le I.lt Dx)) (le_trans I.sz Dx) (fun x c e=>ne_of_lt (lt_of_lt_of_le (Dy x c e) Dx)) fun p hp =>
    ne_of_lt (lt_of_lt_of_le (lt_size (I.pin p hp).1) Dx)
  ·refine aP (T.item (bR X scope (own ++ capN) H2.objs.size s H fp) rfl rfl rfl hc i _ s5 _ H5 _ I5 (stat H5 zT k O6) Jp go) fun r s6 zS=>?_
   obtain⟨u,hr,h6⟩:=zS
   subst hr
   refine aP h6 fun _ s7 zS=>?_
   obtain⟨x,H7,I7,r7,y7,QE,fr7⟩:=zS
   have I7':=I7.pinned (stat H7 zT k fr7) (T.obj _ _ QE)
   refine aP (hgt _ s7 _ H7 x u _ I7' r7 (step x H7 y7)) fun _ s8 zS=>?_
   obtain⟨σ8,H8,I8,q8⟩:=zS
   refine aP (EX _ s8 σ8 H8 _ I8 q8) fun b s9 zS=>?_
   obtain⟨H9,I9,q9⟩:=zS
   have VF:∀ {H':Hp}{s':Shared}{σ':St},Inv (bR X scope (own ++ capN) H2.objs.size s H fp) (e9 fp s7.heap) σ' H' s'->tn (i + 1) s'.heap/\∀ b ∈ fp,H' b=none:=fun {H' s' σ'} K=>by
    refine⟨T.keep _ _ _ QE fun b hb o e=>(K.pin (b,o) (eB hb e)).1,fun b hb=>?_⟩
    obtain⟨o,e,_⟩:=T.obj _ _ QE b hb
    exact(K.pin (b,o) (eB hb e)).2.1
   cases b with
   | false =>
    rw[if_neg Bool.false_ne_true]
    obtain⟨m',hm,w9⟩:=hN acc H9 (by simpa using q9)
    have K9:Inv (bR X scope (own ++ capN) H2.objs.size s H fp) (e9 fp s7.heap) σ8 H9 s9:=I9.AR fun p hp=>I9.pin p (mem_append_right _ (mem_append_right _ hp))
    obtain⟨t9,f9⟩:=VF K9
    exact⟨m',hm,i + 1,acc,zT,k,H9,I.reset B hf I9.Bt,t9,f9,rv,w9⟩
   | true =>
    rw[if_pos rfl]
    have q9':te σ8 H9 fun y H4=>N (acc ++ [y]) H4:=by simpa using q9
    refine aP (hte _ s9 σ8 H9 _ I9 q9') fun yv QF zS=>?_
    obtain⟨y,Fw,QG,r10,q10⟩:=zS
    obtain⟨hD,KD,_⟩:=QG.pin (s.heap.objs.size,l5 zT k) (by simp)
    have hlen:=rv.length
    refine wpAny_list_append_plain ⟨k,hD⟩ (fun h' Br HZ=>?_) (by rw[size_toArray];omega)
    obtain⟨k',hD'⟩:=Br
    obtain⟨m',hm,w10⟩:=hN (acc ++ [y]) Fw q10
    have K10:Inv (bR X scope (own ++ capN) H2.objs.size s H fp) (e9 fp s7.heap) σ8 Fw QF:=QG.AR fun p hp=>QG.pin p (mem_append_right _ (mem_append_right _ hp))
    have VG:Inv (bR X scope (own ++ capN) H2.objs.size s H fp) (e9 fp s7.heap) σ8 Fw { QF with heap:=h' }:=K10.turned (t':=QF.toks) (it:=s.heap.objs.size) (fun b o hb e=>(HZ.2 b hb).trans e) KD OC (.inr (Nat.le_refl _))
     (fun x c e=>ne_of_lt (Dy x c (B.cell I.ok e))) fun p hp=>by
      obtain⟨hb,_⟩:=ke (show p ∈ e9 fp s7.heap from hp)
      exact ne_of_lt (Fu p.1 hb)
    obtain⟨t11,OD⟩:=VF VG
    refine⟨m',hm,i + 1,acc ++ [y],zT ++ [yv],k',Fw,?_,t11,OD,rv.append (.cons r10 .nil),w10⟩
    refine I.reset B hf (VG.AR (Gv _ _ _ _ KD ?_))
    show h'.get? s.heap.objs.size=some { cls := .type "list",data := .seq (zT ++ [yv]).toArray k' }
    rw[show(zT ++ [yv]).toArray=zT.toArray.push yv by simp]
    exact hD'
 exact codeAny_compStart_list (loop _ rfl) (T.self X.A 0 _ _ _ (T.keep 0 s.heap h1 st fun b _ o e=>old b o e) (loop _ rfl))
theorem bv (B:Bk X.N X.env.scope scope capN cap)(hc:X.calm=true)(hi:PI X tg iter wi)
  (hb:∀ (C:Addr)(s:Shared)(H:Hp)(fp:List Addr),PG (bR X scope (own ++ capN) C s H fp) tg g/\K8 (bR X scope (own ++ capN) C s H fp) ifs tt/\PE (bR X scope (own ++ capN) C s H fp) elt te)
  (hs:autoParam (∀ x,foldedSetIterable iter X.env x=pure x) ψ):PE X (.ListComp elt [⟨tg,iter,ifs,0⟩] scope pos) (xm wi g tt te own.length cap):=by
 intro pins s σ H Q I h
 rw[eval_ListComp]
 refine wpAny_comprehension_free (use:=none) rfl hs (fV (B.clos I.ok)) B.kind B.loc (aP (hi pins s σ H _ I h) fun v s1 h1=>aP h1 fun O4 s2 h2=>?_)
 obtain⟨it,fp,tn,J,H2,e,I2,T,Kp,f2,W,⟨m0,w0⟩,turn⟩:=h2
 subst e
 refine ng (own:=own) B hc hb I2 T Kp f2 w0 turn (RR:=fun acc C=>compPost (model X.prog X.w) X.A X.xe none (EP X pins σ Q) acc C) fun D C H' s' q J2 ⟨mC,KG⟩ fC n1 n2 n3 n4=>?_
 refine⟨mC,KG,fun h' Gu=>⟨.ref D,H',?_,rfl,q⟩⟩
 exact J2.turned (t':=s'.toks) (it:=C) (fun b o hb e=>(Gu.2 b hb).trans e) fC n1 (.inr n2) n3 n4
theorem e8 {i:Nat}{x:Str}{px:Pos}{KH:Pos}(B:Bk X.N X.env.scope scope capN cap)(hc:X.calm=true)(hN:X.N.Nodup)(hx:X.N[i]? = some x)(hl:X.env.scope.names.lookup x=some .local)(hi:PI X tg iter wi)
  (hb:∀ (C:Addr)(s:Shared)(H:Hp)(fp:List Addr),PG (bR X scope (own ++ capN) C s H fp) tg g/\K8 (bR X scope (own ++ capN) C s H fp) ifs tt/\PE (bR X scope (own ++ capN) C s H fp) elt te)
  (hsw:autoParam (swapsWith (.ListComp elt [⟨tg,iter,ifs,0⟩] scope pos) (some (.Name x px)) KH.line X.env=pure true) η)
  (hs:autoParam (∀ x,foldedSetIterable iter X.env x=pure x) ψ):PS X (.Assign [.Name x px] (.ListComp elt [⟨tg,iter,ifs,0⟩] scope pos) KH) (xX (xm wi g tt te own.length cap) (eK i)):=by
 intro pins s σ H D0 I h
 rw[exec_Assign_Name_used _ _ _ _ hsw]
 refine wpAny_bind (wpAny_standAt (wpAny_bind ?_))
 show wpAny _ X.A (do
  let _ ← comprehension (.ListComp elt [⟨tg,iter,ifs,0⟩] scope pos) scope X.env _ (newList []) false (eval iter X.env) (some (assign (.Name x px) X.env))) _ _ s
 refine wpAny_bind (wpAny_mono (wpAny_comprehension_free (use:=some (assign (.Name x px) X.env)) (Q:=fun _ s'=>SP X pins D0 .next s') rfl hs (fV (B.clos I.ok)) B.kind B.loc
  (aP (hi pins s σ H _ I h) fun v s1 h1=>aP h1 fun O4 s2 h2=>?_)) (fun _ s' hq=>wpAny_pure (wpAny_pure hq)) fun _ _ e=>e)
 obtain⟨it,fp,tn,J,H2,e,I2,T,Kp,f2,W,⟨m0,w0⟩,turn⟩:=h2
 subst e
 refine ng (own:=own) (Q:=fun x H1=>eK i x σ H1 D0.nx) B hc hb I2 T Kp f2 w0 turn (RR:=fun acc C=>compPost (model X.prog X.w) X.A X.xe (some (assign (.Name x px) X.env)) (fun _ s'=>SP X pins D0 .next s') acc C) fun D C H' s' q J2 ⟨mC,KG⟩ fC n1 n2 n3 n4=>?_
 show wpAny _ X.A (assign (.Name x px) X.env (.ref D)) _ _ s'
 refine wpAny_assign_Name (jW J2 hN hx (.inl hl) (show RelV (.ref D) (.ref D) from rfl) (fun Et J3 zS=>?_) (.inr hl))
 obtain⟨a,Gu,ha⟩:=zS
 have hCa:C ≠ a:=by
  rcases ha with z | z
  ·rw[z];exact n1
  ·exact(n3 x a z).symm
 refine⟨mC,KG.sameBut Gu hCa,fun h' HZ=>⟨_,H',?_,q⟩⟩
 exact J3.turned (t':=Et.toks) (it:=C) (fun b o hb e=>(HZ.2 b hb).trans e) fC n1 (.inr n2) n3 n4
end
mutual
inductive nJ (K:Frag)(H:Hp):V->PyData->Prop
 | Af:nJ K H .Af .none
 | bl (b:Bool):nJ K H (.bl b) (.bool b)
 | int (i:Int):nJ K H (.int i) (.int i)
 | str (x:Str):nJ K H (.str x) (.str x)
 | lst {a:Addr} {xs:List V} {ds:List PyData}:zU K H a xs->jK K H xs ds->nJ K H (.ref a) (.list ds)
 | tup {a:Addr} {xs:List V} {ds:List PyData}:Ab K H a xs->jK K H xs ds->nJ K H (.ref a) (.tuple ds)
inductive jK (K:Frag)(H:Hp):List V->List PyData->Prop
 | nil:jK K H [] []
 | cons {x:V} {d:PyData} {xs:List V} {ds:List PyData}:nJ K H x d->jK K H xs ds->jK K H (x :: xs) (d :: ds)
end
section
variable {X:Cx}{pins:List (Addr × Obj)}{σ:St}{H:Hp}{s:Shared}
mutual
theorem Inv.den (I:Inv X pins σ H s):∀ {x:V}{d:PyData}{u:Value},nJ X.K H x d->RelV x u->∃ as,Reads s.heap u d as
 | _,_,_, .Af,r=>by cases r;exact⟨_, .none⟩
 | _,_,_, .bl b,r=>by cases r;exact⟨_, .bool b⟩
 | _,_,_, .int i,r=>by obtain⟨t,rfl⟩:=r;exact⟨_, .int i t⟩
 | _,_,_, .str x,r=>by obtain⟨t,rfl⟩:=r;exact⟨_, .str x t⟩
 | _,_,_, .lst hq hd,r=>by
  cases r
  obtain⟨zT,rv,⟨o,n,e,hc,_,QH⟩,_⟩:=I.list hq
  obtain⟨as,q⟩:=I.Ib hd rv
  exact⟨_, .list e hc QH (by simpa using q)⟩
 | _,_,_, .tup hq hd,r=>by
  cases r
  obtain⟨zT,rv,⟨o,e,hc,n,QH⟩,_⟩:=I.tuple hq
  obtain⟨as,q⟩:=I.Ib hd rv
  exact⟨_, .tuple e hc QH (by simpa using q)⟩
theorem Inv.Ib (I:Inv X pins σ H s):∀ {xs:List V}{ds:List PyData}{us:List Value},jK X.K H xs ds->Vals xs us->∃ as,ReadsAll s.heap us ds as
 | _,_,_, .nil, .nil=>⟨_, .nil⟩
 | _,_,_, .cons hd hr, .cons r rr=>by
  obtain⟨as,q⟩:=I.den hd r
  obtain⟨bs,q'⟩:=I.Ib hr rr
  exact⟨_, .cons q q'⟩
end
noncomputable def y2 (K:Frag):R2:=fun x y H Q=>∃ da db,nJ K H x da/\nJ K H y db/\SeqAt.shaped da=true/\SeqAt.shaped db=true/\Q (.bl (!PyData.eqv da db)) H
end
section
variable {X:Cx}
theorem jv (hu:X.A.units + 64 < cLine):eP X (compareOp .NotEq) (y2 X.K):=by
 intro pins s σ H x y v u Q I rx ry h
 obtain⟨da,db,h1,h2,h3,h4,q⟩:=h
 obtain⟨as,r1⟩:=I.den h1 rx
 obtain⟨bs,r2⟩:=I.den h2 ry
 exact SeqAt.compareNe_shaped r1 r2 h3 h4 hu ⟨.bl _,H,I,rfl,q⟩
theorem kF {K:Frag}{H:Hp}:∀ ns:List Int,jK K H (ns.map V.int) (ns.map PyData.int)
 | [] => .nil
 | n :: r => .cons (.int n) (kF r)
theorem mZ {K:Frag}{H:Hp}{a:Addr}{ns:List Int}(h:zU K H a (ns.map V.int)):nJ K H (.ref a) (.list (ns.map PyData.int)) := .lst h (kF ns)
noncomputable def QI (K:Frag):R2:=fun x y H Q=>∃ (p q:Addr)(ns ms:List Int),x = .ref p/\y = .ref q/\zU K H p (ns.map V.int)/\zU K H q (ms.map V.int)/\Q (.bl (!decide (ns=ms))) H
theorem yD (hu:X.A.units + 64 < cLine):eP X (compareOp .NotEq) (QI X.K):=by
 intro pins s σ H x y v u Q I rx ry h
 obtain⟨p,q,ns,ms,rfl,rfl,h1,h2,q⟩:=h
 refine jv hu pins s σ H _ _ v u Q I rx ry ⟨_,_,mZ h1,mZ h2,PySem.W.shaped_ints ns,PySem.W.shaped_ints ms,?_⟩
 simp only[PyData.eqv,PySem.W.ked_eqvAll]
 exact q
noncomputable def QJ (K:Frag):List V->Hp->VK->Prop:=fun xs H Q =>
 (∃ i,xs=[.int i, .ty "int"]/\Q (.bl true) H)∨(∃ i,xs=[.int i, .ty "bool"]/\Q (.bl false) H)∨(∃ p ys,xs=[.ref p, .ty "list"]/\zU K H p ys/\Q (.bl true) H)∨(∃ p ys,xs=[.ref p, .ty "tuple"]/\Ab K H p ys/\Q (.bl true) H)
theorem n0:dv X (.builtin "isinstance") (QJ X.K):=by
 intro pins s σ H xs us Q I r h
 rcases h with ⟨i,rfl,q⟩ | ⟨i,rfl,q⟩ | ⟨p,ys,rfl,hq,q⟩ | ⟨p,ys,rfl,hq,q⟩
 ·cases r with
  | cons r1 r2 =>
   cases r2 with
   | cons r2 r3 =>
    cases r3
    obtain⟨t,rfl⟩:=r1
    cases r2
    exact IsiPair.int_int ⟨.bl true,H,I,rfl,q⟩
 ·cases r with
  | cons r1 r2 =>
   cases r2 with
   | cons r2 r3 =>
    cases r3
    obtain⟨t,rfl⟩:=r1
    cases r2
    exact IsiPair.int_bool ⟨.bl false,H,I.tok _,rfl,q⟩
 ·cases r with
  | cons r1 r2 =>
   cases r2 with
   | cons r2 r3 =>
    cases r3
    cases r1
    cases r2
    obtain⟨zT,rv,⟨o,n,e,hc,_⟩,_⟩:=I.list hq
    exact IsiPair.list_list e hc ⟨.bl true,H,I,rfl,q⟩
 ·cases r with
  | cons r1 r2 =>
   cases r2 with
   | cons r2 r3 =>
    cases r3
    cases r1
    cases r2
    obtain⟨zT,rv,⟨o,e,hc,_⟩,_⟩:=I.tuple hq
    exact IsiPair.tuple_tuple e hc ⟨.bl true,H,I,rfl,q⟩
theorem wB:OA X "int.bit_length" (fun x xs H Q=>∃ i,x = .int i/\xs=[]/\Q (.int (Builtin.Int.intBits i:Nat)) H):=by
 intro pins s σ H x xs v us Q I rx rv h
 obtain⟨i,rfl,rfl,q⟩:=h
 obtain⟨t,rfl⟩:=rx
 cases rv
 exact call_int_bit_length ⟨.int _,H,I.tok _,⟨_,rfl⟩,q⟩
theorem Inv.same {pins:List (Addr × Obj)}{σ:St}{H:Hp}{s s':Shared}(I:Inv X pins σ H s)(k:∀ b o,s.heap.get? b=some o->s'.heap.get? b=some o)(g:s'.gens=s.gens)(ho:s'.os=s.os):Inv X pins σ H s':=by
 obtain⟨hh,gg,dd,tt,oo⟩:=s'
 simp only at k g ho
 subst g
 subst ho
 have J:Inv X pins σ H { s with heap:=hh,toks:=tt }:=I.kept k
 exact⟨J.ok,J.os,J.bare,J.base,J.loc,J.cell,J.free,J.Az,J.pin,J.zV,J.len⟩
theorem jF (hc:X.calm=true):dv X (.builtin "all") (fun xs H Q=>∃ (p:Addr)(bs:List Bool),xs=[.ref p]/\zU X.K H p (bs.map V.bl)/\Q (.bl (bs.all id)) H):=by
 intro pins s σ H xs us Q I r h
 obtain⟨p,bs,rfl,hq,q⟩:=h
 obtain⟨u,rfl,rx⟩:=jU r
 cases rx
 obtain⟨zT,rv,pl,hz⟩:=I.list hq
 have hlen:=rv.length
 rw[length_map]at hlen
 have AG:p < s.heap.objs.size:=by obtain⟨o,n,e,_⟩:=pl;exact lt_size e
 have VH:∀ (i:Nat)(v:Value),zT.toArray[i]? = some v->v=Value.bool (bs.getD i false):=fun i v hv=>by
  have Jr:zT[i]? = some v:=by simpa using hv
  have hi:i < bs.length:=by rw[hlen];exact(gQ0 Jr)
  obtain⟨u,hu,ru⟩:=rv.get (i:=i) (x := .bl bs[i]) (by simp[hi])
  rw[Jr]at hu
  cases hu
  rw[getD_eq_getElem?_getD,getElem?_eq_getElem hi]
  exact ru
 have hh1:X.A.in1.handled=none:=I.ok.hd hc
 refine call_all_walkS (wpAny_pyIter_list pl.isList ⟨s.heap.objs.size,[s.heap.objs.size,p],[s.heap.objs.size],fun a b=>b=a,zT.toArray.size,fun i v=>zT.toArray[i]? = some v,_,fun i=>bs.getD i false,rfl,
  (Walks.list hh1 _ p (ne_of_lt AG) zT.toArray).toS,⟨⟨_,Heap.get?_push_size _ rfl,rfl,rfl⟩,pl.isList.push _⟩,fun i v s1 Q1 E1 hv hq1=>?_,fun s' hm=>?_⟩)
 ·rw[VH i v hv]
  exact wpAny_truthy_bool hq1
 ·have I1:Inv X pins σ H { s with heap:=s.heap.push { cls := .type "list_iterator",data := .fields #[.ref p, .int 0 0] } }:=I.kept (t':=s.toks) fun b o e=>Heap.get?_push_of_some _ e
  refine⟨.bl _,H,I.same (fun b o e=>hm.heap b o (fun hb=>?_) (Heap.get?_push_of_some _ e)) hm.gens hm.os,rfl,?_⟩
  ·have BS:b=s.heap.objs.size:=by simpa using hb
   exact absurd (lt_size e) (by rw[BS];exact lt_irrefl _)
  ·have e:((List.range zT.toArray.size).all fun i=>bs.getD i false)=bs.all id:=by
    rw[size_toArray,← hlen]
    clear VH hlen hq rv q
    have:(List.range bs.length).map (fun i=>bs.getD i false)=bs:=by
     apply List.ext_getElem
     ·simp
     ·intro i h1 h2
      simp[h2]
    conv=>rhs;rw[← this]
    rw[all_map]
    rfl
   rw[e]
   exact q
end
theorem jC {o:Obj}{vs:Array Value}(hd:o.data = .fields vs)(f:Array Value->Array Value):(Obj.mapFields f o).dict=o.dict:=by
 obtain⟨c,d,dt,sl⟩:=o
 cases dt<;>rfl
noncomputable def Fx (h:Heap)(e:Addr)(cls:Value)(dd:Option Addr)(ch:List Addr):Prop :=
 ∃ oe vs,h.get? e=some oe/\oe.cls=cls/\oe.dict=dd/\oe.data = .fields vs /\
  ((vs[1]? = some .none/\ch=[e])∨∃ T oT ts,vs[1]? = some (.ref T)/\T ≠ e/\h.get? T=some oT/\oT.data = .fields ts/\ts[3]? = some .none/\ch=[e,T])
theorem Fx.rec {h:Heap}{e:Addr}{cls:Value}{dd:Option Addr}{ch:List Addr}(x:Fx h e cls dd ch):∀ b ∈ ch,∃ o vs,h.get? b=some o/\o.data = .fields vs:=by
 obtain⟨oe,vs,he,_,_,hd,h1 | ⟨T,oT,ts,_,_,hT,Jx,_,rfl⟩⟩:=x
 ·obtain⟨_,rfl⟩:=h1
  intro b hb
  simp only[mem_singleton]at hb
  subst hb
  exact⟨oe,vs,he,hd⟩
 ·intro b hb
  simp only[mem_cons,not_mem_nil,or_false]at hb
  rcases hb with rfl | rfl
  ·exact⟨oe,vs,he,hd⟩
  ·exact⟨oT,ts,hT,Jx⟩
structure qv (fs ch:List Addr)(h h':Heap):Prop where
 keep:∀ b o,h.get? b=some o->b ∉ ch->b ∉ fs->h'.get? b=some o
 slot:∀ b o,h.get? b=some o->b ∉ ch->∃ sl,h'.get? b=some { o with slots:=sl }
 there:∀ b o,h.get? b=some o->∃ o',h'.get? b=some o'
section
variable {M:Model}{A:Around}{E:Value->Shared->Prop}{s:Shared}
theorem kj {base:Heap}{env:Env}{outer:List Env}{L e:Addr}{oe:Obj}{vs:Array Value}{head:Value}{hadNext:Bool}{Q:Unit->Shared->Prop}
  (DV:A.frames=some (env :: outer)) (hl:s.heap.FunFrames base (env :: outer)) (hf:env.frame=some L)
  (he:s.heap.get? e=some oe) (hd:oe.data = .fields vs) (hsz:1 < vs.size)
  (h:∀ h',Fx h' e oe.cls oe.dict [e,s.heap.objs.size]->qv (j8 (env :: outer)) [e] s.heap h'->Q () { s with heap:=h' }) :
  wpAny M A (do let a ← frameOf env;let pl ← entryPlaceOf L hadNext;let b ← EntryCells.newEntry head a .none (rawInt L) .none pl;setField (.ref e) 1 b) (fun _ s'=>wpAny M A (setFlight (.ref e) none) Q E s') E s:=by
 have QK:e ∉ (env :: outer).filterMap (·.frame):=fun hm=>by
  obtain⟨_,o,ho,Ic⟩:=hl.mem hm
  rw[he]at ho;injection ho with ho;subst ho;exact Ic vs hd
 refine wpAny_bind (wpAny_frameOf_fun DV hl hf fun h₁ CZ=>?_)
 refine wpAny_bind (wpAny_entryPlaceOf fun pl Br=>?_)
 unfold EntryCells.newEntry newFields
 refine wpAny_bind (wpAny_newObj_type ?_ (Br.sizeOk5 _ _ _ _ _))
 have Gz:h₁.get? e=some oe:=(CZ.2.1 e QK).trans he
 have G0:=Heap.get?_push_of_some (h:=h₁) { cls := .type "traceback",dict:=none,data := .fields ([head, .ref L, .none,rawInt L, .none] ++ (if pl.isEmpty then List.replicate 6 Value.none else pl)).toArray } Gz
 refine wpAny_setField G0 hd hsz ?_
 have Jy:h₁.objs.size ≠ e:=ne_of_gt (lt_size Gz)
 have Ez:=Obj.data_mapFields hd (·.setIfInBounds 1 (Value.ref h₁.objs.size))
 have E2:=Heap.get?_update_self (Obj.mapFields (·.setIfInBounds 1 (Value.ref h₁.objs.size))) G0 (Obj.isFreed_of_fields Ez)
 have G5:=(Heap.get?_update_other (h₁.push { cls := .type "traceback",dict:=none,data := .fields ([head, .ref L, .none,rawInt L, .none] ++ (if pl.isEmpty then List.replicate 6 Value.none else pl)).toArray })
  (Obj.mapFields (·.setIfInBounds 1 (Value.ref h₁.objs.size))) (Ne.symm Jy)).trans (Heap.get?_push_size h₁ rfl)
 unfold setFlight
 refine wpAny_bind (wpAny_field E2 Ez (x := .ref h₁.objs.size) (by simp[hsz]) ?_)
 rw[if_pos (show(Value.ref h₁.objs.size != Value.none)=true from by simp)]
 refine wpAny_setField G5 rfl (by simp only[size_toArray,length_append,length_cons,length_nil]<;>omega) (h _ ?_ ?_)
 ·refine⟨_,_,?_,Obj.cls_mapFields _ _,jC hd _,Ez, .inr ⟨h₁.objs.size,_,_,by simp[hsz],Jy,Heap.get?_update_self _ G5 (Obj.isFreed_of_fields (Obj.data_mapFields rfl _)),Obj.data_mapFields rfl _,by first | (simp;done) | (rcases Br with rfl | ⟨_,_,_,_,_,_,_,rfl⟩<;>simp),by rw[CZ.1]⟩⟩
  rw[Heap.get?_update_other _ _ Jy];exact E2
 ·have keep:∀ b o,b ≠ e->h₁.get? b=some o ->
    (((h₁.push { cls := .type "traceback",dict:=none,data := .fields ([head, .ref L, .none,rawInt L, .none] ++ (if pl.isEmpty then List.replicate 6 Value.none else pl)).toArray }).update e (Obj.mapFields (·.setIfInBounds 1 (Value.ref h₁.objs.size)))).update h₁.objs.size
     (Obj.mapFields (·.setIfInBounds 3 ((none:Option Addr).elim Value.none fun f=>rawInt f)))).get? b=some o:=fun b o Cj hb=>by
   have OE:h₁.objs.size ≠ b:=ne_of_gt (lt_size hb)
   rw[Heap.get?_update_other _ _ OE,Heap.get?_update_other _ _ (Ne.symm Cj)]
   exact Heap.get?_push_of_some _ hb
  refine⟨fun b o hb hc QL=>keep b o (by simpa using hc) ((CZ.2.1 b QL).trans hb),fun b o hb hc=>?_,fun b o hb=>?_⟩
  ·obtain⟨sl,hs⟩:=CZ.2.2 b o hb
   exact⟨sl,keep b _ (by simpa using hc) hs⟩
  ·by_cases Cj:b=e
   ·subst Cj
    exact⟨_,by rw[Heap.get?_update_other _ _ Jy];exact E2⟩
   ·obtain⟨sl,hs⟩:=CZ.2.2 b o hb
    exact⟨_,keep b _ Cj hs⟩
theorem qU {base:Heap}{env:Env}{outer:List Env}{L e:Addr}{cls:Value}{dd:Option Addr}{ch:List Addr}{Q:Unit->Shared->Prop}
  (DV:A.frames=some (env :: outer)) (hl:s.heap.FunFrames base (env :: outer)) (hf:env.frame=some L) (x:Fx s.heap e cls dd ch)
  (h:∀ h' Ie,Fx h' e cls dd Ie->qv (j8 (env :: outer)) ch s.heap h'->(∀ b ∈ Ie,b ∈ ch∨s.heap.objs.size <= b)->Q () { s with heap:=h' }) :
  wpAny M A (noteFrame (.ref e) env) (fun _ s'=>wpAny M A (setFlight (.ref e) none) Q E s') E s:=by
 obtain⟨oe,vs,he,rfl,rfl,hd,⟨h1,rfl⟩ | ⟨T,oT,ts,h1,Jy,hT,Jx,h3,rfl⟩⟩:=x
 ·unfold noteFrame
  simp only[hf]
  refine wpAny_bind (wpAny_field he hd h1 ?_)
  rw[if_neg (by decide)]
  refine kj DV hl hf he hd (Array.getElem?_eq_some_iff.mp h1).1 fun h' f m=>h h' _ f m fun b hb=>?_
  simp only[mem_cons,not_mem_nil,or_false]at hb
  rcases hb with rfl | rfl
  ·exact .inl (by simp)
  ·exact .inr (Nat.le_refl _)
 ·unfold noteFrame
  simp only[hf]
  refine wpAny_bind (wpAny_field he hd h1 ?_)
  rw[if_pos (show(Value.ref T != Value.none)=true from by simp)]
  refine wpAny_bind (wpAny_field hT Jx h3 ?_)
  rw[if_neg (show ¬ ((Value.none == rawInt L)=true) from by simp[rawInt])]
  refine wpAny_bind (wpAny_setField hT Jx (Array.getElem?_eq_some_iff.mp h3).1 ?_)
  have other:∀ b,b ≠ T->(s.heap.update T (Obj.mapFields (·.setIfInBounds 3 Value.none))).get? b=s.heap.get? b:=fun b hb=>Heap.get?_update_other _ _ (Ne.symm hb)
  have KI:=Heap.get?_update_self (Obj.mapFields (·.setIfInBounds 3 Value.none)) hT (Obj.isFreed_of_fields (Obj.data_mapFields Jx _))
  have noRecord:∀ b o,s.heap.get? b=some o->(∀ vs,o.data ≠ .fields vs)->b ≠ T:=fun b o hb Ic q=>by
   rw[q,hT]at hb;injection hb with hb;subst hb;exact Ic ts Jx
  have KJ:(s.heap.update T (Obj.mapFields (·.setIfInBounds 3 Value.none))).objs.size=s.heap.objs.size:=Heap.size_after_update _ _ _
  refine kj (s:={ s with heap:=s.heap.update T (Obj.mapFields (·.setIfInBounds 3 Value.none)) }) DV (hl.of_keeps fun b o hb Ic=>⟨o,(other b (noRecord b o hb Ic)).trans hb,rfl⟩) hf ((other e (Ne.symm Jy)).trans he) hd (Array.getElem?_eq_some_iff.mp h1).1
   fun h' f m=>h h' _ f ⟨fun b o hb hc QL=>?_,fun b o hb hc=>?_,fun b o hb=>?_⟩ fun b hb=>?_
  ·simp only[mem_cons,not_mem_nil,or_false,not_or]at hc
   exact m.keep b o ((other b hc.2).trans hb) (by simpa using hc.1) QL
  ·simp only[mem_cons,not_mem_nil,or_false,not_or]at hc
   exact m.slot b o ((other b hc.2).trans hb) (by simpa using hc.1)
  ·by_cases OE:b=T
   ·subst OE
    exact m.there b _ KI
   ·exact m.there b o ((other b OE).trans hb)
  ·simp only[mem_cons,not_mem_nil,or_false]at hb
   rcases hb with rfl | rfl
   ·exact .inl (by simp)
   ·exact .inr (le_of_eq KJ.symm)
theorem oS {base:Heap}{env:Env}{outer:List Env}{L e:Addr}{cls:Value}{dd:Option Addr}{ch:List Addr}{Q:Unit->Shared->Prop}
  (DV:A.frames=some (env :: outer)) (hl:s.heap.FunFrames base (env :: outer)) (hf:env.frame=some L) (x:Fx s.heap e cls dd ch)
  (h:∀ h' Ie,Fx h' e cls dd Ie->qv (j8 (env :: outer)) ch s.heap h'->(∀ b ∈ Ie,b ∈ ch∨s.heap.objs.size <= b)->Q () { s with heap:=h' }) :
  wpAny M A (leaving env (.ref e)) Q E s:=by
 unfold leaving
 exact wpAny_bind (qU DV hl hf x h)
end
section
variable {X:Cx}{pins:List (Addr × Obj)}{σ:St}{H:Hp}{s:Shared}
theorem Inv.Fy {h':Heap}{ch:List Addr}(I:Inv X pins σ H s)(m:qv (j8 X.stack) ch s.heap h')
  (Cf:∀ b ∈ ch,X.s₀.heap.get? b=none/\H b=none/\(∀ p ∈ X.pn ++ pins,p.1 ≠ b)/\∃ o vs,s.heap.get? b=some o/\o.data = .fields vs) :
  Inv X pins σ H { s with heap:=h' }:=by
 have KL:∀ b o,s.heap.get? b=some o->(∀ vs,o.data ≠ .fields vs)->b ∉ ch:=fun b o hb hn hc=>by
  obtain⟨_,_,_,o',vs,BS,hd⟩:=Cf b hc
  rw[hb]at BS;cases BS
  exact hn vs hd
 have cellK:∀ c v,s.heap.IsCell c v->h'.IsCell c v:=fun c v ⟨o,ho,hd⟩=>by
  obtain⟨sl,e⟩:=m.slot c o ho (KL c o ho fun vs q=>by rw[hd]at q;cases q)
  exact⟨_,e,hd⟩
 refine⟨I.ok,I.os,I.bare,⟨fun b o e n hf hx=>?_,fun b o e n hf hx=>?_,I.base.free,fun b o e hx=>?_,I.base.BX,I.base.BH,I.base.BI⟩,?_,fun x c hc=>?_,I.free,I.Az,fun p hp=>?_,fun b u e=>?_,I.len⟩
 ·have e1:=I.base.keep b o e n hf hx
  refine m.keep b o e1 (fun hc=>?_) fun hs=>?_
  ·rw[(Cf b hc).1]at e;cases e
  ·rcases mem_cons.mp (I.Bb b hs) with z | z
   ·rw[z]at e
    exact absurd (lt_size e) (Nat.not_lt.mpr I.ok.above)
   ·exact hf z
 ·obtain⟨sl,e1⟩:=I.base.slot b o e n hf hx
  obtain⟨Jt,e2⟩:=m.slot b _ e1 fun hc=>by rw[(Cf b hc).1]at e;cases e
  exact⟨Jt,e2⟩
 ·obtain⟨o',e1⟩:=I.base.there b o e hx
  exact m.there b o' e1
 ·obtain⟨mm,⟨o,es,ep,ho,hd,r⟩,hl⟩:=I.loc
  obtain⟨sl,e⟩:=m.slot _ o ho (KL _ o ho fun vs q=>by rw[hd]at q;cases q)
  refine⟨mm,⟨_,es,ep,e,hd,r⟩,fun i x v h1 h2 h3=>?_⟩
  obtain⟨u,ru,lk⟩:=hl i x v h1 h2 h3
  refine⟨u,ru,?_⟩
  rcases lk with ⟨a,b⟩ | ⟨a,c,hc,BC⟩
  ·exact .inl ⟨a,b⟩
  ·exact .inr ⟨a,c,hc,cellK c _ BC⟩
 ·obtain⟨v,hv⟩:=I.cell x c hc
  exact⟨v,cellK c v hv⟩
 ·obtain⟨a,b,c,d,e⟩:=I.pin p hp
  refine⟨m.keep _ _ a (fun hc=>(Cf _ hc).2.2.1 p hp rfl) fun hs=>?_,b,c,d,e⟩
  rcases mem_cons.mp (I.Bb _ hs) with z | z
  ·exact c z
  ·exact d z
 ·refine(I.zV b u e).B5 (fun c v hc q=>m.keep c v q (fun z=>?_) fun z=>?_) (fun _ q=>q) fun _ _ q=>q
  ·have n:=(Cf c z).2.1
   rcases hc with rfl | hc
   ·rw[e]at n;cases n
   ·rw[hc]at n;cases n
  ·have n:=I.BP c z
   rcases hc with rfl | hc
   ·rw[e]at n;cases n
   ·rw[hc]at n;cases n
noncomputable def dS (P:Program)(w:World):lJ:=fun outer H s E ev s'=>∃ e cls dd ch H',ev = .ref e/\s'.os=s.os/\AllBare s'.gens/\Un (j8 outer) [] H H' s.heap s'.heap/\AY P w H' s'.heap /\
 Fx s'.heap e cls dd ch/\(∀ b ∈ ch,s.heap.get? b=none/\H' b=none)/\E cls dd H'
noncomputable def XP (X:Cx)(pins:List (Addr × Obj))(σ:St)(E:XK)(ev:Value)(s':Shared):Prop:=∃ e cls dd ch H',ev = .ref e/\Inv X pins σ H' s'/\Fx s'.heap e cls dd ch /\
 (∀ b ∈ ch,X.s₀.heap.get? b=none/\H' b=none/\∀ p ∈ X.pn ++ pins,p.1 ≠ b)/\E cls dd H'
theorem Inv.E3 (I:Inv X pins σ H s)(hex:X.ex=[]){b:Addr}(hb:s.heap.get? b=none):X.s₀.heap.get? b=none:=by
 cases q:X.s₀.heap.get? b with
 | none=>rfl
 | some o =>
  obtain⟨o',e⟩:=I.base.there b o q (by rw[hex];simp)
  rw[e]at hb;cases hb
theorem XP.KN {E:XK}{ev:Value}{s':Shared}(I:Inv X pins σ H s)(hex:X.ex=[])(x:dS X.prog X.w X.stack H s E ev s'):XP X pins σ E ev s':=by
 obtain⟨e,cls,dd,ch,H',rfl,os,bare,un,zV,OF,new,q⟩:=x
 refine⟨e,cls,dd,ch,H',rfl,I.FZ (ch:=[]) os un zV bare (fun b z=>absurd z (by simp)),OF,fun b hb=>⟨I.E3 hex (new b hb).1,(new b hb).2,fun p hp z=>?_⟩,q⟩
 have:=(I.pin p hp).1
 rw[z,(new b hb).1]at this
 cases this
noncomputable def BD (X:Cx)(E:XK):Prop:=∀ (pins:List (Addr × Obj))(σ:St)(ev:Value)(s':Shared),XP X pins σ E ev s'->X.xe ev s'
theorem BD.passes {E:XK}(h:BD X E)(hex:X.ex=[]):cx (dS X.prog X.w) X E:=fun pins σ H s ev s' I x=>h pins σ ev s' (XP.KN I hex x)
theorem aN {P:Program}{w:World}{K:Frag}{mg:Str->Option Value}{base:Heap}{N:List Str}{qual:Str}{scope:Scope}{f:Addr}{cd:Value}{A:Around}{outer:List Env}{s:Shared}{H:Hp}{E:XK} :
  BD (i5 (dS P w) P w K mg base N qual scope f cd A outer s H E) E:=by
 intro pins σ ev s' x
 obtain⟨e,cls,dd,ch,H',rfl,I,OF,Cf,q⟩:=x
 refine oS (base:=base) (outer:=outer) I.ok.frames I.stack rfl OF fun h' Ie QM m new=>?_
 have I':=I.Fy m fun b hb=>⟨(Cf b hb).1,(Cf b hb).2.1,(Cf b hb).2.2,OF.rec b hb⟩
 refine⟨e,cls,dd,Ie,H',rfl,I'.os,I'.bare,I'.base,I'.zV,QM,fun b hb=>?_,q⟩
 rcases new b hb with z | z
 ·exact⟨(Cf b z).1,(Cf b z).2.1⟩
 ·exact⟨Heap.get?_none_of_le (le_trans I.sz z),I.zV.fresh z⟩
theorem pL {P:Program}{w:World}{K:Frag}{mg:Str->Option Value}{base:Heap}{N:List Str}{qual:Str}{scope:Scope}{f:Addr}{cd:Value}{A:Around}{outer:List Env}{s:Shared}{H:Hp}{E:XK} :
  PassesOwn (model P w) (i5 (dS P w) P w K mg base N qual scope f cd A outer s H E).A (i5 (dS P w) P w K mg base N qual scope f cd A outer s H E).env (i5 (dS P w) P w K mg base N qual scope f cd A outer s H E).xe :=
 PassesOwn.leaving (Q₁:=fun e Et=>dS P w outer H s E e Et)
end
noncomputable def dI:List Value:=[.type "ValueError", .type "Exception", .type "BaseException", .type "object"]
noncomputable def lC:List Value->Bool
 | []=>false
 | .ref _ :: r=>lC r
 | l=>l == dI
theorem jr (self:Value):∀ {l:List Value},lC l=true->refuseLoop self "__setattr__" l=pure ()
 | .ref c :: r,e=>by rw[refuseLoop_ref];exact jr self e
 | .type a :: r,e=>by
  have e':(Value.type a :: r)=dI:=beq_iff_eq.mp e
  rw[e'];exact PySem.F.store_ValueError.passes self
 | .none :: r,e=>by have:=beq_iff_eq.mp (show(_ == dI)=true from e);cases this
 | .bool _ :: r,e=>by have:=beq_iff_eq.mp (show(_ == dI)=true from e);cases this
 | .int _ _ :: r,e=>by have:=beq_iff_eq.mp (show(_ == dI)=true from e);cases this
 | .float _ _ :: r,e=>by have:=beq_iff_eq.mp (show(_ == dI)=true from e);cases this
 | .str _ _ :: r,e=>by have:=beq_iff_eq.mp (show(_ == dI)=true from e);cases this
 | .bytes _ _ :: r,e=>by have:=beq_iff_eq.mp (show(_ == dI)=true from e);cases this
 | .builtin _ :: r,e=>by have:=beq_iff_eq.mp (show(_ == dI)=true from e);cases this
theorem jA:∀ {l:List Value},lC l=true->l.contains (.type "object")=true/\l.contains (.type "BaseException")=true/\l.isEmpty=false
 | .ref c :: r,e=>by
  obtain⟨a,b,_⟩:=jA (l:=r) e
  exact⟨by rw[contains_cons,a,Bool.or_true],by rw[contains_cons,b,Bool.or_true],rfl⟩
 | .type a :: r,e=>by
  have e':(Value.type a :: r)=dI:=beq_iff_eq.mp e
  rw[e'];exact⟨by decide,by decide,rfl⟩
 | .none :: r,e=>by have:=beq_iff_eq.mp (show(_ == dI)=true from e);cases this
 | .bool _ :: r,e=>by have:=beq_iff_eq.mp (show(_ == dI)=true from e);cases this
 | .int _ _ :: r,e=>by have:=beq_iff_eq.mp (show(_ == dI)=true from e);cases this
 | .float _ _ :: r,e=>by have:=beq_iff_eq.mp (show(_ == dI)=true from e);cases this
 | .str _ _ :: r,e=>by have:=beq_iff_eq.mp (show(_ == dI)=true from e);cases this
 | .bytes _ _ :: r,e=>by have:=beq_iff_eq.mp (show(_ == dI)=true from e);cases this
 | .builtin _ :: r,e=>by have:=beq_iff_eq.mp (show(_ == dI)=true from e);cases this
noncomputable def i4 (K:Frag)(C:Addr):Bool:=(PySem.W.clsIn K C).any fun cd=>lC cd.mro
structure gi (K:Frag)(C:Addr):Prop where
 mro:i4 K C=true
 hd:hasDictIn K C=true
 sa:findIn K (.ref C) "__setattr__" = some (some (.builtin "object.__setattr__"))
 ga:findIn K (.ref C) "__getattribute__" = some (some (.builtin "BaseException.__getattribute__"))
 gn:findIn K (.ref C) "__getattr__" = some none
section
variable {prog:Program}{w:World}{A:Around}{E:Value->Shared->Prop}{s:Shared}{K:Frag}{x C:Addr}{ox:Obj}{name:Str}{v:Value}
open PySem.W in
theorem pN {R:Result->Shared->Prop}{od:Option Obj}{tk:Tok}(X:K.In s.heap)(I:PySem.W.InstAt s.heap x ox C od)(hp:i4 K C=true)(ht:findIn K (.ref C) name=some none)
  (h:∀ b,wpAny (model prog w) A.in1 (Builtin.ObjectAttr.storeInOwnDict (.ref x) (.ref C) (.str name tk) name v b)
   (fun fin s'=>match fin with | .done f=>R (.ok f) s' | .again c'=>c'.quiet=true/\codeAny (model prog w) A c' R s') (fun e s'=>R (.error e) s') s) :
  codeAny (model prog w) A (.call (.builtin "object.__setattr__") ⟨[.ref x, .str name tk,v],[]⟩) R s:=by
 have SF:=PySem.F.store_object
 obtain⟨cd,hc,ho⟩:=any_some hp
 obtain⟨h1,h2,ne⟩:=jA ho
 have sub:Looks (model prog w) s.heap (isInstance (.ref x) (.type "object")) true:=I.type.andThen (looks_mroIn X (by unfold mroIn;rw[hc,Option.bind_some,if_neg (by rw[ne];decide),h1]))
 refine codeAny_call_builtin SF.slot.plain SF.entry (@check_slot (model prog w) _ _ s "object.__setattr__" "object" "__setattr__" (.ref x) [.str name tk,v] [] _ SF.kind SF.split sub (SF.args (.ref x) (.str name tk) v) ?_)
 have hm:Looks (model prog w) s.heap (mroOf (.ref C)) cd.mro:=(looks_clsIn X hc).andThen .now
 have L3:Looks (model prog w) s.heap (Builtin.ObjectAttr.storeTaker? none) none := .now
 rw[osa_eq,refuse_eq]
 refine wpAny_bind (wpAny_bind (I.type.here (wpAny_bind (hm.here ?_))))
 rw[jr _ ho]
 refine wpAny_pure (wpAny_bind (I.type.here (wpAny_bind ((looks_findIn X ht).here (wpAny_bind (L3.here ?_))))))
 exact h _
theorem lQ {vs:Array Value}{Q:Unit->Shared->Prop}(X:K.In s.heap)(hx:s.heap.get? x=some ⟨.ref C,none, .fields vs,#[]⟩)(c:gi K C)(ht:findIn K (.ref C) name=some none)
  (h:∀ h' t',h'.get? x=some ⟨.ref C,some s.heap.objs.size, .fields vs,#[]⟩->h'.Ns1 s.heap.objs.size (fun y=>if y=name then some v else none) ->
   (∀ b o,b ≠ x->s.heap.get? b=some o->h'.get? b=some o)->Q () { s with heap:=h',toks:=t' }) :
  wpAny (model prog w) A (setAttr (.ref x) name v) Q E s:=by
 have I:PySem.W.InstAt s.heap x ⟨.ref C,none, .fields vs,#[]⟩ C none:=⟨hx,rfl,rfl,True.intro⟩
 refine PySem.W.set_plain X I c.sa (pN (s:={ s with toks:=s.toks + 1 }) X I c.mro ht fun b=>?_)
 obtain⟨cd,hc,HQ⟩:=PySem.W.any_some c.hd
 obtain⟨hp,g,d,t,os⟩:=s
 dsimp only at X hx h I ⊢
 refine wpAny_bind (wpAny_pure (wpAny_bind (wpAny_bind (wpAny_loadPart hx (wpAny_bind (PySem.W.Looks.here (s:=⟨hp,g,d,t + 1,os⟩) (PySem.W.looks_clsIn X hc) ?_))))))
 rw[HQ]
 have G6:(hp.push { cls := .type "dict",data := .dict #[] }).get? x=some ⟨.ref C,none, .fields vs,#[]⟩:=Heap.get?_push_of_some _ hx
 have VI:x ≠ hp.objs.size:=ne_of_lt (lt_size hx)
 rw[if_neg (by decide)]
 dsimp only
 rw[if_neg (by simp[typeHasDict])]
 refine wpAny_bind (wpAny_alloc' ?_)
 refine wpAny_bind (wpAny_update' G6 ?_)
 refine wpAny_pure ?_
 have hgd:((hp.push { cls := .type "dict",data := .dict #[] }).update x fun o=>{ cls:=o.cls,dict:=some hp.objs.size,data:=o.data,slots:=o.slots }).get? hp.objs.size
   = some { cls := .type "dict",data := .dict #[] } :=
  (Heap.get?_update_ne _ _ _ _ VI.symm).trans (Heap.get?_push_at rfl rfl)
 have hnd:((hp.push { cls := .type "dict",data := .dict #[] }).update x fun o=>{ cls:=o.cls,dict:=some hp.objs.size,data:=o.data,slots:=o.slots }).Ns hp.objs.size (fun _=>none) :=
  ⟨_,#[],_,hgd,rfl,fun e he=>absurd he (by simp),fun _=>rfl⟩
 show wpAny _ _ (Builtin.ObjectAttr.storeInDict hp.objs.size (.str name t) name v) _ _ _
 unfold Builtin.ObjectAttr.storeInDict Builtin.ObjectAttr.newKeyGuard
 refine wpAny_bind (wpAny_pure (wpAny_bind (wpAny_nsSet1 (Heap.Ns1.of_empty hnd) fun h' CI hs=>?_)))
 obtain⟨oD,V6,V7,Ku,Js,Kv⟩:=CI.count (Within.cons name v Within.nil)
 refine wpAny_bind (wpAny_lookBehind Ku (by rw[Js];exact pastItsLine_dict (le_trans Kv (by rw[length_cons,length_nil,sizeLine_eq];omega))) ?_)
 refine wpAny_pure (h h' _ ?_ CI fun b o hbx hb=>?_)
 ·exact(hs.2 x VI).trans (Heap.get?_update_self _ G6 rfl)
 ·exact(hs.2 b (ne_of_lt (lt_size hb))).trans ((Heap.get?_update_ne _ _ _ _ hbx).trans (Heap.get?_push_of_some _ hb))
open PySem.W in
end
end L2
namespace PySem
section
variable {prog:Program}{w:World}{A:Around}{E:Value->Shared->Prop}{h:Heap}{g:Array GenState}{d:Drawn}{t:Nat}{os:OsState}
variable {nm q:Str}{C N:Addr}{bs bm OG:List Value}{Bv:Bool}{sn:List Str}{sub:List Value}{ab:Bool}{col:Option Bool}{dd:Option Addr}{k0 k1 k2 k3 k5:Option Value}{B newId E4:String}
theorem gj (F:ExcBaseFacts B newId E4 OG)(T:OwnTail h OG bm){mN:Str->Option Value}{rest:List Value}{fI:Addr}{oI:Obj}{Q:Fin->Shared->Prop}
  (hC:h.get? C=some (excClassObj nm q C N bs bm Bv sn sub ab col dd k0 k1 k2 k3 k5 newId)) (hn:h.Ns N mN) (hi:mN "__init__" = some (.ref fI))
  (QN:h.get? fI=some oI) (QO:oI.cls = .type "function")
  (hq:wpAny (model prog w) A (call (.ref fI) (.ref (h.objs.size + 1) :: rest)) (fun r s'=>r = .none/\Q (.done (.ret (.ref (h.objs.size + 1)))) s') E
   ⟨(h.push { cls := .type "tuple",data := .seq rest.toArray }).push { cls := .ref C,data := .fields #[.ref h.objs.size, .none, .none, .none, .bool false, .none] },g,d,t,os⟩) (hrest:rest.length <= sizeLine:=by size_fits) :
  wpAny (model prog w) A (Builtin.«type.__call__» ⟨.ref C :: rest,[]⟩) Q E ⟨h,g,d,t,os⟩:=by
 repeat (first | with_reducible refine wpAny_loadPart_at hC ?_ | with_reducible refine wpAny_madeBy_exc hC ?_ | wp_step)
 refine codeAny_call_builtin_code (Code.quiet_builtin _ F.quiet) (wpAny_check_new_subT F T hC ?_)
 refine codeAny_exc_new_subT F T hC ?_ hrest
 show wpAny _ _ _ _ _ _
 have G7:=Heap.get?_push_of_some { cls := .ref C,data := .fields #[.ref h.objs.size, .none, .none, .none, .bool false, .none] }
  (Heap.get?_push_of_some { cls := .type "tuple",data := .seq rest.toArray } hC)
 have Ig:=Heap.get?_push_of_some { cls := .ref C,data := .fields #[.ref h.objs.size, .none, .none, .none, .bool false, .none] }
  (Heap.get?_push_of_some { cls := .type "tuple",data := .seq rest.toArray } QN)
 have KO:((h.push { cls := .type "tuple",data := .seq rest.toArray }).push { cls := .ref C,data := .fields #[.ref h.objs.size, .none, .none, .none, .bool false, .none] }).Ns N mN :=
  let ⟨o,es,ep,e,r⟩:=hn; ⟨o,es,ep,Heap.get?_push_of_some _ (Heap.get?_push_of_some _ e),r⟩
 have Ih:((h.push { cls := .type "tuple",data := .seq rest.toArray }).push
   { cls := .ref C,data := .fields #[.ref h.objs.size, .none, .none, .none, .bool false, .none] }).get? (h.objs.size + 1)=some
   { cls := .ref C,data := .fields #[.ref h.objs.size, .none, .none, .none, .bool false, .none] }:=by heap_get
 have VJ:(Value.ref C :: bm).contains (.ref C)=true:=by simp
 have T₁:=T.keeps (h':=(h.push { cls := .type "tuple",data := .seq rest.toArray }).push { cls := .ref C,data := .fields #[.ref h.objs.size, .none, .none, .none, .bool false, .none] })
  fun b o e=>Heap.get?_push_of_some _ (Heap.get?_push_of_some _ e)
 unfold isInstance
 repeat (first | with_reducible refine wpAny_loadPart_at Ih ?_ | (with_reducible refine wpAny_isSubtype_exc G7 ?_;rw[VJ]) | wp_step)
 show wpAny _ _ (typeLookup (.ref C) _) _ _ _
 refine wpAny_typeLookup_tail G7 KO T₁ F.mroIs F.init.lookup ?_
 rw[hi]
 refine wpAny_holding (wpAny_bind ?_)
 unfold bindSpecial
 refine wpAny_bind (wpAny_typeOf (T := "function") ⟨_,Ig,QO⟩ ?_)
 rw[if_pos (by decide)]
 refine wpAny_pure (wpAny_bind (wpAny_mono hq (fun r s' hr=>?_) fun _ _ x=>x))
 obtain⟨rfl,hQ⟩:=hr
 wp_walk
 exact hQ
theorem kM (F:ExcBaseFacts B newId E4 OG)(T:OwnTail h OG bm){mN:Str->Option Value}{rest:List Value}{fI:Addr}{oI:Obj}{Q:Value->Shared->Prop}
  (hC:h.get? C=some (excClassObj nm q C N bs bm Bv sn sub ab col dd k0 k1 k2 k3 k5 newId)) (hn:h.Ns N mN) (hi:mN "__init__" = some (.ref fI))
  (QN:h.get? fI=some oI) (QO:oI.cls = .type "function")
  (hq:wpAny (model prog w) (A.under (.builtin "type.__call__" ⟨.ref C :: rest,[]⟩)) (call (.ref fI) (.ref (h.objs.size + 1) :: rest)) (fun r s'=>r = .none/\Q (.ref (h.objs.size + 1)) s') E
   ⟨(h.push { cls := .type "tuple",data := .seq rest.toArray }).push { cls := .ref C,data := .fields #[.ref h.objs.size, .none, .none, .none, .bool false, .none] },g,d,t,os⟩) (hrest:rest.length <= sizeLine:=by size_fits) :
  wpAny (model prog w) A (call (.ref C) rest) Q E ⟨h,g,d,t,os⟩:=by
 have f1:=tc_lookup
 have f2:=tc_bind (.ref C)
 have hT:(⟨h,g,d,t,os⟩:Shared).TypeIs (.ref C) "type":=⟨_,hC,rfl⟩
 refine wpAny_call (codeAny_of_tree ?_)
 show wpAny _ _ (callAny (.ref C) _) _ _ _
 repeat (any_goals (first | assumption | with_reducible refine wpAny_loadPart_at hC ?_ | wp_step))
 refine⟨rfl,?_⟩
 refine codeAny_call_builtin_at (Code.quiet_builtin _ (by decide +kernel)) entry_typeCall (wpAny_check_type_call_sub hC (gj (hrest:=hrest) F T hC hn hi QN QO ?_))
 exact hq
end
section
variable {M:Model}{A:Around}{E:Value->Shared->Prop}{env:Env}
variable {nm q:Str}{C N:Addr}{bs bm:List Value}{Bv:Bool}{sn:List Str}{sub:List Value}{ab:Bool}{col:Option Bool}{dd:Option Addr}{k0 k1 k2 k3 k5:Option Value}{newId:String}
theorem gk {s:Shared}{x:Sem Value}{Q:Flow->Shared->Prop}(hh:A.handled=none)
  (h:wpAny M A x (fun v s₁=>∃ e t de nm q N bs bm Bv sn sub ab col dd k0 k1 k2 k3 k5 newId,v = .ref e/\bm.contains (.type "BaseException")=true/\s₁.heap.get? C=some (excClassObj nm q C N bs bm Bv sn sub ab col dd k0 k1 k2 k3 k5 newId) /\
   s₁.heap.get? e=some { cls := .ref C,dict:=de,data := .fields #[.ref t, .none, .none, .none, .bool false, .none] }/\E (.ref e) s₁) E s) :
  wpAny M A (raiseStmt env (some x) none) Q E s:=by
 unfold raiseStmt
 refine wpAny_bind (wpAny_mono h (fun v s₁ h₁=>?_) fun _ _ x=>x)
 obtain⟨e,t,de,nm,q,N,bs,bm,Bv,sn,sub,ab,col,dd,k0,k1,k2,k3,k5,newId,rfl,CU,hC,he,hE⟩:=h₁
 have hcB:(Value.ref C :: bm).contains (.type "BaseException")=true:=by rw[contains_cons,CU,Bool.or_true]
 obtain⟨hp,g,d,tk,os⟩:=s₁
 repeat (first | with_reducible refine wpAny_loadPart_at he ?_ | with_reducible refine wpAny_loadPart_at hC ?_ | (with_reducible refine wpAny_isSubtype_exc hC ?_;rw[hcB]) | wp_step)
 exact wpAny_raiseNew_none hh hE
end
end PySem
namespace L2
open PySem PySem.Spec PyProof.Rows
noncomputable def bq (K:Frag)(C:Addr)(init:Option Value):Bool:=match K.lookup C with
 | some ⟨.type "type",_, .cls cd,sl⟩=>(match cd.mro,sl.toList with
  | .ref C' :: bm,[_,_,_,_,some (.builtin n),_]=>C' == C && n == "ValueError.__new__" && !cd.hasDel && PySem.W.tailIn K dI bm && PySem.W.nsOkIn K cd.ns && nsIn K cd.ns "__init__" == some init
  | _,_=>false)
 | _=>false
theorem ip {K:Frag}{h:Heap}{N:Addr}{x:Str}{v:Value}(X:K.In h)(e:PySem.W.nsOkIn K N=true)(q:nsIn K N x=some (some v)):h.nsMap N x=some v:=by
 have G:h.Ns N (h.nsMap N) := .of_isNs (PySem.W.isNs_of_in X e)
 generalize h.nsMap N=m at G ⊢
 obtain⟨o,es,ep,ho,hd,_,hf⟩:=G
 unfold nsIn at q
 split at q
 ·rename_i c d Oz n' sl z
  have:=X _ _ z
  rw[ho]at this
  cases this
  cases hd
  split at q
  ·rename_i en he
   cases q
   rw[← hf]
   unfold nsFind findBy
   rw[← Array.find?_toList,he]
   rfl
  ·split at q<;>cases q
 ·cases q
theorem lD {K:Frag}{h:Heap}{C:Addr}{init:Option Value}(X:K.In h)(q:bq K C init=true):∃ bm N nm qn bs Bv sn sub ab col dd k0 k1 k2 k3 k5 mN,
  h.get? C=some (excClassObj nm qn C N bs bm Bv sn sub ab col dd k0 k1 k2 k3 k5 "ValueError.__new__")/\h.Ns N mN/\mN "__init__" = init/\OwnTail h dI bm:=by
 unfold bq at q
 split at q
 ·rename_i dd cd sl ho
  split at q
  ·rename_i C' bm k0 k1 k2 k3 n k5 hm hs
   simp only[Bool.and_eq_true,beq_iff_eq,Bool.not_eq_true']at q
   obtain⟨⟨⟨⟨⟨rfl,rfl⟩,KP⟩,ht⟩,zV⟩,G8⟩:=q
   obtain⟨nm,bs,mro,ns,qn,hd,sn,sub,ab,col,uR⟩:=cd
   dsimp only at hm KP zV G8
   subst hm KP
   have OH:sl = #[k0,k1,k2,k3,some (.builtin "ValueError.__new__"),k5]:=by
    obtain⟨l⟩:=sl
    simp only at hs
    rw[hs]
   subst OH
   refine⟨bm,ns,nm,qn,bs,hd,sn,sub,ab,col,dd,k0,k1,k2,k3,k5,_,X _ _ ho, .of_isNs (PySem.W.isNs_of_in X zV),?_,PySem.W.tail_of_in X ht⟩
   cases init with
   | none=>exact PySem.W.nsMap_none_of_in X zV G8
   | some v=>exact ip X zV G8
  ·cases q
 ·cases q
theorem qw {h:Heap}{bm:List Value}(T:OwnTail h dI bm):bm.contains (.type "BaseException")=true:=T.hasType (by decide)
noncomputable def cS (C t:Addr)(dd:Option Addr):Obj:={ cls := .ref C,dict:=dd,data := .fields #[.ref t, .none, .none, .none, .bool false, .none] }
abbrev TX:=St->Hp->(Option Addr->Hp->Prop)->Prop
noncomputable def PX (X:Cx)(e:Expr)(C:Addr)(t:TX):Prop :=
 ∀ (pins:List (Addr × Obj))(s:Shared)(σ:St)(H:Hp)(R:Option Addr->Hp->Prop),Inv X pins σ H s->t σ H R->wpAny (model X.prog X.w) X.A (eval e X.env)
  (fun u s'=>∃ ea dd tt H',u = .ref ea/\Inv X pins σ H' s'/\s'.heap.get? ea=some (cS C tt dd)/\X.s₀.heap.get? ea=none/\H' ea=none/\(∀ p ∈ X.pn ++ pins,p.1 ≠ ea)/\R dd H') X.xe s
theorem AY.at {P:Program}{w:World}{H:Hp}{h:Heap}{a:Addr}{o:HO}(x:AY P w H h)(e:H a=some o):∃ ob,h.get? a=some ob:=by
 have q:=x a o e
 have all:∀ o,Ag P w H h a o->∃ ob,h.get? a=some ob:=by
  intro o
  induction o with
  | lst xs=>intro ⟨_,zT,n,_,e⟩;exact⟨_,e⟩
  | tup xs=>intro ⟨_,zT,_,ob,e,_⟩;exact⟨_,e⟩
  | dK kvs=>intro ⟨_,_,vs,_,q⟩;obtain⟨o,es,ep,e,_⟩:=q;exact⟨_,e⟩
  | dT kvs=>intro ⟨_,_,xs,_,o,es,ep,e,_⟩;exact⟨_,e⟩
  | set S n=>intro q;obtain⟨o,_,_,_,e,_⟩:=q;exact⟨_,e⟩
  | ins C dx fs=>intro ⟨_,_,_,e,_⟩;exact⟨_,e⟩
  | own x=>intro ⟨o,e⟩;exact⟨_,e⟩
  | xd fs=>intro ⟨mA,⟨o,es,ep,e,_⟩,_⟩;exact⟨_,e⟩
  | Ov lo hi=>intro ⟨_,_,_,e⟩;exact⟨_,e⟩
  | BA o u ih=>intro ⟨e,_⟩;exact⟨_,e⟩
  | B4 ps=>intro e;exact⟨_,e⟩
  | met f x=>intro e;exact⟨_,e⟩
  | ext φ=>intro ⟨_,e,_⟩;exact e
 exact all o q
theorem AY.none_of {P:Program}{w:World}{H:Hp}{h:Heap}{a:Addr}(x:AY P w H h)(e:h.get? a=none):H a=none:=by
 cases q:H a with
 | none=>rfl
 | some o =>
  obtain⟨ob,z⟩:=x.at q
  rw[e]at z;cases z
noncomputable def uR (H:Hp)(a:Addr):Hp:=fun b=>if b=a then none else H b
theorem na {H:Hp}{a:Addr}:uR H a a=none:=if_pos rfl
theorem dE {H:Hp}{a b:Addr}(h:b ≠ a):uR H a b=H b:=if_neg h
theorem Inv.drop {X:Cx}{pins:List (Addr × Obj)}{σ:St}{H:Hp}{s:Shared}{a:Addr} {φ:Heap->Prop} (I:Inv X pins σ H s) (e:H a=some (.ext φ)):Inv X pins σ (uR H a) s:=by
 have nx:∀ b u,H b=some u->(∀ φ,u ≠ .ext φ)->b ≠ a:=fun b u q n z=>by rw[z,e]at q;cases q;exact n φ rfl
 have nn:∀ b,H b=none->uR H a b=none:=fun b q=>by unfold uR;split<;>first | rfl | exact q
 refine⟨I.ok,I.os,I.bare,⟨I.base.keep,I.base.slot,fun b o h1 h2 h3=>nn b (I.base.free b o h1 h2 h3),I.base.there,fun b xs q=>?_,fun b o u q=>?_,fun b ps q=>?_⟩,I.loc,I.cell,nn _ I.free,fun x c h=>nn _ (I.Az x c h),fun p hp=>?_,fun b u q=>?_,I.len⟩
 ·have z:=I.base.BX b xs q
  rw[dE (nx b _ z fun φ h=>by cases h)];exact z
 ·have z:=I.base.BH b o u q
  rw[dE (nx b _ z fun φ h=>by cases h)];exact z
 ·obtain⟨more,z⟩:=I.base.BI b ps q
  exact⟨more,by rw[dE (nx b _ z fun φ h=>by cases h)];exact z⟩
 ·obtain⟨h1,h2,h3⟩:=I.pin p hp
  exact⟨h1,nn _ h2,h3⟩
 ·have hb:b ≠ a:=fun z=>by rw[z,na]at q;cases q
  rw[dE hb]at q
  refine(I.zV b u q).B5 (fun c v _ z=>z) (fun c z=>?_) fun c xs z=>?_
  ·rw[dE (nx c _ z fun φ h=>by cases h)];exact z
  ·rw[dE (nx c _ z fun φ h=>by cases h)];exact z
section
variable {X:Cx}{C f:Addr}{x:Str}{p pos apos:Pos}{e:Expr}{es:List Expr}{t:TA}
noncomputable def xI (t:TA):TX:=fun σ H R=>t σ H fun vs H1=>vs.length <= sizeLine/\R none H1
theorem bZ (hq:bq X.K C none=true)(kp:keepIn X.K (.ref C)=true)(hex:X.ex=[])(hg:Gl X x)(hm:X.mg x=some (.ref C))(ha:PA X (e :: es) t)
  (Dq:autoParam ((x == ("__debug__":Str))=false) θ) (he:autoParam (starEach (e :: es) X.env=(false,eval e X.env) :: starEach es X.env) η) (Br:autoParam ((backTo pos (starEach es X.env)).any (·.1)=false) η) :
  PX X (.Call (.Name x p) (e :: es) [] pos) C (xI t):=by
 intro pins s σ H R I h
 refine wpAny_Call_Name_kw (fM I hg hm ?_ Dq)
 refine PySem.W.callWith_K (h₀:=X.base) I.ok.mod.CH kp (aP (ha pos pins s σ H _ I h) fun us s1 ⟨vs,H1,I1,r,hl,q⟩=>⟨I1.AQ,?_⟩) he Br
 obtain⟨bm,N,nm,qn,bs,Bv,sn,sub,ab,col,dd,k0,k1,k2,k3,k5,mN,hC,hn,G8,T⟩:=lD I1.AQ hq
 obtain⟨hp,g,d,tk,os⟩:=s1
 refine wpAny_call_exc_subT (hrest:=by show us.length <= _;rw[← r.length];exact hl) PySem.F.excBase_ValueError T hC hn G8 fun h' ea Dc=>?_
 obtain⟨tt,ht,_,_⟩:=Dc.there
 refine⟨ea,none,tt,H1,rfl,I1.kept (t':=tk) Dc.keeps,ht,I1.E3 hex Dc.new,I1.zV.none_of Dc.new,fun p hp z=>?_,q⟩
 have:=(I1.pin p hp).1
 rw[z]at this
 have h2:=Dc.new
 rw[this]at h2
 cases h2
noncomputable def bI (e C t:Addr)(dd:Option Addr):HO := .ext fun h=>h.get? e=some (cS C t dd)
theorem jB {P:Program}{w:World}{H:Hp}{h:Heap}{e C t:Addr}{dd:Option Addr}(q:h.get? e=some (cS C t dd)):Ag P w H h e (bI e C t dd) :=
 ⟨q,⟨_,q⟩,fun h1 h2 a b=>b _ a⟩
noncomputable def xJ (C:Addr)(sp:Sp)(t:TA):TX:=fun σ H R=>t σ H fun vs H1=>vs.length <= sizeLine/\∀ e tt,H1 e=none->sp (.ref e :: vs) (upd H1 e (bI e C tt none)) (fun v H2=>v = .Af/\∃ dd,H2 e=some (bI e C tt dd)/\R dd (uR H2 e)) E0
theorem iP {k:Nat}{fd:FuncData}{ps:List Str}{sp:Sp}(hq:bq X.K C (some (.ref f))=true)(hf:isFn X.K (.ref f)=true)(kp:keepIn X.K (.ref C)=true)(F:zP X.prog X.w X.K X.mg X.base aB k f fd ps sp)(hr:zZ (k + 1) X.A)(hb:Binds X.K fd ps [])
  (hg:Gl X x) (hm:X.mg x=some (.ref C)) (ha:PA X (e :: es) t)
  (Dq:autoParam ((x == ("__debug__":Str))=false) θ) (he:autoParam (starEach (e :: es) X.env=(false,eval e X.env) :: starEach es X.env) η) (Br:autoParam ((backTo pos (starEach es X.env)).any (·.1)=false) η) :
  PX X (.Call (.Name x p) (e :: es) [] pos) C (xJ C sp t):=by
 intro pins s σ H R I h
 refine wpAny_Call_Name_kw (fM I hg hm ?_ Dq)
 refine PySem.W.callWith_K (h₀:=X.base) I.ok.mod.CH kp (aP (ha pos pins s σ H _ I h) fun us s1 ⟨vs,H1,I1,r,hl,q⟩=>⟨I1.AQ,?_⟩) he Br
 obtain⟨bm,N,nm,qn,bs,Bv,sn,sub,ab,col,dd,k0,k1,k2,k3,k5,mN,hC,hn,G8,T⟩:=lD I1.AQ hq
 obtain⟨oI,VL,hcI⟩:∃ oI,s1.heap.get? f=some oI/\oI.cls = .type "function":=by
  have z:=beq_iff_eq.mp hf
  obtain⟨o,ho,z⟩:=Option.map_eq_some_iff.mp (show(X.K.lookup f).map (·.cls)=some (.type "function") from z)
  exact⟨o,I1.AQ _ _ ho,z⟩
 obtain⟨hp,g,d,tk,os⟩:=s1
 dsimp only at hC hn T VL
 refine kM (hrest:=by show us.length <= _;rw[← r.length];exact hl) PySem.F.excBase_ValueError T hC hn G8 VL hcI ?_
 have nE:hp.objs.size <= hp.objs.size + 1:=le_succ _
 have VM:=q (hp.objs.size + 1) hp.objs.size (I1.zV.fresh nE)
 have Ih:((hp.push { cls := .type "tuple",data := .seq us.toArray }).push (cS C hp.objs.size none)).get? (hp.objs.size + 1)=some (cS C hp.objs.size none):=by
  have:=Heap.get?_push_size (hp.push { cls := .type "tuple",data := .seq us.toArray }) (o:=cS C hp.objs.size none) rfl
  rwa [size_push]at this
 have I2:Inv X pins σ (upd H1 (hp.objs.size + 1) (bI (hp.objs.size + 1) C hp.objs.size none)) ⟨(hp.push { cls := .type "tuple",data := .seq us.toArray }).push (cS C hp.objs.size none),g,d,tk,os⟩ :=
  I1.laid (t':=tk) (fun b u z=>Heap.get?_push_of_some _ (Heap.get?_push_of_some _ z)) nE (jB Ih)
 have r2:Vals (V.ref (hp.objs.size + 1) :: vs) (Value.ref (hp.objs.size + 1) :: us) := .cons rfl r
 have Fp:(Value.ref (hp.objs.size + 1) :: us ++ []).length=ps.length:=by
  have e:=r2.length
  rw[F.len _ _ _ _ VM]at e
  rw[append_nil];exact e.symm
 have G9:=hb ⟨(hp.push { cls := .type "tuple",data := .seq us.toArray }).push (cS C hp.objs.size none),g,d,tk,os⟩ (Value.ref (hp.objs.size + 1) :: us) I2.AQ Fp
 rw[append_nil]at G9
 refine wpAny_call (codeAny_mono (F.run _ X.stack _ _ ⟨Value.ref (hp.objs.size + 1) :: us,[]⟩ (Value.ref (hp.objs.size + 1) :: us) _ _ E0 (hr.make C us []) (I2.HS.make C us []) G9 r2 VM) fun rr s' Cy=>?_)
 cases rr with
 | error e=>exact Cy.elim
 | ok fl =>
  cases fl with
  | ret u =>
   obtain⟨v,H',I3,rv,ev,de,Dj,q3⟩:=I2.after Cy
   subst ev
   refine⟨rv,hp.objs.size + 1,de,hp.objs.size,uR H' (hp.objs.size + 1),rfl,I3.drop Dj,(I3.zV _ _ Dj).1,Heap.get?_none_of_le (le_trans I1.sz nE),na,fun p C2 z=>?_,q3⟩
   have:=lt_size (I1.pin p C2).1
   rw[z]at this
   exact absurd this (Nat.not_lt.mpr nE)
  | next=>exact False.elim Cy
  | brk=>exact False.elim Cy
  | cont=>exact False.elim Cy
noncomputable def xM (C:Addr)(E:XK)(t:TX):TS:=fun _ σ H=>t σ H fun dd H1=>E (.ref C) dd H1
theorem b9 {E:XK}{tx:TX}{init:Option Value}(hc:X.calm=true)(hq:bq X.K C init=true)(hx:BD X E)(h:PX X e C tx):PS X (.Raise (some e) none pos) (xM C E tx):=by
 intro pins s σ H D I hw
 rw[arm_exec_Raise]
 have key:wpAny (model X.prog X.w) X.A (eval e X.env) (fun v s₁=>∃ ea t de nm q N bs bm Bv sn sub ab col dd k0 k1 k2 k3 k5 newId,v = .ref ea/\bm.contains (.type "BaseException")=true/\s₁.heap.get? C=some (excClassObj nm q C N bs bm Bv sn sub ab col dd k0 k1 k2 k3 k5 newId) /\
   s₁.heap.get? ea=some { cls := .ref C,dict:=de,data := .fields #[.ref t, .none, .none, .none, .bool false, .none] }/\X.xe (.ref ea) s₁) X.xe s:=by
  refine aP (h pins s σ H _ I hw) fun u s1 zS=>?_
  obtain⟨ea,dd,tt,H',eu,I1,ho,hn,hh,hp,q⟩:=zS
  obtain⟨bm,N,nm,qn,bs,Bv,sn,sub,ab,col,ddc,k0,k1,k2,k3,k5,mN,hC,Jw,G8,T⟩:=lD I1.AQ hq
  refine⟨ea,tt,dd,nm,qn,N,bs,bm,Bv,sn,sub,ab,col,ddc,k0,k1,k2,k3,k5,_,eu,qw T,hC,ho,hx pins σ _ _ ⟨ea, .ref C,dd,[ea],H',rfl,I1,⟨_,_,ho,rfl,rfl,rfl, .inl ⟨rfl,rfl⟩⟩,fun b hb=>?_,q⟩⟩
  simp only[mem_singleton]at hb
  subst hb
  exact⟨hn,hh,hp⟩
 first
  | refine wpAny_bind (wpAny_standAt (gk (C:=C) (I.ok.hd hc) (wpAny_bind (wpAny_mono key (fun v s₃ h₃=>wpAny_bind (wpAny_standAt (wpAny_pure h₃))) fun _ _ x=>x))))
  | (simp only[evalOpt,Option.map];refine wpAny_bind (wpAny_standAt (gk (C:=C) (I.ok.hd hc) (wpAny_bind (wpAny_mono key (fun v s₃ h₃=>wpAny_bind (wpAny_standAt (wpAny_pure h₃))) fun _ _ x=>x)))))
end
section
variable {prog:Program}{w:World}{A:Around}{E:Value->Shared->Prop}{s:Shared}{K:Frag}{x C:Addr}{ox:Obj}{od:Option Obj}{name:Str}{v:Value}
open PySem.W in
open PySem.W in
end
section
variable {X:Cx}{pins:List (Addr × Obj)}{σ:St}{H:Hp}{s:Shared}{ea:Addr}{oe:Obj}
end
noncomputable def KQ (K:Frag)(ta tv:TE)(f:Str):TS:=fun D σ H=>tv σ H fun y H1=>ta σ H1 fun x H2=>∃ a C tt,x = .ref a/\H2 a=some (bI a C tt none)/\gi K C/\findIn K (.ref C) f=some none /\
 ∀ d,H2 d=none->D.nx σ (upd (upd H2 d (.xd [(f,y)])) a (bI a C tt (some d)))
section
variable {X:Cx}{o e value:Expr}{f:Str}{pos pos':Pos}{ta tv:TE}
theorem lm (ha:PE X o ta)(hv:PE X value tv)(hs:swapsWith value (some (.Attribute o f pos')) pos.line X.env=pure false):PS X (.Assign [.Attribute o f pos'] value pos) (KQ X.K ta tv f):=by
 intro pins s σ H D I h
 refine plainObj_wpAny_Assign_Attribute (aP (hv pins s σ H _ I h) fun u s1 ⟨y,H1,I1,ry,q⟩=>aP (ha pins s1 σ H1 _ I1 q) fun ov s2 zS=>?_) hs
 obtain⟨x,H2,I2,rx,a,C,tt,ex,ea,c,n,q2⟩:=zS
 subst ex
 obtain rfl:ov=Value.ref a:=rx
 have ho:s2.heap.get? a=some (cS C tt none):=(I2.zV a _ ea).1
 have AG:a < s2.heap.objs.size:=lt_size ho
 refine lQ I2.AQ ho c n fun h' t' Ct CI hk=>⟨σ,_,?_,q2 s2.heap.objs.size (I2.zV.fresh (Nat.le_refl _))⟩
 obtain⟨od,es,ep,Ei,r⟩:=id CI
 have DV:od.isFreed=false:=(Heap.get?_some_iff.mp Ei).2
 have Dd:(s2.heap.push od).get? s2.heap.objs.size=some od:=Heap.get?_push_size s2.heap DV
 have I3:=I2.laid (a:=s2.heap.objs.size) (o := .xd [(f,y)]) (h':=s2.heap.push od) (t':=s2.toks) (fun b u z=>Heap.get?_push_of_some _ z) (Nat.le_refl _)
  ⟨_,CI.at (fun o z=>by rw[Ei]at z;cases z;exact Dd),fun g=>by
   by_cases hg:g=f
   ·have hb:(g == f)=true:=beq_iff_eq.mpr hg
    simp only[List.lookup,hb,if_pos hg]
    exact ry
   ·have hb:(g == f)=false:=beq_eq_false_iff_ne.mpr hg
    simp only[List.lookup,hb,if_neg hg]
    trivial⟩
 have Ay:a ≠ s2.heap.objs.size:=ne_of_lt AG
 refine I3.write (x:=a) (e:=a) (h':=h') (t':=t') (by rw[ae Ay,ea];exact True.intro) (.inl rfl) (fun b u hb z=>?_) ⟨_,Ct⟩ (jB Ct)
 by_cases KR:b=s2.heap.objs.size
 ·subst KR
  have z':(s2.heap.push od).get? s2.heap.objs.size=some u:=z
  rw[Dd]at z'
  cases z'
  exact Ei
 ·have z':s2.heap.get? b=some u:=by
   have z0:(s2.heap.push od).get? b=some u:=z
   exact(Heap.get?_push_cases z0).elim (fun w=>absurd w.1 KR) fun w=>w
  exact hk b u hb z'
end
section
variable {P:Program}{w:World}{K:Frag}{mg:Str->Option Value}{base:Heap}
theorem Al.EY {x qual:Str}{st:Stmt}{f:Addr}{fd:FuncData}{N ps:List Str}{k:Nat}{sp:Sp}(F:Al K x qual st f fd)(S:ao N ps (ah st))(len:∀ vs H Q E,sp vs H Q E->vs.length=ps.length)
  (AO:∀ (cdv:Value)(A:Around)(outer:List Env)(s:Shared)(H:Hp)(vs:List V)(Q:VK)(E:XK),zZ k (A.deeper (envOfC qual (ah st) s.heap.objs.size f cdv))->sp vs H Q E ->
   ∃ t,BB (i5 (dS P w) P w K mg base N qual (ah st) f cdv A outer s H E) (aF st) t/\t { nx:=fun _ H'=>Q .Af H',rt:=Q } (start N vs) H):zP P w K mg base (dS P w) (k + 1) f fd ps sp:=by
 obtain⟨oc,od,kV,doc,pm,an,cdv,ct,CJ,rfl,lk,B6⟩:=F.ex
 exact qj lk B6 S len fun A outer s H vs Q E hr Cz=>AO cdv A outer s H vs Q E hr Cz
end
theorem im {P:Program}{w:World}{X:Cx}:cx (dS P w) X E0:=fun _ _ _ _ _ _ _ zS=>by obtain⟨_,_,_,_,_,_,_,_,_,_,_,_,h⟩:=zS;exact h.elim
section
variable {X:Cx}{k:Nat}{f C:Addr}{fd:FuncData}{ps:List Str}{sp:Sp}{Aw:List V}{ds:List Value}{x m:Str}{p pos apos:Pos}{e o:Expr}{es:List Expr}{ta:TE}{t:TA}
end
section
variable {X:Cx}{e:Expr}{t:St->Hp->VK->XK->Prop}{pos DS:Pos}{n:Str}{i:Nat}
end
section
variable {M:Model}{A:Around}{E:Value->Shared->Prop}{s:Shared}
end
end L2
namespace PySem
open Sem (wp)
open AutoSeq1 (wpAny_loadPart')
theorem dU (l:Addr)(items:Array Value)(n:Nat)(QP:Option Addr)(sl:Array (Option Value)) :
  Meets (Builtin.«enumerate.__new__» ⟨[.type "enumerate", .ref l],[]⟩) (fun _ R s=>s.heap.get? l=some { cls := .type "tuple",dict:=QP,data := .seq items n,slots:=sl } /\
   R (.ok (.ret (.ref (s.heap.push { cls := .type "tuple_iterator",data := .fields #[.ref l, .int 0 0] }).objs.size)))
    { s with heap:=(s.heap.push { cls := .type "tuple_iterator",data := .fields #[.ref l, .int 0 0] }).push { cls := .type "enumerate",data := .fields #[.none, .bool false, .ref s.heap.objs.size,rawInt 0, .none, .none] } }) :=
 .of_wp fun prog w A R s h=>by
  obtain⟨hp,g,d,tk,os⟩:=s;obtain⟨hl,h⟩:=h
  have KS:=sub_enumerate
  have hL:Heap.IsTuple (Shared.heap ⟨hp,g,d,tk,os⟩) l items:=⟨_,hl,rfl,n,rfl⟩
  wp_walk using wpAny_loadPart' hl
  refine wpAny_stack_any fun st=>wpAny_pure ?_
  split
  ·rename_i c _ _ _ _ _
   cases (c == Value.type "enumerate")
   ·wp_walk using wpAny_loadPart' hl,wpAny_pyIter_tuple hL
    exact⟨_,rfl,h⟩
   ·wp_walk using wpAny_loadPart' hl,wpAny_pyIter_tuple hL
    exact⟨_,rfl,h⟩
  ·wp_walk using wpAny_loadPart' hl,wpAny_pyIter_tuple hL
   exact⟨_,rfl,h⟩
section
variable {prog:Program}{w:World}{A:Around}{E:Value->Shared->Prop}{s:Shared}
theorem dX {l:Addr}{items:Array Value}{Q:Value->Shared->Prop}(hL:s.heap.IsTuple l items)
  (h:∀ h',IsEnum h' (s.heap.objs.size + 1) s.heap.objs.size 0 .none->h'.IsTupleIter s.heap.objs.size l 0->h'.objs.size=s.heap.objs.size + 2 ->
   (∀ b o,s.heap.get? b=some o->h'.get? b=some o)->Q (.ref (s.heap.objs.size + 1)) { s with heap:=h' }) :
  wpAny (model prog w) A (call (.type "enumerate") [.ref l]) Q E s:=by
 obtain⟨⟨c,QP,dt,sl⟩,hl,hc,n,hd⟩:=hL
 replace hc:c = .type "tuple":=hc
 replace hd:dt = .seq items n:=hd
 subst hc hd
 refine callType_new F.called_enumerate (by decide) (F.typeCall_enumerate_1 _) (F.newCall_enumerate_1 _) (fun obj=>F.args_object_init_2 obj _) F.entry_enumerate_new
  (dU l items n QP sl) ⟨hl,?_⟩
 have hz:(s.heap.push { cls := .type "tuple_iterator",data := .fields #[.ref l, .int 0 0] }).objs.size=s.heap.objs.size + 1:=size_push ..
 show _/\_
 rw[hz]
 have he:IsEnum ((s.heap.push { cls := .type "tuple_iterator",data := .fields #[.ref l, .int 0 0] }).push
   { cls := .type "enumerate",data := .fields #[.none, .bool false, .ref s.heap.objs.size,rawInt 0, .none, .none] }) (s.heap.objs.size + 1) s.heap.objs.size 0 .none:=by
  have:=Heap.get?_push_size (s.heap.push { cls := .type "tuple_iterator",data := .fields #[.ref l, .int 0 0] })
   (o:={ cls := .type "enumerate",data := .fields #[.none, .bool false, .ref s.heap.objs.size,rawInt 0, .none, .none] }) rfl
  rw[hz]at this;exact this
 refine⟨⟨_,he,rfl⟩,h _ he ⟨_,Heap.get?_push_of_some _ (Heap.get?_push_size _ rfl),rfl,rfl⟩ (by rw[size_push,hz]) fun b o x=>Heap.get?_push_of_some _ (Heap.get?_push_of_some _ x)⟩
theorem fO {it l:Addr}{i:Nat} {items} {x:Value} {Q:Value->Shared->Prop} (hit:s.heap.IsTupleIter it l i)
  (hl:s.heap.IsTuple l items) (hx:items[i]? = some x)
  (hQ:∀ h',h'.IsTupleIter it l (i + 1)->Heap.SameBut it s.heap h'->Q x { s with heap:=h' }) :
  wpAny (model prog w) A (Builtin.SmallTypes.nextOf (.ref it)) Q E s:=by
 obtain⟨o,ho,hc,hd⟩:=id hit
 obtain⟨ol,Ii,_,nl,E5⟩:=hl
 unfold Builtin.SmallTypes.nextOf
 refine wpAny_bind (wpAny_callSpecial?_slot (name:=Str.ofString "__next__") hit.typeIs F.slot_tuple_iterator_next
  (wpAny_call_entry F.slot_tuple_iterator_next hit.typeIs F.entry_tuple_iterator_next ?_ (F.args_tuple_iterator_next_1 _)))
 show wpAny _ _ (field (.ref it) 0 >>= _) _ _ s
 refine wpAny_bind (wpAny_field ho hd (x := .ref l) rfl ?_)
 show wpAny _ _ (if (Value.ref l == Value.none)=true then _ else _) _ _ s
 rw[if_neg (show ¬ ((Value.ref l == Value.none)=true) from Bool.false_ne_true)]
 show wpAny _ _ (field (.ref it) 1 >>= _) _ _ s
 refine wpAny_bind (wpAny_field ho hd (x := .int i 0) rfl ?_)
 show wpAny _ _ (seqItems? (.ref l) >>= _) _ _ s
 refine wpAny_bind (wpAny_seqItems Ii E5 ?_)
 simp only[toNat_natCast,hx]
 refine wpAny_bind (wpAny_setField ho hd (by simp) (wpAny_pure ⟨x,rfl,wpAny_pure (hQ _ ?_ (Heap.SameBut.update ..))⟩))
 exact⟨_,Heap.get?_update_self _ ho (Obj.isFreed_of_fields (Obj.data_mapFields hd _)),(Obj.cls_mapFields ..).trans hc,by
  rw[Obj.data_mapFields hd];simp[rawInt]⟩
theorem fY {it l:Addr}{i:Nat} {items} {Q:Value->Shared->Prop} (hh:A.handled=none)
  (hit:s.heap.IsTupleIter it l i) (hl:s.heap.IsTuple l items) (hx:items[i]? = none)
  (hE:∀ h' e,Heap.ExtBut it s.heap h'->(∃ o,h'.get? e=some o/\o.cls = .type "StopIteration")->E (.ref e) { s with heap:=h' }) :
  wpAny (model prog w) A (Builtin.SmallTypes.nextOf (.ref it)) Q E s:=by
 obtain⟨o,ho,hc,hd⟩:=id hit
 obtain⟨ol,Ii,_,nl,E5⟩:=hl
 unfold Builtin.SmallTypes.nextOf
 refine wpAny_bind (wpAny_callSpecial?_slot (name:=Str.ofString "__next__") hit.typeIs F.slot_tuple_iterator_next
  (wpAny_call_entry F.slot_tuple_iterator_next hit.typeIs F.entry_tuple_iterator_next ?_ (F.args_tuple_iterator_next_1 _)))
 show wpAny _ _ (field (.ref it) 0 >>= _) _ _ s
 refine wpAny_bind (wpAny_field ho hd (x := .ref l) rfl ?_)
 show wpAny _ _ (if (Value.ref l == Value.none)=true then _ else _) _ _ s
 rw[if_neg (show ¬ ((Value.ref l == Value.none)=true) from Bool.false_ne_true)]
 show wpAny _ _ (field (.ref it) 1 >>= _) _ _ s
 refine wpAny_bind (wpAny_field ho hd (x := .int i 0) rfl ?_)
 show wpAny _ _ (seqItems? (.ref l) >>= _) _ _ s
 refine wpAny_bind (wpAny_seqItems Ii E5 ?_)
 simp only[toNat_natCast,hx]
 refine wpAny_bind (wpAny_rule (wpAny_bind (wpAny_setField ho hd (by simp) ?_)))
 show wpAny _ _ (newExc (.type "StopIteration") [] >>= _) _ _ _
 refine wpAny_bind ?_
 simp only[newExc,newTuple]
 refine wpAny_bind (wpAny_newObj_type ?_ (by size_fits))
 refine wpAny_bind (m:=firstArgMember _ _) (wpAny_of_eq (a:=Value.none) (by first | rfl | (simp only[firstArgMember];rfl)) ?_)
 refine wpAny_newObj_type ?_ (by size_fits)
 simp only[raiseNew]
 refine wpAny_bind (wpAny_handled ?_)
 first | rw[show A.in1.handled=none from hh] | rw[hh]
 refine wpAny_bind (wpAny_pure (wpAny_throw ?_))
 exact hE _ _ (((Heap.SameBut.update ..).extBut.push _).push _) ⟨_,Heap.get?_push_size _ rfl,rfl⟩
end
theorem fR {prog:Program}{w:World}{A:Around}(hh:A.handled=none)(it l:Addr)(Ay:l ≠ it)(items:Array Value) :
  Draws prog w A it [it,l] items.size (fun i v=>items[i]? = some v) (fun i h=>h.IsTupleIter it l i/\h.IsTuple l items) where
 live:=fun _ _ st=>let ⟨o,ho,_⟩:=st.1; ⟨o,ho⟩
 frame:=fun _ _ _ st hk=>⟨st.1.at fun o e=>hk it (by simp) o e,let ⟨o,ho,r⟩:=st.2; ⟨o,hk l (by simp) o ho,r⟩⟩
 item:=fun i s Q E hi st hQ=>by
  refine fO st.1 st.2 (x:=items[i]) (by simp[hi]) fun h' QQ Jz=>?_
  exact hQ _ h' s.toks (by simp[hi]) ⟨QQ,let ⟨o,ho,r⟩:=st.2; ⟨o,Jz.extBut l o Ay ho,r⟩⟩ Jz
 done:=fun s Q E st hE=>fY hh st.1 st.2 (by simp) hE
end PySem
namespace L2
open PySem PySem.Spec PyProof.Rows
section
variable {X:Cx}{pins:List (Addr × Obj)}{σ:St}{H:Hp}{s:Shared}
theorem Inv.Ij {h':Heap}{t':Nat}{a b p:Addr}{xs:List V}{us:List Value}(I:Inv X pins σ H s)(fa:fQ X pins H a)(fb:fQ X pins H b)(hp:s.heap.objs.size <= p)
  (k:∀ c o,c ≠ a->c ≠ b->s.heap.get? c=some o->h'.get? c=some o) (ka:∃ o,h'.get? a=some o) (kb:∃ o,h'.get? b=some o) (hl:xs.length <= sizeLine) (r:Vals xs us) (ht:Ba h' p us.toArray) :
  Inv X pins σ (upd H p (.tup xs)) { s with heap:=h',toks:=t' }:=by
 have hf:H p=none:=I.zV.fresh hp
 have nt:∀ c u,H c=some u->c ≠ p:=fun c u q z=>by rw[z,hf]at q;cases q
 have lt:∀ c o,s.heap.get? c=some o->c ≠ p:=fun c o q=>ne_of_lt (lt_of_lt_of_le (lt_size q) hp)
 have ne:∀ c,c ∉ [a,b]->c ≠ a/\c ≠ b:=fun c hc=>by simpa using hc
 refine I.call (g':=s.gens) (d':=s.drawn) (ch:=[a,b]) ⟨fun c o e n h1 h2=>k c o (ne c h2).1 (ne c h2).2 e,fun c o e n h1 h2=>⟨o.slots,k c o (ne c h2).1 (ne c h2).2 e⟩,fun c o e n h2=>by rw[ae (lt c o e)];exact n,
  fun c o e h2=>⟨o,k c o (ne c h2).1 (ne c h2).2 e⟩,fun c ys q=>by rw[ae (nt c _ q)];exact q,fun c o u q=>by rw[ae (nt c _ q)];exact q,fun c ps q=>⟨#[],by rw[ae (nt c _ q),q];simp⟩⟩ (fun c u q=>?_) I.bare fun c hc=>?_
 ·by_cases hc:c=p
  ·subst hc
   rw[ac]at q
   cases q
   exact⟨hl,us,r,ht⟩
  ·rw[ae hc]at q
   refine(I.zV c u q).B5 (fun d v hd z=>?_) (fun d z=>by rw[ae (nt d _ z)];exact z) fun d ys z=>by rw[ae (nt d _ z)];exact z
   have nd:∀ e,H e=none->d ≠ e:=fun e he w=>by
    rcases hd with rfl | hd
    ·rw[w,he]at q;cases q
    ·rw[w,he]at hd;cases hd
   exact k d v (nd a fa.1) (nd b fb.1) z
 ·have Ef:c=a∨c=b:=by simpa using hc
  rcases Ef with rfl | rfl
  ·obtain⟨_,f1,_,f3,f4,f5⟩:=fa;exact⟨f3,f1,f4,f5⟩
  ·obtain⟨_,f1,_,f3,f4,f5⟩:=fb;exact⟨f3,f1,f4,f5⟩
theorem Inv.DC {h':Heap}{t':Nat}{a b:Addr}(I:Inv X pins σ H s)(fa:fQ X pins H a)(fb:fQ X pins H b)
  (k:∀ c o,c ≠ a->c ≠ b->s.heap.get? c=some o->h'.get? c=some o):Inv X pins σ H { s with heap:=h',toks:=t' }:=by
 have ne:∀ c,c ∉ [a,b]->c ≠ a/\c ≠ b:=fun c hc=>by simpa using hc
 refine I.call (g':=s.gens) (d':=s.drawn) (ch:=[a,b]) ⟨fun c o e n h1 h2=>k c o (ne c h2).1 (ne c h2).2 e,fun c o e n h1 h2=>⟨o.slots,k c o (ne c h2).1 (ne c h2).2 e⟩,fun c o e n h2=>n,
  fun c o e h2=>⟨o,k c o (ne c h2).1 (ne c h2).2 e⟩,fun c ys q=>q,fun c o u q=>q,fun c ps q=>⟨#[],by rw[q];simp⟩⟩ (fun c u q=>?_) I.bare fun c hc=>?_
 ·refine(I.zV c u q).B5 (fun d v hd z=>?_) (fun d z=>z) fun d ys z=>z
  have nd:∀ e,H e=none->d ≠ e:=fun e he w=>by
   rcases hd with rfl | hd
   ·rw[w,he]at q;cases q
   ·rw[w,he]at hd;cases hd
  exact k d v (nd a fa.1) (nd b fb.1) z
 ·have Ef:c=a∨c=b:=by simpa using hc
  rcases Ef with rfl | rfl
  ·obtain⟨_,f1,_,f3,f4,f5⟩:=fa;exact⟨f3,f1,f4,f5⟩
  ·obtain⟨_,f1,_,f3,f4,f5⟩:=fb;exact⟨f3,f1,f4,f5⟩
theorem kB {e it:Addr}{fp:List Addr}{n i:Nat}{P:Nat->Value->Prop}{Sx:Nat->Heap->Prop}{old:Value}{xs:List V}{E:Value->Shared->Prop}{elts:List Expr}{kk:Nat}{pos:Pos}
  (D:Draws X.prog X.w X.A.in1 it fp n P Sx) (I:Inv X pins σ H s) (he:IsEnum s.heap e it i old) (Dn:Sx i s.heap) (AG:i < n) (Ay:e ≠ it) (VN:e ∉ fp) (fe:fQ X pins H e) (fi:fQ X pins H it)
  (hP:∀ v,P i v->∃ x,xs[i]? = some x/\RelV x v) :
  wpAny (model X.prog X.w) X.A (pyNext (.ref e)) (fun r s1=>∃ u,r=some u/\wpAny (model X.prog X.w) X.A (letOwnedTupleGo (.Tuple elts kk pos) (.ref e) u) (fun _ s2=>∃ p x,xs[i]? = some x/\H p=none/\u = .ref p /\
   Inv X pins σ (upd H p (.tup [.int i,x])) s2/\(∃ old,IsEnum s2.heap e it ((i + 1:Nat):Int) old)/\Sx (i + 1) s2.heap/\p ≠ e/\p ≠ it) E s1) E s:=by
 refine wpAny_pyNext_enum_itemD D he Dn AG Ay VN fun x h' tk hx ho Jz hT hsz hk=>⟨_,rfl,?_⟩
 refine wpAny_letOwnedTupleGo_enum ho fun h2 EZ EV=>?_
 obtain⟨y,hy,ry⟩:=hP x hx
 have VO:e < s.heap.objs.size:=lt_size he
 have hie:it < s.heap.objs.size:=by obtain⟨_,z⟩:=D.live _ _ Dn;exact lt_size z
 have KU:Sx (i + 1) h2:=D.frame _ _ _ Jz fun b hb o z=>(EV.2 b fun q=>VN (q ▸ hb)).trans z
 refine⟨s.heap.objs.size,y,hy,I.zV.fresh (Nat.le_refl _),rfl,?_,⟨x,by simpa using EZ⟩,KU,ne_of_gt VO,ne_of_gt hie⟩
 refine Inv.Ij (s:=s) (h':=h2) (t':=tk + 1) I fe fi (Nat.le_refl _) (fun c o h1 h2' z=>(EV.2 c h1).trans (hk c o h1 h2' z)) ⟨_,EZ⟩ (let ⟨o,z⟩:=D.live _ _ KU; ⟨o,z⟩) (by show 2 <= sizeLine;decide) (us:=[.int i tk,x]) (.cons ⟨tk,rfl⟩ (.cons ry .nil)) ?_
 exact⟨_,(EV.2 _ (ne_of_gt VO)).trans hT,⟨rfl,_,rfl⟩,rfl⟩
end
noncomputable def zL (sq:Hp->List V->Prop):It :=
 ⟨fun i H=>∃ xs x,sq H xs/\xs[i]? = some x,fun i H v H'=>∃ p,H p=none/\v = .ref p/\∀ xs,sq H xs->∃ x,xs[i]? = some x/\H' = upd H p (.tup [.int i,x]),fun i H=>∃ xs,sq H xs/\xs.length=i⟩
theorem nX {P:Program}{w:World}{K:Frag}{elts:List Expr}{kk:Nat}{pos:Pos}(a e it:Addr)(Ay:e ≠ it):nG P w K (.Tuple elts kk pos) (zL fun H=>zU K H a) [e,it] e (fun i h=>(∃ old,IsEnum h e it (i:Int) old)/\h.IsListIter it a i) where
 mem:=by simp
 obj:=fun i h st b hb=>by
  obtain⟨⟨old,he⟩,o,ho,c,d⟩:=st
  have BS:b=e∨b=it:=by simpa using hb
  rcases BS with rfl | rfl
  ·exact⟨_,he,fun v z=>by have z':Data.fields _=Data.cell v:=z;cases z'⟩
  ·exact⟨o,ho,fun v z=>by rw[d]at z;cases z⟩
 keep:=fun i h h' st k=>by
  obtain⟨⟨old,he⟩,hi⟩:=st
  exact⟨⟨old,k e (by simp) _ he⟩,hi.at fun o z=>k it (by simp) o z⟩
 item:=by
  intro X hP hw hK hc i pins s σ H E I hf st hg
  subst hP hw hK
  obtain⟨xs,x,hq,hx⟩:=hg
  obtain⟨zT,rv,p,hz⟩:=I.list hq
  obtain⟨⟨old,he⟩,hi⟩:=st
  have hl:i < zT.toArray.size:=by
   have:=(gQ0 hx)
   have l2:=rv.length
   simp;omega
  have QR:e ≠ a:=by
   rintro rfl
   obtain⟨o,ho,Dk,_⟩:=p.isList
   rw[he]at ho;cases ho
   injection Dk with z;exact absurd z (by decide)
  have Ik:a ≠ it:=by
   rintro rfl
   obtain⟨o,ho,Dk,_⟩:=p.isList
   obtain⟨o2,Bu,CS,_⟩:=hi
   rw[ho]at Bu;cases Bu;rw[Dk]at CS
   injection CS with z;exact absurd z (by decide)
  refine aP (kB (xs:=xs) (Draws.list (A:=X.A.in1) (I.ok.hd hc) it a Ik zT.toArray) I he ⟨hi,p.isList⟩ hl Ay (by simp only[mem_cons,not_mem_nil,or_false,not_or];exact⟨Ay,QR⟩) (hf e (by simp)) (hf it (by simp)) fun v hv=>?_) fun r s1 ⟨u,hr,h1⟩=>⟨u,hr,aP h1 fun _ s2 ⟨q,y,hy,QS,hu,I2,EZ,EV,n1,n2⟩=>?_⟩
  ·obtain⟨u,hu,ru⟩:=rv.get hx
   have e1:zT[i]? = some v:=by simpa using hv
   rw[hu]at e1;cases e1
   exact⟨x,hx,ru⟩
  ·refine⟨.ref q,_,I2,hu,⟨q,QS,rfl,fun zs QT=>⟨y,by rw[I.CO QT hq];exact hy,rfl⟩⟩,⟨EZ,EV.1⟩,fun b hb=>?_⟩
   have BS:b=e∨b=it:=by simpa using hb
   rcases BS with rfl | rfl
   ·rw[ae (Ne.symm n1)];exact(hf b (by simp)).1
   ·rw[ae (Ne.symm n2)];exact(hf b (by simp)).1
 done:=by
  intro X hP hw hK hc i pins s σ H E I hf st hg
  subst hP hw hK
  obtain⟨xs,hq,hx⟩:=hg
  obtain⟨zT,rv,p,hz⟩:=I.list hq
  obtain⟨⟨old,he⟩,hi⟩:=st
  have hl:i=zT.toArray.size:=by have l2:=rv.length;simp;omega
  have Ik:a ≠ it:=by
   rintro rfl
   obtain⟨o,ho,Dk,_⟩:=p.isList
   obtain⟨o2,Bu,CS,_⟩:=hi
   rw[ho]at Bu;cases Bu;rw[Dk]at CS
   injection CS with z;exact absurd z (by decide)
  refine wpAny_pyNext_enum_endD (Draws.list (A:=X.A.in1) (I.ok.hd hc) it a Ik zT.toArray) he (by rw[← hl];exact⟨hi,p.isList⟩) fun h' Ct=>⟨rfl,?_⟩
  exact I.DC (t':=s.toks) (hf e (by simp)) (hf it (by simp)) fun c o h1 h2 z=>Ct c o h2 z
 self:=fun _ _ _ _ _ st h=>by
  obtain⟨⟨old,he⟩,_⟩:=st
  exact wpAny_pyIter_enum he h
theorem nU {P:Program}{w:World}{K:Frag}{elts:List Expr}{kk:Nat}{pos:Pos}(a e it:Addr)(Ay:e ≠ it):nG P w K (.Tuple elts kk pos) (zL fun H=>Ab K H a) [e,it] e (fun i h=>(∃ old,IsEnum h e it (i:Int) old)/\h.IsTupleIter it a i) where
 mem:=by simp
 obj:=fun i h st b hb=>by
  obtain⟨⟨old,he⟩,o,ho,c,d⟩:=st
  have BS:b=e∨b=it:=by simpa using hb
  rcases BS with rfl | rfl
  ·exact⟨_,he,fun v z=>by have z':Data.fields _=Data.cell v:=z;cases z'⟩
  ·exact⟨o,ho,fun v z=>by rw[d]at z;cases z⟩
 keep:=fun i h h' st k=>by
  obtain⟨⟨old,he⟩,hi⟩:=st
  exact⟨⟨old,k e (by simp) _ he⟩,hi.at fun o z=>k it (by simp) o z⟩
 item:=by
  intro X hP hw hK hc i pins s σ H E I hf st hg
  subst hP hw hK
  obtain⟨xs,x,hq,hx⟩:=hg
  obtain⟨zT,rv,p,hz⟩:=I.tuple hq
  have pt:s.heap.IsTuple a zT.toArray:=p
  obtain⟨⟨old,he⟩,hi⟩:=st
  have hl:i < zT.toArray.size:=by
   have:=(gQ0 hx)
   have l2:=rv.length
   simp;omega
  have QR:e ≠ a:=by
   rintro rfl
   obtain⟨o,ho,Dk,_⟩:=pt
   rw[he]at ho;cases ho
   injection Dk with z;exact absurd z (by decide)
  have Ik:a ≠ it:=by
   rintro rfl
   obtain⟨o,ho,Dk,_⟩:=pt
   obtain⟨o2,Bu,CS,_⟩:=hi
   rw[ho]at Bu;cases Bu;rw[Dk]at CS
   injection CS with z;exact absurd z (by decide)
  refine aP (kB (xs:=xs) (fR (A:=X.A.in1) (I.ok.hd hc) it a Ik zT.toArray) I he ⟨hi,pt⟩ hl Ay (by simp only[mem_cons,not_mem_nil,or_false,not_or];exact⟨Ay,QR⟩) (hf e (by simp)) (hf it (by simp)) fun v hv=>?_) fun r s1 ⟨u,hr,h1⟩=>⟨u,hr,aP h1 fun _ s2 ⟨q,y,hy,QS,hu,I2,EZ,EV,n1,n2⟩=>?_⟩
  ·obtain⟨u,hu,ru⟩:=rv.get hx
   have e1:zT[i]? = some v:=by simpa using hv
   rw[hu]at e1;cases e1
   exact⟨x,hx,ru⟩
  ·refine⟨.ref q,_,I2,hu,⟨q,QS,rfl,fun zs QT=>⟨y,by rw[I.Cq QT hq];exact hy,rfl⟩⟩,⟨EZ,EV.1⟩,fun b hb=>?_⟩
   have BS:b=e∨b=it:=by simpa using hb
   rcases BS with rfl | rfl
   ·rw[ae (Ne.symm n1)];exact(hf b (by simp)).1
   ·rw[ae (Ne.symm n2)];exact(hf b (by simp)).1
 done:=by
  intro X hP hw hK hc i pins s σ H E I hf st hg
  subst hP hw hK
  obtain⟨xs,hq,hx⟩:=hg
  obtain⟨zT,rv,p,hz⟩:=I.tuple hq
  have pt:s.heap.IsTuple a zT.toArray:=p
  obtain⟨⟨old,he⟩,hi⟩:=st
  have hl:i=zT.toArray.size:=by have l2:=rv.length;simp;omega
  have Ik:a ≠ it:=by
   rintro rfl
   obtain⟨o,ho,Dk,_⟩:=pt
   obtain⟨o2,Bu,CS,_⟩:=hi
   rw[ho]at Bu;cases Bu;rw[Dk]at CS
   injection CS with z;exact absurd z (by decide)
  refine wpAny_pyNext_enum_endD (fR (A:=X.A.in1) (I.ok.hd hc) it a Ik zT.toArray) he (by rw[← hl];exact⟨hi,pt⟩) fun h' Ct=>⟨rfl,?_⟩
  exact I.DC (t':=s.toks) (hf e (by simp)) (hf it (by simp)) fun c o h1 h2 z=>Ct c o h2 z
 self:=fun _ _ _ _ _ st h=>by
  obtain⟨⟨old,he⟩,_⟩:=st
  exact wpAny_pyIter_enum he h
section
variable {X:Cx}{elts:List Expr}{kk:Nat}{DS p pos:Pos}{a:Expr}{ta:TE}
noncomputable def QU (K:Frag)(t:TA):TI:=fun σ H R=>t σ H fun vs H1=>∃ a,vs=[.ref a]/\(∃ xs,zU K H1 a xs)/\R (zL fun H=>zU K H a) H1
noncomputable def QV (K:Frag)(t:TA):TI:=fun σ H R=>t σ H fun vs H1=>∃ a,vs=[.ref a]/\(∃ xs,Ab K H1 a xs)/\R (zL fun H=>Ab K H a) H1
theorem mz {t:TA}(hg:Gl X "enumerate")(hm:X.mg "enumerate" = none)(ha:PA X [a] t)(hs:autoParam (starEach [a] X.env=[(false,eval a X.env)]) η):PI X (.Tuple elts kk DS) (.Call (.Name "enumerate" p) [a] [] pos) (QU X.K t):=by
 intro pins s σ H R I h
 refine Call_ (iw I hg hm boot_enumerate (PyProof.Rows.callWith_type1 (aP (ha pos pins s σ H _ I h) fun us s1 zS=>?_) hs rfl))
 obtain⟨vs,H1,I1,r1,q1⟩:=zS
 obtain⟨l,e,⟨xs,hq⟩,q⟩:=q1
 subst e
 cases r1 with
 | cons r rr =>
  cases rr
  cases r
  obtain⟨zT,rv,pp,hz⟩:=I1.list hq
  refine call_enumerate_list pp.isList fun h' he hit hsz hk=>?_
  have I2:Inv X pins σ H1 { s1 with heap:=h' }:=I1.kept (t':=s1.toks) hk
  refine wpAny_pyIter_enum (s:={ s1 with heap:=h' }) he ?_
  refine⟨_,_,_,_,H1,rfl,I2,nX l _ s1.heap.objs.size (Nat.succ_ne_self _),⟨⟨_,he⟩,hit⟩,fun b hb=>?_,q⟩
  have BS:b=s1.heap.objs.size + 1∨b=s1.heap.objs.size:=by simpa using hb
  have hle:s1.heap.objs.size <= b:=by
   rcases BS with e | e
   ·rw[e];exact le_succ _
   ·rw[e];exact Nat.le_refl _
  exact I1.DQ hle (I1.zV.fresh hle)
theorem mq {t:TA}(hg:Gl X "enumerate")(hm:X.mg "enumerate" = none)(ha:PA X [a] t)(hs:autoParam (starEach [a] X.env=[(false,eval a X.env)]) η):PI X (.Tuple elts kk DS) (.Call (.Name "enumerate" p) [a] [] pos) (QV X.K t):=by
 intro pins s σ H R I h
 refine Call_ (iw I hg hm boot_enumerate (PyProof.Rows.callWith_type1 (aP (ha pos pins s σ H _ I h) fun us s1 zS=>?_) hs rfl))
 obtain⟨vs,H1,I1,r1,q1⟩:=zS
 obtain⟨l,e,⟨xs,hq⟩,q⟩:=q1
 subst e
 cases r1 with
 | cons r rr =>
  cases rr
  cases r
  obtain⟨zT,rv,pp,hz⟩:=I1.tuple hq
  refine dX (show s1.heap.IsTuple l zT.toArray from pp) fun h' he hit hsz hk=>?_
  have I2:Inv X pins σ H1 { s1 with heap:=h' }:=I1.kept (t':=s1.toks) hk
  refine wpAny_pyIter_enum (s:={ s1 with heap:=h' }) he ?_
  refine⟨_,_,_,_,H1,rfl,I2,nU l _ s1.heap.objs.size (Nat.succ_ne_self _),⟨⟨_,he⟩,hit⟩,fun b hb=>?_,q⟩
  have BS:b=s1.heap.objs.size + 1∨b=s1.heap.objs.size:=by simpa using hb
  have hle:s1.heap.objs.size <= b:=by
   rcases BS with e | e
   ·rw[e];exact le_succ _
   ·rw[e];exact Nat.le_refl _
  exact I1.DQ hle (I1.zV.fresh hle)
end
theorem mV {sq:Hp->List V->Prop}{xs:List V}{g:TG}{tb:TS}{D:jS}{σ:St}{H:Hp}(Pv:Nat->St->Hp->Prop)(h0:Pv 0 σ H)(hl:∀ i σ H,i <= xs.length->Pv i σ H->sq H xs)
  (hs:∀ i x p σ H,xs[i]? = some x->Pv i σ H->H p=none->g (.ref p) σ (upd H p (.tup [.int i,x])) fun σ2 H2=>tb { D with nx:=Pv (i + 1),ct:=Pv (i + 1),bk:=D.nx } σ2 H2) (hd:∀ σ H,Pv xs.length σ H->D.nx σ H) :
  ∃ W:Nat->Nat->St->Hp->Prop,(∃ m,W 0 m σ H)/\∀ i m σ H,W i m σ H ->
   ((zL sq).stop i H/\D.nx σ H)∨((zL sq).go i H/\∃ N:St->Hp->Prop,(∀ σ' H',N σ' H'->∃ m',m' < m/\W (i + 1) m' σ' H')/\∀ x H',(zL sq).EU i H x H'->g x σ H' fun σ2 H2=>tb { D with nx:=N,ct:=N,bk:=D.nx } σ2 H2):=by
 refine⟨fun i m σ H=>m=xs.length - i/\i <= xs.length/\Pv i σ H,⟨xs.length,by simp,zero_le _,h0⟩,?_⟩
 rintro i m σ H ⟨rfl,hi,p⟩
 have q:=hl i σ H hi p
 by_cases AG:i < xs.length
 ·refine .inr ⟨⟨xs,xs[i],q,by simp[AG]⟩,Pv (i + 1),fun σ' H' p'=>⟨xs.length - (i + 1),by omega,rfl,AG,p'⟩,fun x H' y=>?_⟩
  obtain⟨pp,hn,rfl,hx⟩:=y
  obtain⟨x',Ct,e⟩:=hx xs q
  subst e
  exact hs i x' pp σ H Ct p hn
 ·have e:i=xs.length:=by omega
  subst e
  exact .inl ⟨⟨xs,q,rfl⟩,hd σ H p⟩
noncomputable def Cn (d:PyData)(m:Nat):Prop:=d.canLay0=true/\d.depth <= m
theorem Cn.shaped {d:PyData}{m:Nat}(h:Cn d m)(hm:m <= 64):SeqAt.shaped d=true:=by
 unfold SeqAt.shaped
 rw[h.1,decide_eq_true (le_trans h.2 hm)];rfl
theorem cU (i:Int):Cn (.int i) 0:=⟨by simp[PyData.canLay0],by simp[PyData.depth]⟩
theorem lb {m:Nat}:∀ {ds:List PyData},(∀ d ∈ ds,Cn d m)->PyData.canLayAll0 ds=true/\PyData.depthAll ds <= m
 | [],_=>⟨by simp[PyData.canLayAll0],by simp[PyData.depthAll]⟩
 | d :: r,h=>by
  obtain⟨a,b⟩:=lb (ds:=r) fun z hz=>h z (mem_cons_of_mem _ hz)
  obtain⟨c,e⟩:=h d mem_cons_self
  exact⟨by simp[PyData.canLayAll0,c,a],by simp only[PyData.depthAll];omega⟩
theorem eT {m:Nat}{ds:List PyData}(h:∀ d ∈ ds,Cn d m):Cn (.list ds) (m + 1):=by
 obtain⟨a,b⟩:=lb h
 exact⟨by simp[PyData.canLay0,a],by simp only[PyData.depth];omega⟩
theorem jX {m:Nat}{ds:List PyData}(h:∀ d ∈ ds,Cn d m):Cn (.tuple ds) (m + 1):=by
 obtain⟨a,b⟩:=lb h
 exact⟨by simp[PyData.canLay0,a],by simp only[PyData.depth];omega⟩
theorem VP {K:Frag}{x y:V}{H:Hp}{Q:VK}{d:PyData}(h1:nJ K H x d)(h2:nJ K H y d)(s:Cn d 64)(q:Q (.bl false) H):y2 K x y H Q :=
 ⟨d,d,h1,h2,s.shaped (Nat.le_refl _),s.shaped (Nat.le_refl _),by rw[SeqAt.eqv_refl d s.1];exact q⟩
theorem Cn.le {d:PyData}{m n:Nat}(h:Cn d m)(l:m <= n):Cn d n:=⟨h.1,le_trans h.2 l⟩
end L2
namespace L2
open PySem
theorem nh {n:Nat}{lo:Int}{g:TG}{tt:TT}{te:TE}{σ0:St}{H:Hp}{Q:VK}(p:Nat->Bool)(f:Nat->V)(hn:n < sizeLine)
  (hs:∀ (i:Nat)(acc:List V)(N:List V->Hp->Prop),i < n->N (if p i then acc ++ [f i] else acc) H->g (.int (lo + i)) σ0 H fun σ2 H2=>tt σ2 H2 fun b H3=>if b=true then te σ2 H3 fun y H4=>N (acc ++ [y]) H4 else N acc H3)
  (hq:∀ D,H D=none->Q (.ref D) (upd H D (.lst (((List.range n).filter p).map f)))) :
  du (vi lo n) g tt te σ0 Q H:=by
 refine⟨fun i m acc H'=>m=n - i/\i <= n/\H' = H/\acc=((List.range i).filter p).map f,⟨n,by simp,zero_le _,rfl,rfl⟩,?_⟩
 rintro i m acc H' ⟨rfl,hi,rfl,rfl⟩
 have hl:(((List.range i).filter p).map f).length < sizeLine:=by
  rw[length_map]
  have:=length_filter_le p (List.range i)
  rw[length_range]at this
  omega
 refine⟨hl,?_⟩
 by_cases AG:i < n
 ·refine .inr ⟨AG,fun AL H2=>H2=H'/\AL = ((List.range (i + 1)).filter p).map f,fun AL H2 zS=>by obtain⟨h1,h2⟩:=zS;exact⟨n - (i + 1),by omega,rfl,AG,h1,h2⟩,fun x H2 y=>?_⟩
  obtain⟨e,y⟩:=y
  subst e y
  refine hs i _ (fun AL H3=>H3=H2/\AL = ((List.range (i + 1)).filter p).map f) AG ⟨rfl,?_⟩
  rw[range_succ,filter_append]
  cases hp:p i with
  | true=>simp[hp]
  | false=>simp[hp]
 ·have e:i=n:=by omega
  subst e
  exact .inl ⟨Nat.le_refl _,hq⟩
theorem fE {K:Frag}{a:Addr}{xs:List V}{g:TG}{tt:TT}{te:TE}{σ0:St}{H:Hp}{Q:VK}(p:V->Bool)(f:V->V)(hn:xs.length < sizeLine)(ha:zU K H a xs)
  (hs:∀ (x:V)(acc:List V)(N:List V->Hp->Prop),x ∈ xs->N (if p x then acc ++ [f x] else acc) H->g x σ0 H fun σ2 H2=>tt σ2 H2 fun b H3=>if b=true then te σ2 H3 fun y H4=>N (acc ++ [y]) H4 else N acc H3)
  (hq:∀ D,H D=none->Q (.ref D) (upd H D (.lst ((xs.filter p).map f)))) :
  du (vj K a) g tt te σ0 Q H:=by
 refine⟨fun i m acc H'=>m=xs.length - i/\i <= xs.length/\H' = H/\acc=((xs.take i).filter p).map f,⟨xs.length,by simp,zero_le _,rfl,rfl⟩,?_⟩
 rintro i m acc H' ⟨rfl,hi,rfl,rfl⟩
 have hl:(((xs.take i).filter p).map f).length < sizeLine:=by
  rw[length_map]
  have h1:=length_filter_le p (xs.take i)
  have h2:=length_take_le i xs
  omega
 refine⟨hl,?_⟩
 by_cases AG:i < xs.length
 ·refine .inr ⟨⟨xs,xs[i],ha,by simp[AG]⟩,fun AL H2=>H2=H'/\AL = ((xs.take (i + 1)).filter p).map f,fun AL H2 zS=>by obtain⟨h1,h2⟩:=zS;exact⟨xs.length - (i + 1),by omega,rfl,AG,h1,h2⟩,fun x H2 y=>?_⟩
  obtain⟨e,y⟩:=y
  subst e
  have hx:=y xs ha
  refine hs x _ (fun AL H3=>H3=H2/\AL = ((xs.take (i + 1)).filter p).map f) (mem_of_getElem? hx) ⟨rfl,?_⟩
  rw[take_succ,hx,filter_append]
  cases hp:p x with
  | true=>simp[hp]
  | false=>simp[hp]
 ·have e:i=xs.length:=by omega
  subst e
  rw[take_length]
  exact .inl ⟨⟨xs,ha,Nat.le_refl _⟩,hq⟩
theorem lA (k:Int):∀ ns:List Int,Jv (.int k) (ns.map V.int)=decide (k ∈ ns)
 | []=>by simp[Jv]
 | n :: r=>by
  have ih:=lA k r
  unfold Jv at ih ⊢
  rw[map_cons,any_cons,ih]
  show((n == k) || decide (k ∈ r))=decide (k ∈ n :: r)
  by_cases h:k=n
  ·subst h;simp
  ·have h':¬ n=k:=fun z=>h z.symm
   simp[h,h']
theorem i3:∀ ns:List Int,(ns.map V.int).all hU=true
 | []=>rfl
 | n :: r=>by rw[map_cons,all_cons,i3 r];rfl
open PySem.Spec PyProof.Rows
section
open PySem.W
variable {prog:Program}{w:World}{A:Around}{E:Value->Shared->Prop}{s:Shared}{K:Frag}{x C:Addr}{name:Str}{v:Value}
theorem sM {d:Addr}{vs:Array Value}{mA:Str->Option Value}{ns:List Str}{Q:Unit->Shared->Prop}(X:K.In s.heap)(hx:s.heap.get? x=some ⟨.ref C,some d, .fields vs,#[]⟩)(hn:s.heap.Ns1 d mA)(hw:PySem.Within mA ns)(hl:ns.length < sizeLine)(c:gi K C)(ht:findIn K (.ref C) name=some none)
  (h:∀ h' t',h'.Ns1 d (fun y=>if y=name then some v else mA y)->(∀ b,b ≠ d->h'.get? b=s.heap.get? b)->Q () { s with heap:=h',toks:=t' }) :
  wpAny (model prog w) A (setAttr (.ref x) name v) Q E s:=by
 obtain⟨od,es,ep,Ei,hr⟩:=id hn
 have I:PySem.W.InstAt s.heap x ⟨.ref C,some d, .fields vs,#[]⟩ C (some od):=⟨hx,rfl,rfl,Ei⟩
 refine PySem.W.set_plain X I c.sa (pN (s:={ s with toks:=s.toks + 1 }) X I c.mro ht fun b=>?_)
 obtain⟨cd,hc,HQ⟩:=PySem.W.any_some c.hd
 obtain⟨hp,g,dr,t,os⟩:=s
 dsimp only at X hx h I hn Ei ⊢
 refine wpAny_bind (wpAny_pure (wpAny_bind (wpAny_bind (wpAny_loadPart hx (wpAny_bind (PySem.W.Looks.here (s:=⟨hp,g,dr,t + 1,os⟩) (PySem.W.looks_clsIn X hc) ?_))))))
 rw[HQ]
 rw[if_neg (by decide)]
 dsimp only
 refine wpAny_pure ?_
 show wpAny _ _ (Builtin.ObjectAttr.storeInDict d (.str name t) name v) _ _ _
 unfold Builtin.ObjectAttr.storeInDict Builtin.ObjectAttr.newKeyGuard
 refine wpAny_bind (wpAny_pure (wpAny_bind (wpAny_nsSet1 hn fun h' CI hs=>?_)))
 obtain⟨oD,V6,V7,Ku,Js,Kv⟩:=CI.count (Within.cons name v hw)
 refine wpAny_bind (wpAny_lookBehind Ku (by rw[Js];exact pastItsLine_dict (le_trans Kv (by rw[length_cons];omega))) ?_)
 exact wpAny_pure (h h' _ CI fun b hb=>hs.2 b hb)
end
noncomputable def KW (d:Addr)(fs:List (Str × V)):Heap->Prop:=fun h=>∃ mA,h.Ns1 d mA/\∀ f,AK (fs.lookup f) (mA f)
theorem xC {P:Program}{w:World}{H:Hp}{h:Heap}{d:Addr}{fs:List (Str × V)}(x:KW d fs h):Ag P w H h d (.ext (KW d fs)):=by
 refine⟨x,?_,fun h1 h2 ⟨mA,⟨od,es,ep,e,c⟩,r⟩ k=>⟨mA,⟨od,es,ep,k _ e,c⟩,r⟩⟩
 obtain⟨mA,⟨od,es,ep,e,c⟩,r⟩:=x
 exact⟨od,e⟩
noncomputable def yw (K:Frag)(ta tv:TE)(f:Str):TS:=fun D σ H=>tv σ H fun y H1=>ta σ H1 fun x H2=>∃ a C tt,x = .ref a/\H2 a=some (bI a C tt none)/\gi K C/\findIn K (.ref C) f=some none /\
 ∀ d,H2 d=none->D.nx σ (upd (upd H2 d (.ext (KW d [(f,y)]))) a (bI a C tt (some d)))
noncomputable def yu (K:Frag)(ta tv:TE)(f:Str):TS:=fun D σ H=>tv σ H fun y H1=>ta σ H1 fun x H2=>∃ a C tt d fs,x = .ref a/\H2 a=some (bI a C tt (some d))/\H2 d=some (.ext (KW d fs))/\fs.length < 1000/\gi K C/\findIn K (.ref C) f=some none /\
 D.nx σ (upd H2 d (.xd (aK f y fs)))
section
variable {X:Cx}{o e value:Expr}{f:Str}{pos pos':Pos}{ta tv:TE}
theorem tP (ha:PE X o ta)(hv:PE X value tv)(hs:swapsWith value (some (.Attribute o f pos')) pos.line X.env=pure false):PS X (.Assign [.Attribute o f pos'] value pos) (yw X.K ta tv f):=by
 intro pins s σ H D I h
 refine plainObj_wpAny_Assign_Attribute (aP (hv pins s σ H _ I h) fun u s1 ⟨y,H1,I1,ry,q⟩=>aP (ha pins s1 σ H1 _ I1 q) fun ov s2 zS=>?_) hs
 obtain⟨x,H2,I2,rx,a,C,tt,ex,ea,c,n,q2⟩:=zS
 subst ex
 obtain rfl:ov=Value.ref a:=rx
 have ho:s2.heap.get? a=some (cS C tt none):=(I2.zV a _ ea).1
 have AG:a < s2.heap.objs.size:=lt_size ho
 refine lQ I2.AQ ho c n fun h' t' Ct CI hk=>⟨σ,_,?_,q2 s2.heap.objs.size (I2.zV.fresh (Nat.le_refl _))⟩
 obtain⟨od,es,ep,Ei,r⟩:=id CI
 have DV:od.isFreed=false:=(Heap.get?_some_iff.mp Ei).2
 have Dd:(s2.heap.push od).get? s2.heap.objs.size=some od:=Heap.get?_push_size s2.heap DV
 have I3:=I2.laid (a:=s2.heap.objs.size) (o := .ext (KW s2.heap.objs.size [(f,y)])) (h':=s2.heap.push od) (t':=s2.toks) (fun b u z=>Heap.get?_push_of_some _ z) (Nat.le_refl _)
  (xC ⟨_,CI.at (fun o z=>by rw[Ei]at z;cases z;exact Dd),fun g=>by
   by_cases hg:g=f
   ·have hb:(g == f)=true:=beq_iff_eq.mpr hg
    simp only[List.lookup,hb,if_pos hg]
    exact ry
   ·have hb:(g == f)=false:=beq_eq_false_iff_ne.mpr hg
    simp only[List.lookup,hb,if_neg hg]
    trivial⟩)
 have Ay:a ≠ s2.heap.objs.size:=ne_of_lt AG
 refine I3.write (x:=a) (e:=a) (h':=h') (t':=t') (by rw[ae Ay,ea];exact True.intro) (.inl rfl) (fun b u hb z=>?_) ⟨_,Ct⟩ (jB Ct)
 by_cases KR:b=s2.heap.objs.size
 ·subst KR
  have z':(s2.heap.push od).get? s2.heap.objs.size=some u:=z
  rw[Dd]at z'
  cases z'
  exact Ei
 ·have z':s2.heap.get? b=some u:=by
   have z0:(s2.heap.push od).get? b=some u:=z
   exact(Heap.get?_push_cases z0).elim (fun w=>absurd w.1 KR) fun w=>w
  exact hk b u hb z'
theorem tO (ha:PE X o ta)(hv:PE X value tv)(hs:swapsWith value (some (.Attribute o f pos')) pos.line X.env=pure false):PS X (.Assign [.Attribute o f pos'] value pos) (yu X.K ta tv f):=by
 intro pins s σ H D I h
 refine plainObj_wpAny_Assign_Attribute (aP (hv pins s σ H _ I h) fun u s1 ⟨y,H1,I1,ry,q⟩=>aP (ha pins s1 σ H1 _ I1 q) fun ov s2 zS=>?_) hs
 obtain⟨x,H2,I2,rx,a,C,tt,d,fs,ex,ea,ed,VQ,c,n,q2⟩:=zS
 subst ex
 obtain rfl:ov=Value.ref a:=rx
 have ho:s2.heap.get? a=some (cS C tt (some d)):=(I2.zV a _ ea).1
 obtain⟨⟨mA,hn,hr⟩,_⟩:=I2.zV d _ ed
 have hw:PySem.Within mA (fs.map (·.1)):=fun g hg=>by
  have r:=hr g
  cases hl:fs.lookup g with
  | none=>rw[hl]at r;cases hm:mA g with
   | none=>exact absurd hm hg
   | some z=>rw[hm]at r;exact r.elim
  | some z =>
   have:∀ {l:List (Str × V)},l.lookup g=some z->g ∈ l.map (·.1):=by
    intro l
    induction l with
    | nil=>intro h;cases h
    | cons p l ih =>
     intro h
     rw[map_cons,mem_cons]
     by_cases e:g=p.1
     ·exact .inl e
     ·have hb:(g == p.1)=false:=beq_eq_false_iff_ne.mpr e
      obtain⟨p1,p2⟩:=p
      simp only[List.lookup,hb]at h
      exact .inr (ih h)
   exact this hl
 refine sM I2.AQ ho hn hw (by rw[length_map,sizeLine_eq];omega) c n fun h' t' CI hk=>⟨σ,_,?_,q2⟩
 refine I2.write (x:=d) (e:=d) (h':=h') (t':=t') (by rw[ed];exact True.intro) (.inl rfl) (fun b u hb z=>?_) ?_ ⟨_,CI,fun g=>?_⟩
 ·exact(hk b hb).trans z
 ·obtain⟨od,_,_,Ei,_⟩:=CI
  exact⟨od,Ei⟩
 ·rw[fz]
  by_cases e:g=f
  ·rw[if_pos e];simp only[if_pos e];exact ry
  ·rw[if_neg e];simp only[if_neg e];exact hr g
end
end L2
namespace L2
open PySem
noncomputable def qf:Option Int->Value->Bool
 | none,v=>v == .none
 | some k,v=>Value.isInt k v
noncomputable def vQ:Option Int->Int
 | none=>4238894112
 | some k=>hashInt k
theorem bQ {k:Option Int}{v:Value}(h:qf k v=true):(k=none/\v = .none)∨∃ i t,k=some i/\v = .int i t:=by
 cases k with
 | none=>exact .inl ⟨rfl,eq_of_beq h⟩
 | some i=>obtain⟨t,e⟩:=Value.isInt_shape h;exact .inr ⟨i,t,rfl,e⟩
section
variable {prog:Program}{w:World}{A:Around}{E:Value->Shared->Prop}{s:Shared}
theorem rj {Q:Int->Shared->Prop}(h:Q 4238894112 { s with toks:=s.toks + 1 }):wpAny (model prog w) A (pyHash .none) Q E s:=by
 have hT:s.TypeIs .none "NoneType":=rfl
 unfold pyHash
 have hv:[Value.none].any Value.onHeap=false:=rfl
 refine wpAny_bind ?_
 rw[cRoomFor,if_neg (by rw[hv];exact Bool.false_ne_true)];refine wpAny_pure ?_
 refine wpAny_bind (wpAny_specialOf hT F.slot_NoneType_hash.lookup ?_)
 show wpAny _ _ (if (some (Value.builtin "NoneType.__hash__") == some Value.none)=true then _ else _) Q E s
 rw[if_neg (by rw[beq_builtin_none];exact Bool.false_ne_true)]
 refine wpAny_bind (wpAny_specialOf hT F.slot_NoneType_hash.lookup ?_)
 show wpAny _ _ (callSpecialIfBoundUnlessNone? .none "__hash__" _ >>= _) Q E s
 refine wpAny_bind (wpAny_callSpecialIfBoundUnlessNone?_slot hT F.slot_NoneType_hash (wpAny_call_entry F.slot_NoneType_hash hT F.entry_NoneType_hash
  (show wpAny _ _ (do ret (← mkInt 4238894112)) _ _ s from wpAny_ret_mkInt ?_) (F.args_NoneType_hash_1 _)))
 exact wpAny_pure h
theorem zt {a b:Option Int}{u v:Value}{Q:Bool->Shared->Prop}(hu:qf a u=true)(hv:qf b v=true)(h:Q (decide (a=b)) s):wpAny (model prog w) A (PySem.eqBool u v) Q E s:=by
 rcases bQ hu with ⟨rfl,rfl⟩ | ⟨i,t,rfl,rfl⟩<;>rcases bQ hv with ⟨rfl,rfl⟩ | ⟨j,t',rfl,rfl⟩
 ·unfold eqBool
  refine wpAny_holding ?_
  refine wpAny_ite_split (fun _=>wpAny_bind (wpAny_rule (wpAny_pure (by simpa using h)))) (fun n=>absurd rfl n)
 ·exact PySem.SeqAt.EqAt.none_int j t' prog w E Q (by simpa using h)
 ·exact PySem.SeqAt.EqAt.int_none i t prog w E Q (by simpa using h)
 ·refine wpAny_eqBool_int ?_
  have e:(i == j)=decide (some i=some j):=by
   by_cases q:i=j
   ·simp[q]
   ·simp[q]
  rw[e];exact h
end
noncomputable def fK (prog:Program)(w:World):KeyKind prog w (Option Int) where
 is:=qf
 hash:=vQ
 inj:=fun v a b ha hb=>by
  rcases bQ ha with ⟨rfl,rfl⟩ | ⟨i,t,rfl,rfl⟩<;>rcases bQ hb with ⟨rfl,e⟩ | ⟨j,t',rfl,e⟩
  ·rfl
  ·cases e
  ·cases e
  ·cases e;rfl
 byValue:=fun k v h=>by
  rcases bQ h with ⟨_,rfl⟩ | ⟨i,t,_,rfl⟩<;>rfl
 pyHash:=fun {A E s k v Q} hv h=>by
  rcases bQ hv with ⟨rfl,rfl⟩ | ⟨i,t,rfl,rfl⟩
  ·exact rj h
  ·exact wpAny_pyHash_int h
 eqBool:=fun hu hv h=>zt hu hv h
 «strs»:=fun k x t v h=>by
  rcases bQ h with ⟨_,e⟩ | ⟨i,t,_,e⟩<;>cases e
open PySem.Spec PyProof.Rows
abbrev fX:=List (Option Int)
noncomputable def rH:Option Int->V
 | none => .Af
 | some i => .int i
abbrev dH:=fX × Addr × V
abbrev jI (p:dH)(q:fX × Addr × Value):Prop:=p.1=q.1/\p.2.1=q.2.1/\RelV p.2.2 q.2.2
noncomputable def zN (P:Program)(w:World)(a:Addr)(kvs:List dH):Heap->Prop:=fun h=>kvs.length <= sizeLine/\(a == sysModules)=false/\∃ xs,Paired jI kvs xs /\
 ∃ o es ep,h.get? a=some o/\o.ExactDict/\o.data = .dict es ep/\es.toList=xs.map (entryOfKey (tupleKind (fK P w)))/\(xs.map (·.1)).Nodup
noncomputable def jJ (P:Program)(w:World)(a:Addr)(kvs:List dH):HO := .ext (zN P w a kvs)
noncomputable def AI (P:Program)(w:World)(H:Hp)(a:Addr)(kvs:List dH):Prop:=H a=some (jJ P w a kvs)/\∀ x ∈ kvs,H x.2.1=some (.tup (x.1.map rH))
theorem AI.same {P:Program}{w:World}{H H':Hp}{a:Addr}{kvs:List dH}(h:AI P w H a kvs)(s:zO H H'):AI P w H' a kvs:=⟨s _ _ h.1,fun x hx=>s _ _ (h.2 x hx)⟩
noncomputable def bY (kvs:List dH)(k:fX):Option V:=(kvs.find? fun x=>decide (x.1=k)).map (·.2.2)
noncomputable def qH (k:fX)(v:V)(x:dH):dH:=if x.1=k then (x.1,x.2.1,v) else x
noncomputable def eW (kvs:List dH)(k:fX)(b:Addr)(v:V):List dH:=if (bY kvs k).isSome then kvs.map (qH k v) else kvs ++ [(k,b,v)]
theorem jc {k:fX}:bY [] k=none:=rfl
theorem cb {x:dH}{kvs:List dH}{k:fX}:bY (x :: kvs) k=if x.1=k then some x.2.2 else bY kvs k:=by
 unfold bY
 rw[find?_cons]
 by_cases h:x.1=k
 ·rw[decide_eq_true h,if_pos h];rfl
 ·rw[decide_eq_false h,if_neg h]
theorem rN {kvs:List dH}{k k':fX}{v:V}:bY (kvs.map (qH k v)) k' = if k' = k then (bY kvs k).map (fun _=>v) else bY kvs k':=by
 induction kvs with
 | nil=>rw[map_nil,jc,jc];split<;>rfl
 | cons x kvs ih =>
  rw[map_cons,cb,ih,cb,cb]
  unfold qH
  by_cases h:x.1=k<;>by_cases h':k' = k
  ·have:x.1=k':=h.trans h'.symm
   simp[h,h']
  ·have:¬ x.1=k':=fun z=>h' (z.symm.trans h)
   rw[if_pos h,if_neg h',if_neg this,if_neg this,if_neg h']
  ·subst h'
   simp[h]
  ·simp[h,h']
theorem lM {kvs:List dH}{k k':fX}{b:Addr}{v:V}(h:bY kvs k=none):bY (kvs ++ [(k,b,v)]) k' = if k' = k then some v else bY kvs k':=by
 induction kvs with
 | nil =>
  rw[List.nil_append,cb,jc]
  by_cases e:k' = k
  ·rw[if_pos e,if_pos e.symm]
  ·rw[if_neg e,if_neg (Ne.symm e)]
 | cons x kvs ih =>
  rw[cb]at h
  by_cases hx:x.1=k
  ·rw[if_pos hx]at h;cases h
  ·rw[if_neg hx]at h
   rw[List.cons_append,cb,ih h,cb]
   by_cases e:k' = k
   ·subst e;rw[if_neg hx,if_pos rfl,if_pos rfl]
   ·rw[if_neg e,if_neg e]
theorem gw {kvs:List dH}{k k':fX}{b:Addr}{v:V}:bY (eW kvs k b v) k' = if k' = k then some v else bY kvs k':=by
 unfold eW
 cases h:bY kvs k with
 | none=>rw[if_neg (by simp)];exact lM h
 | some u =>
  rw[if_pos (by simp),rN,h];rfl
theorem eV {kvs:List dH}{k:fX}{b:Addr}{v:V}:(eW kvs k b v).length <= kvs.length + 1:=by
 unfold eW
 split
 ·rw[length_map];omega
 ·rw[length_append];exact Nat.le_refl _
theorem jY {kvs:List dH}{k:fX}{b:Addr}{v:V}{F:fX->Addr->Prop}(h:∀ x ∈ kvs,F x.1 x.2.1)(hk:F k b):∀ x ∈ eW kvs k b v,F x.1 x.2.1:=by
 intro x hx
 unfold eW at hx
 split at hx
 ·obtain⟨y,hy,rfl⟩:=mem_map.mp hx
  unfold qH
  split
  ·exact h y hy
  ·exact h y hy
 ·rcases mem_append.mp hx with q | q
  ·exact h x q
  ·rw[mem_singleton.mp q];exact hk
theorem lE {kvs:List dH}{xs:List (fX × Addr × Value)}(r:Paired jI kvs xs)(k:fX):AK (bY kvs k) ((atKey xs k).map (·.2)):=by
 induction r with
 | nil=>exact True.intro
 | @cons p q _ _ h1 _ ih =>
  rw[cb]
  unfold atKey at ih ⊢
  rw[find?_cons]
  by_cases e:p.1=k
  ·rw[if_pos e,decide_eq_true (h1.1.symm.trans e)];exact h1.2.2
  ·rw[if_neg e,decide_eq_false (fun z=>e (h1.1.trans z))];exact ih
theorem i8 {o:Option V}{u:Option Value}(r:AK o u):o.isSome=u.isSome:=by
 cases o<;>cases u<;>first | rfl | exact r.elim
theorem qG {o:Option V}{u:Option Value}{d:V}{r:Value}(h:AK o u)(hd:RelV d r):RelV (o.getD d) (u.getD r):=by
 cases o<;>cases u<;>first | exact hd | exact h | exact h.elim
theorem wS {kvs:List dH}{xs:List (fX × Addr × Value)}{k:fX}{v:V}{u:Value}(r:Paired jI kvs xs)(hv:RelV v u):Paired jI (kvs.map (qH k v)) (xs.map (putAt k u)):=by
 induction r with
 | nil=>exact .nil
 | @cons p q _ _ h1 _ ih =>
  refine .cons ?_ ih
  unfold qH putAt
  by_cases e:p.1=k
  ·rw[if_pos e,if_pos (h1.1.symm.trans e)];exact⟨h1.1,h1.2.1,hv⟩
  ·rw[if_neg e,if_neg (fun z=>e (h1.1.trans z))];exact h1
theorem uJ {kvs:List dH}{xs:List (fX × Addr × Value)}{p:dH}{q:fX × Addr × Value}(r:Paired jI kvs xs)(h:jI p q):Paired jI (kvs ++ [p]) (xs ++ [q]):=by
 induction r with
 | nil=>exact .cons h .nil
 | cons h1 _ ih=>exact .cons h1 ih
theorem wR {kvs:List dH}{xs:List (fX × Addr × Value)}{k:fX}{b:Addr}{v:V}{u:Value}(r:Paired jI kvs xs)(hv:RelV v u):Paired jI (eW kvs k b v) (storedH xs k b u):=by
 have h:=i8 (lE r k)
 rw[Option.isSome_map]at h
 unfold eW storedH
 rw[h]
 split
 ·exact wS r hv
 ·exact uJ r ⟨rfl,rfl,hv⟩
section
variable {P:Program}{w:World}{H:Hp}{h:Heap}{a b:Addr}{kvs:List dH}{k:fX}
theorem io:∀ {k:fX}{us:List Value},Vals (k.map rH) us->ItemsAre (fK P w) k us
 | [],_, .nil => .nil
 | none :: _,_, .cons r t => .cons (by have e:_=Value.none:=r;subst e;rfl) (io t)
 | some i :: _,_, .cons r t => .cons (by obtain⟨tk,e⟩:=(show ∃ t,_=Value.int i t from r);subst e;exact beq_self_eq_true i) (io t)
theorem iT (ok:AY P w H h)(e:H b=some (.tup (k.map rH))):(tupleKind (fK P w)).is h k b:=by
 obtain⟨_,zT,r,o,ho,⟨hc,n,hd⟩,_⟩:=ok _ _ e
 exact⟨o,zT.toArray,n,ho,hc,hd,io r⟩
theorem iY (ok:AY P w H h)(e:AI P w H a kvs):kvs.length <= sizeLine/\(a == sysModules)=false/\∃ xs,Paired jI kvs xs/\h.DictOfH (tupleKind (fK P w)) a xs:=by
 obtain⟨e,ek⟩:=e
 obtain⟨⟨z,hs,xs,r,o,es,ep,h1,h2,h3,h4,h5⟩,_⟩:=ok _ _ e
 refine⟨z,hs,xs,r,o,es,ep,h1,h2,h3,h4,?_,h5⟩
 have all:∀ {kvs:List dH}{xs:List (fX × Addr × Value)},Paired jI kvs xs->(∀ x ∈ kvs,H x.2.1=some (.tup (x.1.map rH)))->∀ x ∈ xs,(tupleKind (fK P w)).is h x.1 x.2.1:=by
  intro kvs xs r
  induction r with
  | nil=>intro _ x hx;cases hx
  | @cons p q _ _ h1 _ ih =>
   intro hk x hx
   rcases mem_cons.mp hx with rfl | hx
   ·have:=hk p mem_cons_self
    rw[h1.1,h1.2.1]at this
    exact iT ok this
   ·exact ih (fun y hy=>hk y (mem_cons_of_mem _ hy)) x hx
 exact all r ek
theorem kE (h1 h2:Heap)(p:zN P w a kvs h1)(st:∀ o,h1.get? a=some o->h2.get? a=some o):zN P w a kvs h2:=by
 obtain⟨z,hs,xs,r,o,es,ep,q,c⟩:=p
 exact⟨z,hs,xs,r,o,es,ep,st _ q,c⟩
theorem uO (hb:sysModules < h.objs.size):Ag P w H (h.push { cls := .type "dict",data := .dict #[] }) h.objs.size (jJ P w h.objs.size []) :=
 ⟨⟨zero_le _,beq_eq_false_iff_ne.mpr (Ne.symm (ne_of_lt hb)),[], .nil,_,#[],0,Heap.get?_push_size _ rfl,⟨rfl,rfl,rfl⟩,rfl,rfl,nodup_nil⟩,⟨_,Heap.get?_push_size _ rfl⟩,fun _ _=>kE _ _⟩
end
noncomputable def xg (P:Program)(w:World)(H:Hp)(a:Addr)(y:V)(r:Option V):Prop:=∃ kvs k b,AI P w H a kvs/\y = .ref b/\H b=some (.tup (k.map rH))/\r=bY kvs k
section
variable {X:Cx}{pins:List (Addr × Obj)}{σ:St}{H:Hp}{s:Shared}{a b:Addr}{y v d:V}{u r:Value}{o:Option V}{A:Around}{E:Value->Shared->Prop}
theorem zG (I:Inv X pins σ H s):sysModules < s.heap.objs.size :=
 lt_trans (by decide) (show mainGlobals < s.heap.objs.size from (I.mod.glob.keeps I.bk).lt)
theorem QW {Q:Value->Shared->Prop}(hu:A.units + 1 < cLine)(I:Inv X pins σ H s)(g:xg X.prog X.w H a y o)(ry:RelV y u)(h:∀ s',Inv X pins σ H s'->Q (.bool o.isSome) s') :
  wpAny (model X.prog X.w) A (compareOp .In u (.ref a)) Q E s:=by
 obtain⟨kvs,k,b,e,rfl,eb,rfl⟩:=g
 cases (show u=Value.ref b from ry)
 obtain⟨_,hd,xs,rel,dd⟩:=iY I.zV e
 refine wpAny_in_heap (tupleKind_room_in1 hu) (iT I.zV eb) hd dd ?_
 have q:=i8 (lE rel k)
 rw[Option.isSome_map]at q
 rw[← q]
 exact h _ (I.tok _)
theorem yX {Q:Value->Shared->Prop}(hu:A.units + 1 < cLine)(I:Inv X pins σ H s)(g:xg X.prog X.w H a y o)(ry:RelV y u)(rd:RelV d r)(h:∀ w' s',Inv X pins σ H s'->RelV (o.getD d) w'->Q w' s') :
  wpAny (model X.prog X.w) A (call (.builtin "dict.get") [.ref a,u,r]) Q E s:=by
 obtain⟨kvs,k,b,e,rfl,eb,rfl⟩:=g
 cases (show u=Value.ref b from ry)
 obtain⟨_,hd,xs,rel,dd⟩:=iY I.zV e
 exact call_meetsIn slot_dict_get dd.typeIs entry_dict_get (PySem.F.args_dict_get_3 _ _ _) (meetsH_dict_get_default (tupleKind (fK X.prog X.w)) a b hd r)
  ⟨tupleKind_room_in1 hu,k,xs,iT I.zV eb,dd,h _ _ (I.tok _) (qG (lE rel k) rd)⟩
theorem KY {kvs:List dH}{k:fX}{Q:Unit->Shared->Prop}(hu:A.units + 1 < cLine)(I:Inv X pins σ H s)(e:AI X.prog X.w H a kvs)(eb:H b=some (.tup (k.map rH)))(hl:kvs.length < sizeLine)(rv:RelV v r)
  (h:∀ s',Inv X pins σ (upd H a (jJ X.prog X.w a (eW kvs k b v))) s'->Q () s'):wpAny (model X.prog X.w) A (setItem (.ref a) (.ref b) r) Q E s:=by
 obtain⟨z,hd,xs,rel,dd⟩:=iY I.zV e
 have hz:xs.length <= sizeLine:=by rw[← Paired.length rel];exact z
 have Dv:(eW kvs k b v).length <= sizeLine:=le_trans eV hl
 refine wpAny_setItem_heap (hsz:=hz) (tupleKind_room_in1 hu) (iT I.zV eb) dd fun h' Fz hs=>h _ ?_
 obtain⟨q,es,ep,hq,h2,h3,h4,_,h5⟩:=Fz
 exact I.write (x:=a) (e:=a) (by rw[e.1];exact True.intro) (.inl rfl) (fun c q hc z=>(hs.2 c hc).trans z) ⟨q,hq⟩
  ⟨⟨Dv,hd,_,wR rel rv,q,es,ep,hq,h2,h3,h4,h5⟩,⟨q,hq⟩,fun _ _=>kE _ _⟩
theorem rq {kvs:List dH}(I:Inv X pins σ H s)(e:AI X.prog X.w H a kvs):s.TypeIs (.ref a) "dict"/\∀ b,Value.ref a = .ref b->∃ ob,s.heap.get? b=some ob/\ob.dict=none:=by
 obtain⟨_,_,xs,_,dd⟩:=iY I.zV e
 refine⟨dd.typeIs,fun b q=>?_⟩
 cases q
 obtain⟨ob,_,_,h1,h2,_⟩:=dd
 exact⟨ob,h1,h2.2.1⟩
end
noncomputable def rR (P:Program)(w:World):TE:=fun _ H Q=>∀ p,H p=none->Q (.ref p) (upd H p (jJ P w p []))
noncomputable def QX (P:Program)(w:World)(ty td:TE):TE:=fun σ H Q=>ty σ H fun y H1=>td σ H1 fun x H2=>∃ a o,x = .ref a/\xg P w H2 a y o/\Q (.bl o.isSome) H2
noncomputable def KZ (P:Program)(w:World)(td ty tv:TE):TS:=fun D σ H=>tv σ H fun v H1=>td σ H1 fun x H2=>ty σ H2 fun y H3=>∃ a kvs k b,x = .ref a/\AI P w H3 a kvs/\y = .ref b/\H3 b=some (.tup (k.map rH))/\kvs.length < sizeLine/\D.nx σ (upd H3 a (jJ P w a (eW kvs k b v)))
noncomputable def xP (P:Program)(w:World)(td:TE)(t:TA):TE:=fun σ H Q=>td σ H fun x H1=>∃ a kvs,x = .ref a/\AI P w H1 a kvs/\t σ H1 fun xs H2=>∃ y z o,xs=[y,z]/\xg P w H2 a y o/\Q (o.getD z) H2
section
variable {X:Cx}{o i e f value:Expr}{pos pos' apos AH:Pos}{td ty tv tx:TE}
theorem pJ:PE X (.Dict [] [] pos) (rR X.prog X.w):=fun pins s σ H Q I h =>
 wpAny_Dict_empty ⟨.ref s.heap.objs.size,_,I.laid (a:=s.heap.objs.size) (o:=jJ X.prog X.w s.heap.objs.size []) (t':=s.toks) (fun _ _ q=>Heap.get?_push_of_some _ q) (Nat.le_refl _) (uO (zG I)),rfl,h _ (I.zV.fresh (Nat.le_refl _))⟩
theorem y8 (hu:X.A.units + 1 < cLine)(hi:PE X i ty)(ho:PE X o td):PC X .In i o (QX X.prog X.w ty td):=by
 intro pins s σ H Q I h
 refine aP (hi pins s σ H _ I h) fun iv s1 ⟨y,H1,I1,ry,q1⟩=>aP (ho pins s1 σ H1 _ I1 q1) fun u s2 zS=>?_
 obtain⟨x,H2,I2,rx,a,ov,ex,g,q2⟩:=zS
 subst ex
 obtain rfl:u=Value.ref a:=rx
 exact QW hu I2 g ry fun s3 I3=>⟨.bl ov.isSome,H2,I3,rfl,q2⟩
theorem pI (hu:X.A.units + 1 < cLine)(ho:PE X o td)(hi:PE X i ty)(hv:PE X value tv)(hs:swapsWith value (some (.Subscript o i pos')) pos.line X.env=pure false) :
  PS X (.Assign [.Subscript o i pos'] value pos) (KZ X.prog X.w td ty tv):=by
 intro pins s σ H D I h
 refine wpAny_Assign_Subscript (aP (hv pins s σ H _ I h) fun r s1 ⟨v,H1,I1,rv,q1⟩=>aP (ho pins s1 σ H1 _ I1 q1) fun u s2 ⟨x,H2,I2,rx,q2⟩=>aP (hi pins s2 σ H2 _ I2 q2) fun iv s3 zS=>?_) hs
 obtain⟨y,H3,I3,ry,a,kvs,k,b,ex,e,ey,eb,hl,q3⟩:=zS
 subst ex ey
 obtain rfl:u=Value.ref a:=rx
 obtain rfl:iv=Value.ref b:=ry
 exact KY hu I3 e eb hl rv fun s4 I4=>⟨σ,_,I4,q3⟩
theorem m5 {es:List Expr}{t:TA}(hu:X.A.units + 1 < cLine)(ho:PE X o td)(ha:PA X (e :: es) t)
  (h1:autoParam (attributeBase o "get" X.env (eval o X.env)=eval o X.env) η)
  (h2:autoParam (((backTo AH (starEach (e :: es) X.env)).all (fun x=>!x.1) && (backToKw AH (keywordEach [] X.env)).all (fun x=>x.1.isSome) && decide ((e :: es).length + ([]:List Keyword).length + (if ([]:List Keyword).isEmpty then 0 else 1) < 30))=true) η)
  (h3:autoParam ((apos.endLine == AH.line)=true) η) (h4:autoParam (starEach (e :: es) X.env=(false,eval e X.env) :: starEach es X.env) η) (h5:autoParam ((backTo AH (starEach es X.env)).any (·.1)=false) η) :
  PE X (.Call (.Attribute o "get" apos) (e :: es) [] AH) (xP X.prog X.w td t):=by
 intro pins s σ H Q I h
 refine wpAny_Call_method_late h1 h2 h3 rfl (aP (ho pins s σ H _ I h) fun v s1 zS=>?_)
 obtain⟨x,H1,I1,r1,a,kvs,ex,e1,q1⟩:=zS
 subst ex
 obtain rfl:v=Value.ref a:=r1
 obtain⟨t1,t2⟩:=rq I1 e1
 refine⟨"dict", "dict.get",PySem.F.plainAttrs_dict,slot_dict_get,PySem.F.type_dict_get,t1,t2,?_⟩
 have hA:=ha AH pins s1 σ H1 _ I1 q1
 rw[h4]at hA ⊢
 refine Calls.callWith_builtin (by show(false || (backTo AH (starEach es X.env)).any (·.1))=false;rw[h5]<;>rfl) (Calls.evalArgs_plain ?_)
 refine aP hA fun us s2 zS=>?_
 obtain⟨vs,H2,I2,r2,y,z,ov,evs,g,q2⟩:=zS
 subst evs
 cases r2 with
 | cons ry r2=>cases r2 with
  | cons rz r2=>cases r2 with
   | nil=>exact yX hu I2 g ry rz fun w' s4 I4 CT=>⟨_,H2,I4,CT,q2⟩
end
structure ve (K:Frag)(C:Addr)(m:Str)(f:Addr):Prop where
 reads:PySem.W.readsIn K C (.type "type")=true
 found:PySem.W.findCls K (.ref C) (.type "type") m=some (.val (.ref f))
 spec:PySem.W.specialIn K (.ref C) "__getattribute__" = some (some (.builtin "type.__getattribute__"))
 kp:keepIn K (.ref f)=true
noncomputable def xW (C:Addr)(sp:Sp)(Aw:List V)(E:XK)(ta:TE)(t:TA):TE:=fun σ H Q=>ta σ H fun x H1=>x = .ref C/\t σ H1 fun vs H2=>sp (vs ++ Aw) H2 Q E
section
variable {X:Cx}{CX:lJ}{k:Nat}{f C:Addr}{fd:FuncData}{ps:List Str}{sp:Sp}{Aw:List V}{ds:List Value}{E:XK}{x m:Str}{p pos apos:Pos}{e o:Expr}{es:List Expr}{ta:TE}{t:TA}
theorem m6 {pl:Sem Bool}(he:PE X o ta)(hm:ve X.K C m f)(F:zP X.prog X.w X.K X.mg X.base CX k f fd ps sp)(hr:zZ k X.A)(hb:Binds X.K fd ps ds)(hd:Vals Aw ds)(hx:cx CX X E)(ha:PA X (e :: es) t)
  (h1:autoParam (starEach (e :: es) X.env=(false,eval e X.env) :: starEach es X.env) η) (h2:autoParam ((backTo pos (starEach es X.env)).any (·.1)=false) η)
  (ht:eval (.Call (.Attribute o m apos) (e :: es) [] pos) X.env=(do
   let ov ← eval o X.env
   standAt apos.atName
   let (f,first) ← holding [ov] (getMethod ov m pl)
   callWith pos f first (backTo pos (starEach (e :: es) X.env)) (backToKw pos (keywordEach [] X.env))):=by rfl) :
  PE X (.Call (.Attribute o m apos) (e :: es) [] pos) (xW C sp Aw E ta t):=by
 intro pins s σ H Q I h
 refine PySem.W.methodCall_KW (pl:=pl) (aP (he pins s σ H _ I h) fun u s1 zS=>?_) ht
 obtain⟨x,H1,I1,rx,ex,q⟩:=zS
 subst ex
 obtain rfl:u=Value.ref C:=rx
 refine PySem.W.method_cls I1.AQ hm.spec (PySem.W.cls_value I1.AQ hm.reads hm.found rfl ?_)
 refine PySem.W.callWith_K (first:=[]) (h₀:=X.base) I.ok.mod.CH hm.kp (aP (ha pos pins _ σ H1 _ (I1.tok _) q) fun us s2 ⟨vs,H2,I2,r,q2⟩=>⟨I2.AQ,?_⟩) h1 h2
 exact jo F hr hb hd hx I2 r q2
end
section
variable {X:Cx}
end
section
variable {X:Cx}{tg:Expr}
noncomputable def QY:V->List V->Hp->VK->Prop:=fun x vs H Q=>∃ (l:Addr)(ns:List Int)(k:Int),x = .ref l/\vs=[.int k]/\H l=some (.lst (ns.map V.int))/\k ∈ ns/\ns.length <= 100000/\Q (.int (ns.idxOf k:Nat)) H
theorem qW:OA X "list.index" QY:=by
 intro pins s σ H x vs v us Q I rx rv h
 obtain⟨l,ns,k,rfl,rfl,hH,hk,hlen,q⟩:=h
 cases rx
 obtain⟨u,rfl,ru⟩:=rv.one
 obtain⟨t,rfl⟩:=ru
 obtain⟨z,zT,n,r,hl,e⟩:=I.Ds hH
 have hi:IntsAre zT.toArray.toList ns:=oY r
 have De:zT.length=ns.length:=by rw[← r.length,length_map]
 have hj:ns.idxOf k < ns.length:=List.idxOf_lt_length_of_mem hk
 have at_:∀ m (hm:m < zT.toArray.size),∃ t,zT.toArray[m]=Value.int (ns[m]'(by simpa [De] using hm)) t:=fun m hm=>by
  have GA:m < zT.length:=by simpa using hm
  have hv:(ns.map V.int)[m]? = some (V.int (ns[m]'(by omega))):=by simp[show m < ns.length by omega]
  obtain⟨w',hw,CT⟩:=r.get hv
  obtain⟨t',rfl⟩:=CT
  refine⟨t',?_⟩
  have:zT[m]? = some zT[m]:=getElem?_eq_getElem GA
  rw[this]at hw
  simpa using Option.some.inj hw
 let e':Value->Bool:=fun y=>Value.isInt k y
 refine call_meets PySem.F.slot_list_index ⟨_,e,rfl⟩ PySem.F.entry_list_index (PySem.F.args_list_index_2 _ _)
  (SeqAt.list_indexAt l zT.toArray n none #[] (.int k t) e' (ns.idxOf k) (by simpa [De] using hj) (by omega) ?_ ?_) ⟨e,fun y hy=>?_,?_⟩
 ·obtain⟨t',et⟩:=at_ (ns.idxOf k) (by simpa [De] using hj)
  show Value.isInt k (zT.toArray[ns.idxOf k]'(by simpa [De] using hj))=true
  rw[et,List.getElem_idxOf]
  simp[Value.isInt]
 ·intro m hm hmj
  obtain⟨t',et⟩:=at_ m hm
  show Value.isInt k zT.toArray[m]=false
  rw[et]
  have Ay:ns[m]'(by simpa [De] using hm) ≠ k:=fun z=>by
   have:=List.not_of_lt_findIdx (p:=fun x=>x == k) (xs:=ns) (i:=m) hmj
   rw[z]at this
   simp at this
  simp only[Value.isInt,beq_eq_false_iff_ne,ne_eq]
  first | exact Ay | exact fun z=>Ay z.symm
 ·have hm:y ∈ zT:=by simpa using hy
  obtain⟨m,GA,em⟩:=getElem_of_mem hm
  obtain⟨t',et⟩:=at_ m (by simpa using GA)
  have ey:y=Value.int (ns[m]'(by omega)) t':=by rw[← em];simpa using et
  subst ey
  intro prog w E Q' hQ'
  refine wpAny_eqBool_int ?_
  have:(ns[m]'(by omega) == k)=Value.isInt k (Value.int (ns[m]'(by omega)) t'):=by simp[Value.isInt,Bool.beq_comm]
  rw[this]
  exact hQ'
 ·exact⟨.int (ns.idxOf k:Nat),H,I.tok _,⟨_,rfl⟩,q⟩
noncomputable def La (K:Frag):List V->Hp->VK->Prop:=fun xs H Q=>∃ (v:V)(t:Value)(c:String)(b:Bool),xs=[v, .ty c]/\i7 K H v t/\kitOne K t (.type c)=some b/\Q (.bl b) H
theorem hZ:dv X (.builtin "isinstance") (La X.K):=by
 intro pins s σ H xs us Q I r h
 obtain⟨v,t,c,b,rfl,ty,hk,q⟩:=h
 cases r with
 | cons r1 r2=>cases r2 with
  | cons r2 r3 =>
   cases r3
   cases r2
   exact rf I r1 ty hk fun tk=>⟨.bl b,H,I.tok _,rfl,q⟩
end
section
variable {κ:Type} [DecidableEq κ]
noncomputable def gs (kvs:List (κ × V))(k:κ):Option V:=(kvs.find? fun kv=>decide (kv.1=k)).map (·.2)
noncomputable def c3 (kvs:List (κ × V))(k:κ)(v:V):List (κ × V) :=
 if (kvs.any fun kv=>decide (kv.1=k))=true then kvs.map (fun kv=>if kv.1=k then (kv.1,v) else kv) else kvs ++ [(k,v)]
theorem iZ {p:κ × V}{r:List (κ × V)}{k:κ}(e:p.1=k):gs (p :: r) k=some p.2:=by simp[gs,find?_cons,e]
theorem ja {p:κ × V}{r:List (κ × V)}{k:κ}(e:¬ p.1=k):gs (p :: r) k=gs r k:=by simp[gs,find?_cons,e]
theorem jb (k:κ):∀ kvs:List (κ × V),(kvs.any fun kv=>decide (kv.1=k))=(gs kvs k).isSome
 | []=>rfl
 | p :: r=>by
  rw[any_cons]
  by_cases e:p.1=k
  ·simp only[iZ e,decide_eq_true e,Bool.true_or,Option.isSome_some]
  ·rw[ja e,decide_eq_false e,Bool.false_or];exact jb k r
theorem fA (kvs:List (κ × V))(k:κ)(v:V):(c3 kvs k v).length <= kvs.length + 1:=by
 unfold c3
 split
 ·rw[length_map];omega
 ·rw[length_append,length_cons,length_nil];omega
theorem tL {kvs:List (κ × V)}{k:κ}(v:V)(h:gs kvs k=none):c3 kvs k v=kvs ++ [(k,v)]:=by
 unfold c3
 rw[jb,h]
 exact if_neg (by decide)
theorem AK.B8 {o:Option V}{u:Option Value}(r:AK o u):o.isSome=u.isSome:=by
 cases o with
 | none=>cases u with
  | none=>rfl
  | some _=>exact(show False from r).elim
 | some _=>cases u with
  | none=>exact(show False from r).elim
  | some _=>rfl
theorem AK.getD {o:Option V}{u:Option Value}{d:V}{d':Value}(r:AK o u)(rd:RelV d d'):RelV (o.getD d) (u.getD d'):=by
 cases o with
 | none=>cases u with
  | none=>exact rd
  | some _=>exact(show False from r).elim
 | some _=>cases u with
  | none=>exact(show False from r).elim
  | some _=>exact r
theorem KV.val {kvs:List (κ × V)}{vs:List (κ × Value)}(r:KV kvs vs)(k:κ):AK (gs kvs k) (valueAt vs k):=by
 unfold KV at r
 induction r with
 | nil=>exact True.intro
 | @cons p q ps qs h t ih =>
  obtain⟨h1,h2⟩:=h
  by_cases e:p.1=k
  ·have e':q.1=k:=h1.symm.trans e
   have b:valueAt (q :: qs) k=some q.2:=by simp[valueAt,find?_cons,e']
   rw[iZ e,b];exact h2
  ·have e':¬ q.1=k:=fun z=>e (h1.trans z)
   have b:valueAt (q :: qs) k=valueAt qs k:=by simp[valueAt,find?_cons,e']
   rw[ja e,b];exact ih
theorem KV.any {kvs:List (κ × V)}{vs:List (κ × Value)}(r:KV kvs vs)(k:κ):(kvs.any fun kv=>decide (kv.1=k))=vs.any fun kv=>decide (kv.1=k):=by
 unfold KV at r
 induction r with
 | nil=>rfl
 | cons h t ih=>rw[any_cons,any_cons,ih,h.1]
theorem KV.Il {kvs:List (κ × V)}{vs:List (κ × Value)}(r:KV kvs vs)(k:κ){y:V}{u:Value}(ry:RelV y u) :
  KV (kvs.map fun kv=>if kv.1=k then (kv.1,y) else kv) (vs.map fun kv=>if kv.1=k then (kv.1,u) else kv):=by
 unfold KV at r ⊢
 induction r with
 | nil=>exact .nil
 | @cons p q ps qs h t ih =>
  rw[map_cons,map_cons]
  refine .cons ?_ ih
  obtain⟨h1,h2⟩:=h
  by_cases e:p.1=k
  ·rw[if_pos e,if_pos (h1.symm.trans e)];exact⟨h1,ry⟩
  ·rw[if_neg e,if_neg (fun z=>e (h1.trans z))];exact⟨h1,h2⟩
theorem KV.put {kvs:List (κ × V)}{vs:List (κ × Value)}(r:KV kvs vs)(k:κ){y:V}{u:Value}(ry:RelV y u):KV (c3 kvs k y) (stored vs k u):=by
 unfold c3 stored
 rw[r.any k]
 by_cases e:(vs.any fun kv=>decide (kv.1=k))=true
 ·rw[if_pos e,if_pos e];exact r.Il k ry
 ·rw[if_neg e,if_neg e];exact Paired.snoc r ⟨rfl,ry⟩
theorem KV.keys {kvs:List (κ × V)}{vs:List (κ × Value)}(r:KV kvs vs):kvs.map (·.1)=vs.map (·.1):=by
 unfold KV at r
 induction r with
 | nil=>rfl
 | cons h t ih=>rw[map_cons,map_cons,ih,h.1]
theorem KV.length {kvs:List (κ × V)}{vs:List (κ × Value)}(r:KV kvs vs):kvs.length=vs.length:=Paired.length r
end
theorem kz {P:Program}{w:World}{k:bX}{u:Value}(r:RelV (kV k) u):(aS P w).is k u=true:=by
 cases k with
 | inl i=>obtain⟨t,e⟩:=(show ∃ t,u=Value.int i t from r);subst e;exact mG P w i t
 | inr x=>obtain⟨t,e⟩:=(show ∃ t,u=Value.str x t from r);subst e;exact mF P w x t
theorem k4 {P:Program}{w:World}:∀ {ks:List bX}{us:List Value},Vals (ks.map kV) us->ItemsAre (aS P w) ks us
 | [],_,r=>by rw[map_nil]at r;cases r;exact .nil
 | k :: ks,_,r=>by
  rw[map_cons]at r
  cases r with
  | cons h t=>exact .cons (kz h) (k4 t)
abbrev KT (H:Hp):List (List bX × V)->List (List bX × Addr × Value)->Prop:=Paired fun p q=>p.1=q.1/\H q.2.1=some (.tup (p.1.map kV))/\RelV p.2 q.2.2
theorem KT.val {H:Hp}{kvs:List (List bX × V)}{xs:List (List bX × Addr × Value)}(r:KT H kvs xs)(k:List bX):AK (gs kvs k) ((atKey xs k).map (·.2)):=by
 induction r with
 | nil=>exact True.intro
 | @cons p q ps qs h t ih =>
  obtain⟨h1,_,h2⟩:=h
  by_cases e:p.1=k
  ·have e':q.1=k:=h1.symm.trans e
   have b:atKey (q :: qs) k=some q.2:=by simp[atKey,find?_cons,e']
   rw[iZ e,b];exact h2
  ·have e':¬ q.1=k:=fun z=>e (h1.trans z)
   have b:atKey (q :: qs) k=atKey qs k:=by simp[atKey,find?_cons,e']
   rw[ja e,b];exact ih
theorem KT.Il {H:Hp}{kvs:List (List bX × V)}{xs:List (List bX × Addr × Value)}(r:KT H kvs xs)(k:List bX){y:V}{u:Value}(ry:RelV y u) :
  KT H (kvs.map fun kv=>if kv.1=k then (kv.1,y) else kv) (xs.map (putAt k u)):=by
 induction r with
 | nil=>exact .nil
 | @cons p q ps qs h t ih =>
  rw[map_cons,map_cons]
  refine .cons ?_ ih
  obtain⟨h1,h2,h3⟩:=h
  unfold putAt
  by_cases e:p.1=k
  ·rw[if_pos e,if_pos (h1.symm.trans e)];exact⟨h1,h2,ry⟩
  ·rw[if_neg e,if_neg (fun z=>e (h1.trans z))];exact⟨h1,h2,h3⟩
theorem KT.put {H:Hp}{kvs:List (List bX × V)}{xs:List (List bX × Addr × Value)}(r:KT H kvs xs)(k:List bX){b:Addr}{y:V}{u:Value}(hb:H b=some (.tup (k.map kV)))(ry:RelV y u) :
  KT H (c3 kvs k y) (storedH xs k b u):=by
 have e:(kvs.any fun kv=>decide (kv.1=k))=(atKey xs k).isSome:=by
  rw[jb,(r.val k).B8,Option.isSome_map]
 unfold c3 storedH
 rw[e]
 by_cases q:(atKey xs k).isSome=true
 ·rw[if_pos q,if_pos q];exact r.Il k ry
 ·rw[if_neg q,if_neg q];exact Paired.snoc r ⟨rfl,hb,ry⟩
theorem KT.keeps {H H':Hp}{kvs:List (List bX × V)}{xs:List (List bX × Addr × Value)}(r:KT H kvs xs)(ht:∀ b ys,H b=some (.tup ys)->H' b=some (.tup ys)):KT H' kvs xs :=
 Paired.HN r fun _ _ z=>⟨z.1,ht _ _ z.2.1,z.2.2⟩
section
variable {P:Program}{w:World}{H:Hp}{h:Heap}{a:Addr}
theorem xz {u:HO}(ok:AY P w H h)(e:Rd H a u):Ag P w H h a u:=e.ok ok
theorem kD {kvs:List (bX × V)}(ok:AY P w H h)(e:Rd H a (.dK kvs)):kvs.length <= sizeLine/\(a == sysModules)=false/\∃ vs,KV kvs vs/\h.DictOf (aS P w) a vs :=
 show Ag P w H h a (.dK kvs) from xz ok e
theorem uL {kvs:List (bX × V)}(ok:AY P w H h)(e:H a=some (.dK kvs)):kvs.length <= sizeLine/\(a == sysModules)=false/\∃ vs,KV kvs vs/\h.DictOf (aS P w) a vs:=kD ok (.inl e)
theorem j1 {ks:List bX}(ok:AY P w H h)(e:H a=some (.tup (ks.map kV))):(tupleKind (aS P w)).is h ks a:=by
 obtain⟨_,zT,r,o,h1,⟨h2,n,h3⟩,_⟩:=(show Ag P w H h a (.tup (ks.map kV)) from ok a _ e)
 exact⟨o,zT.toArray,n,h1,h2,h3,by simpa using k4 r⟩
theorem kC {kvs:List (List bX × V)}(ok:AY P w H h)(e:Rd H a (.dT kvs)):kvs.length <= sizeLine/\(a == sysModules)=false /\
  ∃ xs,KT H kvs xs/\h.DictOfH (tupleKind (aS P w)) a xs:=by
 obtain⟨z,y,xs,r,o,es,ep,h1,h2,h3,h4,h5⟩:=(show Ag P w H h a (.dT kvs) from xz ok e)
 refine⟨z,y,xs,r,o,es,ep,h1,h2,h3,h4,fun x hx=>?_,h5⟩
 have all:∀ {l:List (List bX × V)}{m:List (List bX × Addr × Value)},KT H l m->∀ x ∈ m,(tupleKind (aS P w)).is h x.1 x.2.1:=by
  intro l m q
  induction q with
  | nil=>intro x hx;exact nomatch hx
  | @cons p q ps qs hq t ih =>
   intro x hx
   rcases mem_cons.mp hx with e | hx
   ·subst e
    exact j1 ok (by rw[← hq.1];exact hq.2.1)
   ·exact ih x hx
 exact all r x hx
theorem Lb {kvs:List (List bX × V)}(ok:AY P w H h)(e:H a=some (.dT kvs)):kvs.length <= sizeLine/\(a == sysModules)=false /\
  ∃ xs,KT H kvs xs/\h.DictOfH (tupleKind (aS P w)) a xs:=kC ok (.inl e)
end
noncomputable def BJ (H:Hp)(a:Addr)(y:V)(r:Option V):Prop :=
 (∃ kvs k,Rd H a (.dK kvs)/\y=kV k/\r=gs kvs k)∨∃ kvs k b,Rd H a (.dT kvs)/\y = .ref b/\H b=some (.tup (k.map kV))/\r=gs kvs k
noncomputable def E6 (H:Hp)(a:Addr)(y v:V)(H':Hp):Prop :=
 (∃ kvs k,H a=some (.dK kvs)/\y=kV k/\kvs.length < sizeLine/\H' = upd H a (.dK (c3 kvs k v))) ∨
 ∃ kvs k b,H a=some (.dT kvs)/\y = .ref b/\H b=some (.tup (k.map kV))/\kvs.length < sizeLine/\H' = upd H a (.dT (c3 kvs k v))
theorem BJ.k {H:Hp}{a:Addr}{kvs:List (bX × V)}{k:bX}(e:H a=some (.dK kvs)):BJ H a (kV k) (gs kvs k) := .inl ⟨kvs,k, .inl e,rfl,rfl⟩
theorem E6.k {H:Hp}{a:Addr}{kvs:List (bX × V)}{k:bX}{v:V}(e:H a=some (.dK kvs))(hl:kvs.length < sizeLine):E6 H a (kV k) v (upd H a (.dK (c3 kvs k v))) := .inl ⟨kvs,k,e,rfl,hl,rfl⟩
section
variable {X:Cx}{pins:List (Addr × Obj)}{σ:St}{H:Hp}{s:Shared}{a:Addr}{y v:V}{u r:Value}{o:Option V}{A:Around}{E:Value->Shared->Prop}
theorem Inv.big (I:Inv X pins σ H s):sysModules < s.heap.objs.size:=by
 have h:mainGlobals < s.heap.objs.size:=(I.mod.glob.keeps I.bk).lt
 exact lt_trans (by decide) h
theorem r8 {Q:Value->Shared->Prop}(hu:A.units + 1 < cLine)(I:Inv X pins σ H s)(g:BJ H a y (some v))(ry:RelV y u)(h:∀ w' s',Inv X pins σ H s'->RelV v w'->Q w' s') :
  wpAny (model X.prog X.w) A (getItem (.ref a) u) Q E s:=by
 rcases g with ⟨kvs,k,e,ey,l⟩ | ⟨kvs,k,b,e,ey,eb,l⟩
 ·subst ey
  obtain⟨z,hd,vs,rel,dd⟩:=kD I.zV e
  obtain⟨w',hw,CT⟩:=AK.some_of (v:=v) (o:=valueAt vs k) (by rw[l];exact rel.val k)
  exact wpAny_getItem_of (kz ry) dd.mapOf hw (h w' _ (I.tok _) CT)
 ·subst ey
  cases (show u=Value.ref b from ry)
  obtain⟨z,hd,xs,rel,dd⟩:=kC I.zV e
  obtain⟨w',hw,CT⟩:=AK.some_of (v:=v) (o:=(atKey xs k).map (·.2)) (by rw[l];exact rel.val k)
  obtain⟨p,hp,GC⟩:=Option.map_eq_some_iff.mp hw
  refine wpAny_getItem_heap (tupleKind_room_in1 hu) (j1 I.zV eb) dd hp ?_
  rw[GC]
  exact h w' _ (I.tok _) CT
theorem wU {Q:Value->Shared->Prop}(hu:A.units + 1 < cLine)(I:Inv X pins σ H s)(g:BJ H a y o)(ry:RelV y u)(h:∀ s',Inv X pins σ H s'->Q (.bool (!o.isSome)) s') :
  wpAny (model X.prog X.w) A (compareOp .NotIn u (.ref a)) Q E s:=by
 rcases g with ⟨kvs,k,e,ey,l⟩ | ⟨kvs,k,b,e,ey,eb,l⟩
 ·subst ey
  obtain⟨z,hd,vs,rel,dd⟩:=kD I.zV e
  refine wpAny_notIn_of (kz ry) hd dd.mapOf ?_
  rw[← (rel.val k).B8,← l]
  exact h _ (I.tok _)
 ·subst ey
  cases (show u=Value.ref b from ry)
  obtain⟨z,hd,xs,rel,dd⟩:=kC I.zV e
  refine wpAny_notIn_heap (tupleKind_room_in1 hu) (j1 I.zV eb) hd dd ?_
  have q:=(rel.val k).B8
  rw[Option.isSome_map]at q
  rw[← q,← l]
  exact h _ (I.tok _)
theorem lG {h':Heap}{t':Nat}{ob:HO}(I:Inv X pins σ H s)(mu:Ka (H a))(hs:Heap.SameBut a s.heap h')(he:∃ q,h'.get? a=some q)(new:Ag X.prog X.w (upd H a ob) h' a ob) :
  Inv X pins σ (upd H a ob) { s with heap:=h',toks:=t' } :=
 I.write (x:=a) (e:=a) mu (.inl rfl) (fun b q hb z=>(hs.2 b hb).trans z) he new
theorem uM {P:Program}{w:World}{H':Hp}{h':Heap}{kvs:List (bX × V)}{vs:List (bX × Value)}(z:kvs.length <= sizeLine)(hd:(a == sysModules)=false)(rel:KV kvs vs)(dd:h'.DictOf (aS P w) a vs) :
  Ag P w H' h' a (.dK kvs):=⟨z,hd,vs,rel,dd⟩
theorem r6 {H':Hp}{Q:Unit->Shared->Prop}(hu:A.units + 1 < cLine)(I:Inv X pins σ H s)(g:E6 H a y v H')(ry:RelV y u)(rv:RelV v r)(h:∀ s',Inv X pins σ H' s'->Q () s') :
  wpAny (model X.prog X.w) A (setItem (.ref a) u r) Q E s:=by
 rcases g with ⟨kvs,k,e,ey,l,eH⟩ | ⟨kvs,k,b,e,ey,eb,l,eH⟩
 ·subst ey eH
  obtain⟨z,hd,vs,rel,dd⟩:=uL I.zV e
  have hz:vs.length <= sizeLine:=by rw[← rel.length];exact z
  have hl:(c3 kvs k v).length <= sizeLine:=by have:=fA kvs k v;omega
  refine wpAny_setItem_pairs (hsz:=hz) (kz ry) dd fun h' Fz hs=>h _ ?_
  have he:∃ q,h'.get? a=some q:=let ⟨q,_,_,hq,_⟩:=Fz; ⟨q,hq⟩
  exact lG I (by rw[e];exact True.intro) hs he (uM hl hd (rel.put k rv) Fz)
 ·subst ey eH
  cases (show u=Value.ref b from ry)
  obtain⟨z,hd,xs,rel,dd⟩:=Lb I.zV e
  have hz:xs.length <= sizeLine:=by rw[← Paired.length rel];exact z
  have hl:(c3 kvs k v).length <= sizeLine:=by have:=fA kvs k v;omega
  refine wpAny_setItem_heap (hsz:=hz) (tupleKind_room_in1 hu) (j1 I.zV eb) dd fun h' Fz hs=>h _ ?_
  obtain⟨q,es,ep,hq,h2,h3,h4,_,h5⟩:=Fz
  refine lG I (by rw[e];exact True.intro) hs ⟨q,hq⟩ ⟨hl,hd,_,(rel.put k eb rv).keeps fun c ys ec=>?_,q,es,ep,hq,h2,h3,h4,h5⟩
  rw[ae (aR ec e (fun z=>nomatch z))]
  exact ec
end
section
variable {X:Cx}{pins:List (Addr × Obj)}{σ:St}{H:Hp}{s:Shared}{a:Addr}{kvs:List (bX × V)}{k:bX}{u:Value}{A:Around}{E:Value->Shared->Prop}
end
noncomputable def Lc (i:Expr):Prop:=∀ ov iv,subscripted i false ov iv=operate [ov,iv] (getItem ov iv)
theorem vt {prog:Program}{w:World}{A:Around}{E:Value->Shared->Prop}{s:Shared}{env:Env}{value slice:Expr}{pos:Pos}{T id:String}{Q:Value->Shared->Prop}
  (hl:typeLookup (.type T) "__getitem__" = pure (some (.builtin id))) (hs:Lc slice)
  (h:wpAny (model prog w) A (eval value env) (fun o s₁=>wpAny (model prog w) A (eval slice env) (fun i s₂=>s₂.TypeIs o T/\wpAny (model prog w) A (getItem o i) Q E s₂) E s₁) E s) :
  wpAny (model prog w) A (eval (.Subscript value slice pos) env) Q E s:=by
 refine Subscript_ (wpAny_mono h (fun o s₁ h₁=>wpAny_mono h₁ (fun i s₂ h₂=>?_) fun _ _ x=>x) fun _ _ x=>x)
 obtain⟨hT,h₂⟩:=h₂
 unfold subscriptTail
 refine wpAny_bind ?_
 rw[getitemInPython_of_ne hT.not_modules]
 refine wpAny_bind (wpAny_specialOf hT hl ?_)
 have fin:wpAny (model prog w) A (subscripted slice false o i) (fun r s₃=>wpAny (model prog w) A (letTemporaryGo value o r >>= fun _=>pure r) Q E s₃) E s₂:=by
  rw[hs o i]
  exact wpAny_operating (wpAny_mono h₂ (fun r s₃ h₃=>wpAny_bind (wpAny_letTemporaryGo (wpAny_pure h₃))) fun _ _ x=>x)
 first
  | exact wpAny_pure (wpAny_bind fin)
  | exact wpAny_bind (wpAny_pure (wpAny_bind fin))
  | exact wpAny_bind fin
theorem mY {X:Cx}{pins:List (Addr × Obj)}{σ:St}{H:Hp}{s:Shared}{a:Addr}{y:V}{o:Option V}(I:Inv X pins σ H s)(g:BJ H a y o):s.TypeIs (.ref a) "dict":=by
 rcases g with ⟨kvs,k,e,_,_⟩ | ⟨kvs,k,b,e,_,_,_⟩
 ·obtain⟨_,_,vs,_,dd⟩:=kD I.zV e
  exact dd.typeIs
 ·obtain⟨_,_,xs,_,dd⟩:=kC I.zV e
  exact dd.typeIs
noncomputable def Ld (td ty:TE):TE:=fun σ H Q=>td σ H fun x H1=>ty σ H1 fun y H2=>∃ a v,x = .ref a/\BJ H2 a y (some v)/\Q v H2
noncomputable def vq (ty td:TE):TE:=fun σ H Q=>ty σ H fun y H1=>td σ H1 fun x H2=>∃ a o,x = .ref a/\BJ H2 a y o/\Q (.bl (!o.isSome)) H2
noncomputable def Le (td ty tv:TE):TS:=fun D σ H=>tv σ H fun v H1=>td σ H1 fun x H2=>ty σ H2 fun y H3=>∃ a H4,x = .ref a/\E6 H3 a y v H4/\D.nx σ H4
section
variable {X:Cx}{o i e value:Expr}{pos pos' DS:Pos}{td ty tv:TE}
theorem pK (hu:X.A.units + 1 < cLine)(ho:PE X o td)(hi:PE X i ty)(hs:Lc i):PE X (.Subscript o i pos) (Ld td ty):=by
 intro pins s σ H Q I h
 refine vt PySem.F.slot_dict_getitem.lookup hs (aP (ho pins s σ H _ I h) fun u s1 ⟨x,H1,I1,rx,q1⟩=>aP (hi pins s1 σ H1 _ I1 q1) fun iv s2 zS=>?_)
 obtain⟨y,H2,I2,ry,a,v,ex,g,q2⟩:=zS
 subst ex
 obtain rfl:u=Value.ref a:=rx
 exact⟨mY I2 g,r8 hu I2 g ry fun w' s3 I3 CT=>⟨v,H2,I3,CT,q2⟩⟩
theorem qK (hu:X.A.units + 1 < cLine)(hi:PE X i ty)(ho:PE X o td):PC X .NotIn i o (vq ty td):=by
 intro pins s σ H Q I h
 refine aP (hi pins s σ H _ I h) fun iv s1 ⟨y,H1,I1,ry,q1⟩=>aP (ho pins s1 σ H1 _ I1 q1) fun u s2 zS=>?_
 obtain⟨x,H2,I2,rx,a,ov,ex,g,q2⟩:=zS
 subst ex
 obtain rfl:u=Value.ref a:=rx
 exact wU hu I2 g ry fun s3 I3=>⟨.bl (!ov.isSome),H2,I3,rfl,q2⟩
theorem vK (hu:X.A.units + 1 < cLine)(ho:PE X o td)(hi:PE X i ty)(hv:PE X value tv)(hs:swapsWith value (some (.Subscript o i pos')) pos.line X.env=pure false) :
  PS X (.Assign [.Subscript o i pos'] value pos) (Le td ty tv):=by
 intro pins s σ H D I h
 refine wpAny_Assign_Subscript (aP (hv pins s σ H _ I h) fun r s1 ⟨v,H1,I1,rv,q1⟩=>aP (ho pins s1 σ H1 _ I1 q1) fun u s2 ⟨x,H2,I2,rx,q2⟩=>aP (hi pins s2 σ H2 _ I2 q2) fun iv s3 zS=>?_) hs
 obtain⟨y,H3,I3,ry,a,H4,ex,g,q3⟩:=zS
 subst ex
 obtain rfl:u=Value.ref a:=rx
 exact r6 hu I3 g ry rv fun s4 I4=>⟨σ,H4,I4,q3⟩
end
theorem uN {P:Program}{w:World}{H:Hp}(h:Heap)(hb:sysModules < h.objs.size):Ag P w H (h.push { cls := .type "dict",data := .dict #[] }) h.objs.size (.dK []) :=
 ⟨zero_le _,beq_eq_false_iff_ne.mpr (Ne.symm (ne_of_lt hb)),[], .nil,Heap.DictOf.new h⟩
section
variable {X:Cx}{pos:Pos}
end
noncomputable def oa:List (TE × TE)->St->Hp->(List (V × V)->Hp->Prop)->Prop
 | [],_,H,Q=>Q [] H
 | (tk,tv) :: r,σ,H,Q=>tk σ H fun x H1=>tv σ H1 fun y H2=>oa r σ H2 fun ps H3=>Q ((x,y) :: ps) H3
abbrev VV:List (V × V)->List (Value × Value)->Prop:=Paired fun p q=>RelV p.1 q.1/\RelV p.2 q.2
noncomputable def OI (X:Cx)(pos:Pos)(keys:List (Option Expr))(values:List Expr)(F0:List (TE × TE)):Prop :=
 ∀ (pins:List (Addr × Obj))(s:Shared)(σ:St)(H:Hp)(Q:List (V × V)->Hp->Prop),Inv X pins σ H s->oa F0 σ H Q ->
  wpAny (model X.prog X.w) X.A (evalPairs (pairTrees keys values X.env pos)) (fun vs s'=>∃ ps H',Inv X pins σ H' s'/\VV ps vs/\Q ps H') X.xe s
theorem vL {X:Cx}{pos:Pos}:OI X pos [] [] []:=fun pins s σ H Q I h=>pairTrees_nil_walk ⟨[],H,I, .nil,h⟩
theorem tQ {X:Cx}{pos:Pos}{k v:Expr}{ks:List (Option Expr)}{vs:List Expr}{tk tv:TE}{F0:List (TE × TE)}(hk:PE X k tk)(hv:PE X v tv)(hr:OI X pos ks vs F0) :
  OI X pos (some k :: ks) (v :: vs) ((tk,tv) :: F0):=fun pins s σ H Q I h =>
 pairTrees_cons_walk (aP (hk pins s σ H _ I h) fun u s1 ⟨x,H1,I1,rx,q1⟩=>aP (hv pins s1 σ H1 _ I1 q1) fun w2 s2 ⟨y,H2,I2,ry,q2⟩ =>
  aP (hr pins s2 σ H2 _ I2 q2) fun ws s3 zS=>by obtain⟨ps,H3,I3,rel,q3⟩:=zS;exact⟨(x,y) :: ps,H3,I3, .cons ⟨rx,ry⟩ rel,q3⟩)
noncomputable def fu (kvs more:List (bX × V)):List (bX × V):=more.foldl (fun acc kv=>c3 acc kv.1 kv.2) kvs
theorem KV.merge:∀ {more:List (bX × V)}{rs:List (bX × Value)}{kvs:List (bX × V)}{vs:List (bX × Value)},KV more rs->KV kvs vs->KV (fu kvs more) (merged vs rs):=by
 intro more rs kvs vs r
 unfold KV at r
 induction r generalizing kvs vs with
 | nil=>intro q;exact q
 | @cons p q ps qs h t ih =>
  intro r0
  have e:KV (c3 kvs p.1 p.2) (stored vs q.1 q.2):=by
   have:=r0.put p.1 h.2
   rw[← h.1];exact this
  exact ih e
theorem fT:∀ (more kvs:List (bX × V)),(fu kvs more).length <= kvs.length + more.length
 | [],kvs=>by show kvs.length <= kvs.length + 0;omega
 | p :: r,kvs=>by
  have h1:=fT r (c3 kvs p.1 p.2)
  have h2:=fA kvs p.1 p.2
  show(fu (c3 kvs p.1 p.2) r).length <= _
  rw[length_cons];omega
theorem jE {P:Program}{w:World}:∀ {kvs:List (bX × V)}{ws:List (Value × Value)},VV (kvs.map fun kv=>(kV kv.1,kv.2)) ws->∃ rs,Carries (aS P w) ws rs/\KV kvs rs
 | [],_,r=>by rw[map_nil]at r;cases r;exact⟨[],True.intro, .nil⟩
 | p :: kvs,_,r=>by
  rw[map_cons]at r
  cases r with
  | @cons a b as bs h t =>
   obtain⟨rs,c,q⟩:=jE (P:=P) (w:=w) t
   obtain⟨b1,b2⟩:=b
   exact⟨(p.1,b2) :: rs,⟨kz h.1,rfl,c⟩, .cons ⟨rfl,h.2⟩ q⟩
noncomputable def Lf (F0:List (TE × TE)):TE:=fun σ H Q=>∀ p,H p=none->oa F0 σ (upd H p (.dK [])) fun ps H2=>H2 p=some (.dK [])/\∃ kvs:List (bX × V),ps=kvs.map (fun kv=>(kV kv.1,kv.2))/\kvs.length <= 15/\Q (.ref p) (upd H2 p (.dK (fu [] kvs)))
theorem vO {X:Cx}{pos:Pos}{keys:List (Option Expr)}{values:List Expr}{F0:List (TE × TE)}(h:OI X pos keys values F0)(Bo:keys.all (·.isSome)=true)(hl:keys.length=values.length)(h0:keys ≠ [])
  (h15:keys.length <= 15):PE X (.Dict keys values pos) (Lf F0):=by
 intro pins s σ H Q I q
 have hn:=I.zV.fresh (Nat.le_refl s.heap.objs.size)
 have I1:=I.laid (a:=s.heap.objs.size) (o := .dK []) (h':=s.heap.push { cls := .type "dict",data := .dict #[] }) (t':=s.toks) (fun _ _ q=>Heap.get?_push_of_some _ q) (Nat.le_refl _) (uN s.heap I.big)
 refine wpAny_Dict_walk (knd:=aS X.prog X.w) Bo hl h0 h15 (aP (h pins _ σ _ _ I1 (q _ hn)) fun ws s2 zS=>?_)
 obtain⟨ps,H2,I2,rel,e,kvs,ep,lk,q2⟩:=zS
 subst ep
 obtain⟨rs,c,rk⟩:=jE (P:=X.prog) (w:=X.w) rel
 obtain⟨z,hd,Ej,r0,dd⟩:=uL I2.zV e
 cases r0
 refine⟨rs,c,dd,fun h' Fz hs=>⟨.ref s.heap.objs.size,_,?_,rfl,q2⟩⟩
 have hz:(fu [] kvs).length <= sizeLine:=by
  have h1:=fT kvs []
  rw[length_nil]at h1
  rw[sizeLine_eq];omega
 have he:∃ q,h'.get? s.heap.objs.size=some q:=let ⟨q,_,_,hq,_⟩:=Fz; ⟨q,hq⟩
 exact lG I2 (by rw[e];exact True.intro) hs he (uM hz hd (rk.merge .nil) Fz)
structure M1 (X:Cx)(o:Expr)(m:Str)(apos:Pos)(e:Expr)(AH:Pos):Prop where
 base:attributeBase o m X.env (eval o X.env)=eval o X.env
 AN:((backTo AH (starEach [e] X.env)).all (fun x=>!x.1) && (backToKw AH (keywordEach [] X.env)).all (fun x=>x.1.isSome)
  && decide (([e]:List Expr).length + ([]:List Keyword).length + (if ([]:List Keyword).isEmpty then 0 else 1) < 30))=true
 line:(apos.endLine == AH.line)=true
 trees:backTo AH (starEach [e] X.env)=[(false,eval e X.env)]
noncomputable def VR (H:Hp)(a:Addr):Prop:=(∃ kvs,Rd H a (.dK kvs))∨∃ kvs,Rd H a (.dT kvs)
theorem zh {X:Cx}{pins:List (Addr × Obj)}{σ:St}{H:Hp}{s:Shared}{a:Addr}(I:Inv X pins σ H s)(d:VR H a) :
  s.TypeIs (.ref a) "dict"/\(∀ b,Value.ref a = .ref b->∃ ob,s.heap.get? b=some ob/\ob.dict=none)/\(a == sysModules)=false:=by
 rcases d with ⟨kvs,e⟩ | ⟨kvs,e⟩
 ·obtain⟨_,hd,vs,_,dd⟩:=kD I.zV e
  refine⟨dd.typeIs,fun b q=>?_,hd⟩
  cases q
  obtain⟨ob,_,_,h1,h2,_⟩:=dd
  exact⟨ob,h1,h2.2.1⟩
 ·obtain⟨_,hd,xs,_,dd⟩:=kC I.zV e
  refine⟨dd.typeIs,fun b q=>?_,hd⟩
  cases q
  obtain⟨ob,_,_,h1,h2,_⟩:=dd
  exact⟨ob,h1,h2.2.1⟩
section
variable {X:Cx}{pins:List (Addr × Obj)}{σ:St}{H:Hp}{s:Shared}{a:Addr}{y d:V}{u r:Value}{o:Option V}{A:Around}{E:Value->Shared->Prop}
theorem zw {Q:Value->Shared->Prop}(hu:A.units + 1 < cLine)(I:Inv X pins σ H s)(g:BJ H a y o)(ry:RelV y u)(h:∀ w' s',Inv X pins σ H s'->RelV (o.getD .Af) w'->Q w' s') :
  wpAny (model X.prog X.w) A (call (.builtin "dict.get") [.ref a,u]) Q E s:=by
 rcases g with ⟨kvs,k,e,ey,l⟩ | ⟨kvs,k,b,e,ey,eb,l⟩
 ·subst ey
  obtain⟨z,hd,vs,rel,dd⟩:=kD I.zV e
  refine call_meetsIn slot_dict_get dd.typeIs entry_dict_get (PySem.F.args_dict_get_2 _ _) (meets_dict_get (aS X.prog X.w) a (kz ry) hd) ⟨_,dd.mapOf,h _ _ (I.tok _) ?_⟩
  rw[l]
  exact(rel.val k).getD rfl
 ·subst ey
  cases (show u=Value.ref b from ry)
  obtain⟨z,hd,xs,rel,dd⟩:=kC I.zV e
  refine call_meetsIn slot_dict_get dd.typeIs entry_dict_get (PySem.F.args_dict_get_2 _ _) (meetsH_dict_get (tupleKind (aS X.prog X.w)) a b hd) ⟨tupleKind_room_in1 hu,k,xs,j1 I.zV eb,dd,h _ _ (I.tok _) ?_⟩
  rw[l]
  exact(rel.val k).getD rfl
end
noncomputable def xQ (td ty:TE):TE:=fun σ H Q=>td σ H fun x H1=>∃ a,x = .ref a/\VR H1 a/\ty σ H1 fun y H2=>∃ o,BJ H2 a y o/\Q (o.getD .Af) H2
section
variable {X:Cx}{o e f:Expr}{apos AH:Pos}{td ty tx:TE}
theorem tT (hu:X.A.units + 1 < cLine)(ho:PE X o td)(he:PE X e ty)(m:M1 X o "get" apos e AH):PE X (.Call (.Attribute o "get" apos) [e] [] AH) (xQ td ty):=by
 intro pins s σ H Q I h
 refine wpAny_Call_method m.base m.AN m.line PySem.F.plainAttrs_dict slot_dict_get PySem.F.type_dict_get (aP (ho pins s σ H _ I h) fun u s1 zS=>?_)
 obtain⟨x,H1,I1,rx,a,ex,d,q1⟩:=zS
 subst ex
 obtain rfl:u=Value.ref a:=rx
 obtain⟨t1,t2,_⟩:=zh I1 d
 refine⟨t1,t2,?_⟩
 rw[m.trees]
 refine Calls.callWith_builtin rfl (Calls.evalArgs_plain (Calls.spliced_cons (aP (he pins s1 σ H1 _ I1 q1) fun iv s2 ⟨y,H2,I2,ry,ov,g,q2⟩=>Calls.spliced_nil ?_)))
 exact zw hu I2 g ry fun w' s3 I3 CT=>⟨_,H2,I3,CT,q2⟩
end
section
variable {X:Cx}{pins:List (Addr × Obj)}{σ:St}{H:Hp}{s:Shared}{a:Addr}{kvs:List (bX × V)}{A:Around}{E:Value->Shared->Prop}
end
section
variable {X:Cx}{pins:List (Addr × Obj)}{σ:St}{H:Hp}{s:Shared}{a:Addr}{y:V}{u:Value}{A:Around}{E:Value->Shared->Prop}
end
section
variable {X:Cx}
end
section
variable {κ:Type} [DecidableEq κ]
end
theorem wI {P:Program}{w:World}{k:bX}{u:Value}(h:(aS P w).is k u=true):RelV (kV k) u:=by
 rcases bj (show j2 k u=true from h) with ⟨i,t,rfl,rfl⟩ | ⟨x,t,rfl,rfl⟩
 ·exact⟨t,rfl⟩
 ·exact⟨t,rfl⟩
noncomputable def DcO (P:Program)(w:World)(o:Obj)(kvs:List (bX × V))(ep:Nat):Prop:=∃ vs es,KV kvs vs/\o.ExactDict/\o.data = .dict es ep/\KeysOf (aS P w) es/\Pairs (aS P w) es.toList vs/\(vs.map (·.1)).Nodup
noncomputable def Lg (a:Addr)(o:Obj)(kvs:List (bX × V)):It :=
 ⟨fun i H=>H a=some (.BA o (.dK kvs))/\i < kvs.length,fun i H x H'=>H' = H/\∃ k,(kvs.map (·.1))[i]? = some k/\x=kV k,fun i H=>H a=some (.BA o (.dK kvs))/\i=kvs.length⟩
theorem Inv.GF {X:Cx}{pins:List (Addr × Obj)}{σ:St}{H:Hp}{s:Shared}{a:Addr}{o:Obj}{u:HO}(I:Inv X pins σ H s)(ha:H a=some (.BA o u)):s.heap.get? a=some o:=(I.zV a _ ha).1
theorem qy {P:Program}{w:World}{K:Frag}{tg:Expr}(a it:Addr)(o:Obj)(kvs:List (bX × V))(ep:Nat)(hD:DcO P w o kvs ep):nG P w K tg (Lg a o kvs) [it] it (fun i h=>h.IsKeyIter it a i kvs.length ep) where
 mem:=by simp
 obj:=fun i h st b hb=>by
  have e:b=it:=by simpa using hb
  subst e
  obtain⟨ob,e,c,d⟩:=st
  exact⟨ob,e,fun v z=>by rw[d]at z;cases z⟩
 keep:=fun i h h' st k=>by
  obtain⟨ob,e,c,d⟩:=st
  exact⟨ob,k it (by simp) ob e,c,d⟩
 item:=by
  intro X hP hw hK hc i pins s σ H E I hf st hg
  subst hP hw hK
  obtain⟨ha,hi⟩:=hg
  obtain⟨vs,es,rel,d1,d2,d3,d4,d5⟩:=hD
  obtain⟨f0,f1,f2,f3,f4,f5⟩:=hf it (by simp)
  have hl:=rel.length
  have hv:vs[i]? = some (vs[i]'(by omega)):=getElem?_eq_getElem (by omega)
  have st:s.heap.IsKeyIter it a i vs.length ep:=by rw[← hl];exact st
  refine wpAny_pyNext_dict_item (knd:=aS X.prog X.w) (k:=(vs[i]'(by omega)).1) (v:=(vs[i]'(by omega)).2) st ⟨o,es,I.GF ha,d1,d2,d3,d4,d5⟩ hv fun key h' hk Eg sb=>?_
  rw[← hl]at Eg
  have I1:Inv X pins σ H { s with heap:=h' }:=I.turned (t':=s.toks) (fun b o hb e=>(sb.2 b hb).trans e) f0 f1 f3 f4 f5
  obtain⟨ob,e,c,d⟩:=id Eg
  exact⟨key,rfl,qi (s:={ s with heap:=h' }) e c d (by decide) ⟨_,H,I1,wI hk,⟨rfl,_,by rw[rel.keys,getElem?_map,hv];rfl,rfl⟩,Eg,fun b hb=>(hf b hb).1⟩⟩
 done:=by
  intro X hP hw hK hc i pins s σ H E I hf st hg
  subst hP hw hK
  obtain⟨ha,rfl⟩:=hg
  obtain⟨vs,es,rel,d1,d2,d3,d4,d5⟩:=hD
  obtain⟨f0,f1,f2,f3,f4,f5⟩:=hf it (by simp)
  have hl:=rel.length
  have st:s.heap.IsKeyIter it a vs.length vs.length ep:=by rw[← hl];exact st
  exact wpAny_pyNext_dict_end (knd:=aS X.prog X.w) (I.ok.hd hc) st ⟨o,es,I.GF ha,d1,d2,d3,d4,d5⟩ (List.getElem?_eq_none (Nat.le_refl _)) fun h' eb=>⟨rfl,I.turned (t':=s.toks) (fun b o hb e=>eb b o hb e) f0 f1 f3 f4 f5⟩
 self:=fun _ _ _ _ _ st h=>wpAny_pyIter_keyiter st h
theorem pz:∀ {xs:List V}{us:List Value},xs.length=us.length->(∀ (i:Nat)(x:V)(u:Value),xs[i]? = some x->us[i]? = some u->RelV x u)->Vals xs us:=by
 intro xs;induction xs with
 | nil=>intro us hl h;cases us with|nil=>exact .nil|cons=>cases hl
 | cons x xs ih=>intro us hl h;cases us with|nil=>cases hl|cons u us=>exact .cons (h 0 x u rfl rfl) (ih (by simpa using hl) fun i x u hx hu=>h (i + 1) x u hx hu)
section
variable {X:Cx}{tg:Expr}
noncomputable def Lh (tl:TE):TI:=fun σ H R=>tl σ H fun x H1=>∃ a kvs,x = .ref a/\H1 a=some (.dK kvs)/\∀ o,R (Lg a o kvs) (upd H1 a (.BA o (.dK kvs)))
theorem vM {l:Expr}{tl:TE}(hl:PE X l tl):PI X tg l (Lh tl):=by
 intro pins s σ H R I h
 refine aP (hl pins s σ H _ I h) fun v s1 zS=>?_
 obtain⟨x,H1,I1,r1,q1⟩:=zS
 obtain⟨a,kvs,e,ha,q⟩:=q1
 subst e
 cases r1
 obtain⟨z,hd,vs,rel,o,es,ep,eo,d1,d2,d3,d4,d5⟩:=uL I1.zV ha
 have I2:Inv X pins σ (upd H1 a (.BA o (.dK kvs))) s1:=I1.write (x:=a) (e:=a) (h':=s1.heap) (t':=s1.toks) (by rw[ha];trivial) (.inl rfl) (fun b u _ q=>q) ⟨_,eo⟩ ⟨eo,z,hd,vs,rel,o,es,ep,eo,d1,d2,d3,d4,d5⟩
 refine wpAny_pyIter_dict (knd:=aS X.prog X.w) hd ⟨o,es,eo,d1,d2,d3,d4,d5⟩ ?_
 refine⟨s1.heap.objs.size,[s1.heap.objs.size],_,_,_,rfl,I2.kept (t':=s1.toks) fun b o e=>Heap.get?_push_of_some _ e,qy a _ o kvs ep ⟨vs,es,rel,d1,d2,d3,d4,d5⟩,⟨_,Heap.get?_push_size _ rfl,rfl,by rw[rel.length];rfl⟩,fun b hb=>?_,q o⟩
 have e:b=s1.heap.objs.size:=by simpa using hb
 subst e
 exact I2.DQ (Nat.le_refl _) (I2.zV.fresh (Nat.le_refl _))
theorem uG {a:Addr}{o:Obj}{kvs:List (bX × V)}{g:TG}{tb:TS}{D:jS}{σ:St}{H:Hp}(Pv:Nat->St->Hp->Prop)(h0:Pv 0 σ H)(hl:∀ i σ H,i <= kvs.length->Pv i σ H->H a=some (.BA o (.dK kvs)))
  (hs:∀ i k σ H,(kvs.map (·.1))[i]? = some k->Pv i σ H->g (kV k) σ H fun σ2 H2=>tb { D with nx:=Pv (i + 1),ct:=Pv (i + 1),bk:=D.nx } σ2 H2) (hd:∀ σ H,Pv kvs.length σ H->D.nx σ H) :
  ∃ W:Nat->Nat->St->Hp->Prop,(∃ m,W 0 m σ H)/\∀ i m σ H,W i m σ H ->
   ((Lg a o kvs).stop i H/\D.nx σ H)∨((Lg a o kvs).go i H/\∃ N:St->Hp->Prop,(∀ σ' H',N σ' H'->∃ m',m' < m/\W (i + 1) m' σ' H')/\∀ x H',(Lg a o kvs).EU i H x H'->g x σ H' fun σ2 H2=>tb { D with nx:=N,ct:=N,bk:=D.nx } σ2 H2):=by
 refine⟨fun i m σ H=>m=kvs.length - i/\i <= kvs.length/\Pv i σ H,⟨kvs.length,by simp,zero_le _,h0⟩,?_⟩
 rintro i m σ H ⟨rfl,hi,p⟩
 have q:=hl i σ H hi p
 by_cases AG:i < kvs.length
 ·refine .inr ⟨⟨q,AG⟩,Pv (i + 1),fun σ' H' p'=>⟨kvs.length - (i + 1),by omega,rfl,AG,p'⟩,fun x H' y=>?_⟩
  obtain⟨e,k,hk,ex⟩:=y
  subst e ex
  exact hs i k σ _ hk p
 ·have e:i=kvs.length:=by omega
  subst e
  exact .inl ⟨⟨q,rfl⟩,hd σ H p⟩
end
noncomputable def rF (p:Addr)(j:Int):HO := .ext fun h=>∃ t u v,IsRange h p 0 j 1 t u v
section
variable {X:Cx}
theorem uX:dv X (.type "range") (fun xs H Q=>∃ j:Int,xs=[.int j]/\∀ p,H p=none->Q (.ref p) (upd H p (rF p j))):=by
 intro pins s σ H xs us Q I r h
 obtain⟨j,rfl,q⟩:=h
 obtain⟨u,rfl,ru⟩:=r.one
 obtain⟨t,rfl⟩:=ru
 refine call_range_1 ⟨.ref s.heap.objs.size,_,I.laid (a:=s.heap.objs.size) (o:=rF s.heap.objs.size j) (t':=s.toks + 1 + 1) (fun _ _ q=>Heap.get?_push_of_some _ q) (Nat.le_refl _) ?_,rfl,q _ (I.zV.fresh (Nat.le_refl _))⟩
 exact⟨⟨_,_,_,IsRange.new ..⟩,⟨_,Heap.get?_push_size _ rfl⟩,fun h1 h2 ⟨t,u,v,e⟩ st=>⟨t,u,v,st _ e⟩⟩
theorem jR (hc:X.calm=true):dv X (.type "list") (fun xs H Q=>∃ (p:Addr)(n:Nat),xs=[.ref p]/\H p=some (rF p (n:Int))/\n <= 10000/\∀ l,H l=none->Q (.ref l) (upd H l (.lst ((List.range n).map fun k:Nat=>V.int (k:Int))))):=by
 intro pins s σ H xs us Q I r h
 obtain⟨p,n,rfl,hp,hn,q⟩:=h
 obtain⟨u,rfl,ru⟩:=r.one
 cases ru
 obtain⟨⟨t,u,v,hr⟩,_⟩:=I.zV _ _ hp
 refine call_list_range (n:=n) (I.ok.hd hc) hr (small_one (by omega) (by omega) (by omega) (by omega)) (by rw[rangeSize_one];split<;>omega) (by omega) fun h' tk acc c keep hl it=>?_
 have hv:Vals ((List.range n).map fun k:Nat=>V.int (k:Int)) acc.toList:=by
  refine pz (by rw[length_map,length_range];exact it.1.symm) fun i x u hx hu=>?_
  obtain⟨tk,rfl⟩:=it.2 i u (by simpa using hu)
  have hi:i < n:=by
   have:=(gQ0 hx)
   simpa using this
  rw[getElem?_map,List.getElem?_range hi]at hx
  have hx:V.int (i:Int)=x:=Option.some.inj hx
  subst hx
  exact⟨tk,by rw[Int.mul_one,zero_add]⟩
 refine⟨.ref _,_,I.laid (a:=s.heap.objs.size) (o := .lst ((List.range n).map fun k:Nat=>V.int (k:Int))) (t':=tk) (fun b q hq=>keep b q hq) (Nat.le_refl _) ⟨by rw[length_map,length_range,sizeLine_eq];omega,acc.toList,c,hv,by simpa using hl⟩,rfl,q _ (I.zV.fresh (Nat.le_refl _))⟩
end
end L2
namespace L2
open PySem
section
variable {X:Cx}
noncomputable def rQ (t:TS):TS:=fun D σ H=>∃ BK:St->Hp->Prop,t { D with nx:=BK } σ H/\∀ σ' H',BK σ' H'->D.nx σ' H'
theorem pH {st:Stmt}{t:TS}(h:PS X st t):PS X st (rQ t):=fun pins s σ H D I ⟨BK,q,k⟩ =>
 aP (h pins s σ H _ I q) fun f s1 z=>by
  cases f with
  | next=>obtain⟨σ1,H1,I1,p⟩:=z;exact⟨σ1,H1,I1,k _ _ p⟩
  | brk=>exact z
  | cont=>exact z
  | ret u=>exact z
noncomputable def xO (t:TE):TE:=fun σ H Q=>∃ BK:V->Hp->Prop,t σ H BK/\∀ v H',BK v H'->Q v H'
theorem ls {e:Expr}{t:TE}(h:PE X e t):PE X e (xO t):=fun pins s σ H Q I ⟨BK,q,k⟩ =>
 aP (h pins s σ H _ I q) fun u s1 zS=>by obtain⟨v,H1,I1,r,p⟩:=zS;exact⟨v,H1,I1,r,k v H1 p⟩
noncomputable def xN (t:TT):TT:=fun σ H Q=>∃ BK:Bool->Hp->Prop,t σ H BK/\∀ b H',BK b H'->Q b H'
theorem iR {e:Expr}{t:TT}(h:PT X e t):PT X e (xN t):=fun pins s σ H Q I ⟨BK,q,k⟩ =>
 aP (h pins s σ H _ I q) fun b s1 zS=>by obtain⟨H1,I1,p⟩:=zS;exact⟨H1,I1,k b H1 p⟩
end
open PySem.Spec PyProof.Rows
theorem mT:∀ {ns:List Int}{us:List Value},Vals (ns.map V.int) us->IntsAre us ns
 | [],_, .nil => .nil
 | n :: ns,_, .cons r t=>by
  obtain⟨tk,e⟩:=(show ∃ t,_=Value.int n t from r)
  subst e
  exact .cons n tk (mT t)
theorem nv {X:Cx}(hc:X.calm=true):dv X (.builtin "sum") (fun xs H Q=>∃ (p:Addr)(ns:List Int),xs=[.ref p]/\zU X.K H p (ns.map V.int)/\Q (.int ns.sum) H):=by
 intro pins s σ H xs us Q I r h
 obtain⟨p,ns,rfl,hq,q⟩:=h
 obtain⟨u,rfl,rx⟩:=jU r
 cases rx
 obtain⟨zT,rv,pl,hz⟩:=I.list hq
 have hi:=mT rv
 obtain⟨xs,hx⟩:=hi.allInts.items
 have Dv:s.heap.IsList p (intItems xs):=hx ▸ pl.isList
 refine sum_intListG (I.ok.hd hc) Dv fun h' tk t' hk=>?_
 have e1:ns=xs.toList.map (·.1):=by
  rw[← nums_intItems,← hx]
  exact(show numsOf zT.toArray.toList=ns from hi.numsOf).symm
 have e2:preSum (numAt xs) xs.size=ns.sum:=by
  rw[preSum_eq,take_of_length_le (by simp),e1]
 rw[e2]
 exact⟨.int ns.sum,H,I.kept hk,⟨_,rfl⟩,q⟩
structure DW (K:Frag)(x qual:Str)(st:Stmt)(f:Addr)(fd:FuncData):Prop where
 ex:∃ (oc:Value)(od:Option Addr)(dV kV doc pm:Value)(an:Option Addr)(cdv ct:Value)(CJ:Array (Option Value)),
  fd=fnOf x qual (aZ st) (aF st) (ah st) dV kV doc pm an cdv ct/\K.lookup f=some ⟨oc,od, .func fd,CJ⟩/\codeIn K cdv qual=true
 kp:keepIn K (.ref f)=true
section
variable {P:Program}{w:World}{K:Frag}{mg:Str->Option Value}{base:Heap}
theorem DW.EY {x qual:Str}{st:Stmt}{f:Addr}{fd:FuncData}{N ps:List Str}{k:Nat}{sp:Sp}(F:DW K x qual st f fd)(S:ao N ps (ah st))(len:∀ vs H Q E,sp vs H Q E->vs.length=ps.length)
  (AO:∀ (cdv:Value)(A:Around)(outer:List Env)(s:Shared)(H:Hp)(vs:List V)(Q:VK)(E:XK),zZ k (A.deeper (envOfC qual (ah st) s.heap.objs.size f cdv))->sp vs H Q E ->
   ∃ t,BB (i5 (dS P w) P w K mg base N qual (ah st) f cdv A outer s H E) (aF st) t/\t { nx:=fun _ H'=>Q .Af H',rt:=Q } (start N vs) H):zP P w K mg base (dS P w) (k + 1) f fd ps sp:=by
 obtain⟨oc,od,dV,kV,doc,pm,an,cdv,ct,CJ,rfl,lk,B6⟩:=F.ex
 exact qj lk B6 S len fun A outer s H vs Q E hr Cz=>AO cdv A outer s H vs Q E hr Cz
end
noncomputable def vE (K:Frag):R2:=fun x y H Q=>∃ (p:Addr)(vs:List V)(d:PyData)(ds:List PyData),y = .ref p/\nJ K H x d/\zU K H p vs/\jK K H vs ds/\Cn d 8/\(∀ z ∈ ds,Cn z 8)/\Q (.bl (!(ds.any fun y=>PyData.eqv y d))) H
theorem qL {X:Cx}(hu:X.A.units + 64 < cLine):eP X (compareOp .NotIn) (vE X.K):=by
 intro pins s σ H x y v u Q I rx ry h
 obtain⟨p,vs,d,ds,rfl,h1,h2,h3,s1,s2,q⟩:=h
 obtain⟨as,r1⟩:=I.den (.lst h2 h3) ry
 obtain⟨bs,r2⟩:=I.den h1 rx
 refine SeqAt.notIn_list_reads r1 r2 (lb s2).1 s1.1 ?_ ⟨.bl _,H,I,rfl,q⟩
 have:=s1.2
 have:=Nat.min_le_right (PyData.depthAll ds) d.depth
 omega
noncomputable def Li (K:Frag):R2:=fun x y H Q=>∃ a b xs ys,x = .ref a/\y = .ref b/\Ab K H a xs/\Ab K H b ys/\ys ≠ []/\xs.length + ys.length <= sizeLine /\
 (xs=[]->Q (.ref b) H)/\(xs ≠ []->∀ p,H p=none->Q (.ref p) (upd H p (.tup (xs ++ ys))))
theorem vU {X:Cx}:eP X (binaryOp .Add) (Li X.K):=by
 intro pins s σ H x y v u Q I rx ry h
 obtain⟨a,b,xs,ys,rfl,rfl,ha,hb,hy,hz,q1,q2⟩:=h
 by_cases hx:xs=[]
 ·cases rx
  cases ry
  obtain⟨zT,r1,p1,_⟩:=I.tuple ha
  obtain⟨Cm,r2,p2,_⟩:=I.tuple hb
  have e1:zT=[]:=r1.BR.mpr hx
  obtain⟨⟨cls,dd,data,sl⟩,ho,hc,n,hd⟩:=id p1
  obtain⟨⟨Q2,O9,data2,Jt⟩,Bu,CS,n2,hd2⟩:=id p2
  simp only at hc hd CS hd2
  subst hc hd CS hd2
  exact concat_meets ⟨_,ho,rfl⟩ ⟨_,Bu,rfl⟩ noFill_tuple_add seq_tuple_add slot_tuple_add entry_tuple_add (args_tuple_add_2 _ _)
   (tuple_addW0 a b zT.toArray Cm.toArray n n2 dd O9 sl Jt (by simp[e1])) ⟨ho,Bu,⟨.ref b,H,I,rfl,q1 hx⟩⟩
 ·exact vS pins s σ H _ _ v u Q I rx ry ⟨a,b,xs,ys,rfl,rfl,ha,hb,hx,hz,fun z=>absurd z hy,fun _=>q2 hx⟩
end L2
namespace L2
open PySem
theorem gq {M:Model} {Γ:Ctx} {env:Env} {b:List Stmt} {Q:Flow->Pos->Shared->Prop} {E:Value->Pos->Shared->Prop}:∀ {a:List Stmt}{p:Pos}{s:Shared},
  Sem.wp M Γ (execs a env) (fun f p' s'=>match f with | .next=>Sem.wp M Γ (execs b env) Q E p' s' | f=>Q f p' s') E p s->Sem.wp M Γ (execs (a ++ b) env) Q E p s
 | [],_,_,h=>h
 | st :: a,p,s,h=>by
  rw[execs_cons,Sem.wp_bind']at h
  rw[List.cons_append,execs_cons,Sem.wp_bind']
  refine Sem.wp_mono M Γ _ (fun f p' s' h'=>?_) (fun _ _ _ h'=>h') _ _ h
  cases f with
  | next=>exact gq (a:=a) h'
  | brk=>exact h'
  | cont=>exact h'
  | ret u=>exact h'
section
variable {X:Cx}
theorem vJ {a b:List Stmt}{t u:TS}(h1:BB X a t)(h2:BB X b u):BB X (a ++ b) (xL (rQ t) u):=by
 intro pins s σ H D I h
 obtain⟨BK,q,k⟩:=h
 intro Γ p hΓ
 refine gq ?_
 refine Sem.wp_mono _ Γ _ (fun f p' s' z=>?_) (fun _ _ _ z=>z) _ _ (h1 pins s σ H _ I q Γ p hΓ)
 cases f with
 | next=>obtain⟨σ1,H1,I1,z⟩:=z;exact h2 pins s' σ1 H1 D I1 (k _ _ z) Γ p' hΓ
 | brk=>exact z
 | cont=>exact z
 | ret u=>exact z
theorem tN {ss:List Stmt}{t u:TS}(n:Nat)(h1:BB X (ss.take n) t)(h2:BB X (ss.drop n) u):BB X ss (xL (rQ t) u):=by
 have h:=vJ h1 h2
 rwa [List.take_append_drop]at h
end
open PySem.Spec PyProof.Rows
noncomputable abbrev Cx.pinned (X:Cx)(q:List (Addr × Obj)):Cx:={ X with pn:=X.pn ++ q }
theorem Cx.Ok.pinned {X:Cx}(o:X.Ok)(q:List (Addr × Obj)):(X.pinned q).Ok:=⟨o.mod,o.kind,o.glob,o.blt,o.above,o.inj,o.has,o.FX,o.hd,o.frames,o.Jo,o.Ox,o.bs,o.Ee,o.Dm,o.DO,o.Bl,o.ET⟩
theorem Cx.Ok.BE {X:Cx}{q:List (Addr × Obj)}(o:(X.pinned q).Ok):X.Ok:=⟨o.mod,o.kind,o.glob,o.blt,o.above,o.inj,o.has,o.FX,o.hd,o.frames,o.Jo,o.Ox,o.bs,o.Ee,o.Dm,o.DO,o.Bl,o.ET⟩
section
variable {X:Cx}{pins q:List (Addr × Obj)}{σ:St}{H:Hp}{s:Shared}
theorem Inv.QZ (I:Inv X (q ++ pins) σ H s):Inv (X.pinned q) pins σ H s :=
 ⟨I.ok.pinned q,I.os,I.bare,I.base,I.loc,I.cell,I.free,I.Az,fun p hp=>I.pin p (by rw[append_assoc]at hp;exact hp),I.zV,I.len⟩
theorem Inv.BE (I:Inv (X.pinned q) pins σ H s):Inv X pins σ H s :=
 ⟨I.ok.BE,I.os,I.bare,I.base,I.loc,I.cell,I.free,I.Az,fun p hp=>I.pin p (by
  rcases mem_append.mp hp with h | h
  ·exact mem_append_left _ (mem_append_left _ h)
  ·exact mem_append_right _ h),I.zV,I.len⟩
theorem SP.BE {D:jS}{f:Flow}(h:SP (X.pinned q) pins D f s):SP X pins D f s:=by
 cases f with
 | next=>obtain⟨σ',H',I,r⟩:=h;exact⟨σ',H',I.BE,r⟩
 | brk=>obtain⟨σ',H',I,r⟩:=h;exact⟨σ',H',I.BE,r⟩
 | cont=>obtain⟨σ',H',I,r⟩:=h;exact⟨σ',H',I.BE,r⟩
 | ret u=>obtain⟨v,σ',H',I,r⟩:=h;exact⟨v,σ',H',I.BE,r⟩
end
structure Fb (mg:Str->Option Value)(base:Heap)(c P:Addr):Prop where
 bm:base.BuiltinsAt mg P
 cd:PySem.W.CodeHd base c P
 gP:mainGlobals ≠ P
noncomputable def jL (oc:Obj)(qual:Str):Prop:=∃ vs t,oc.data = .fields vs/\vs[1]? = some (.str qual t)
theorem Fb.keep {mg:Str->Option Value}{base zY:Heap}{c P:Addr}(N:Fb mg base c P)(k:∀ b o,base.get? b=some o->zY.get? b=some o):Fb mg zY c P:=by
 obtain⟨bm,o,h1,h2,h3,h4,h5,h6⟩:=N.bm
 exact⟨⟨bm,o,h1,h2,h3,h4,k _ _ h5,h6⟩,N.cd.keeps k,N.gP⟩
theorem vH {X:Cx}{i:Nat}{name qual:Str}{params:Arguments}{body rest:List Stmt}{scope:Scope}{pos:Pos}{clos:List (Str × Addr)}{c P:Addr}{t:Addr->Addr->Obj->Value->Value->Value->TS}
  (N:Fb X.mg X.base c P) (nd:X.N.Nodup) (hi:X.N[i]? = some name) (hx:Loc X.env.scope name) (Lj:X.env.code = .ref c) (VS:params.defaults=[]) (hk0:params.kw_defaults=[]) (ha:annTrees params none X.env=[])
  (hq:qualnameIn X.env name name=qual) (Dk:closureFor scope X.env=pure clos)
  (hr:∀ f c' oc doc pm B0,jL oc qual->BB (X.pinned [(f,PySem.W.fnMade name qual params body scope clos doc pm c' B0),(c',oc)]) rest (t f c' oc doc pm B0))
  (hf:autoParam (X.fn name=true∨X.env.scope.names.lookup name=some .local) ζ) :
  BB X (.FunctionDef name params body [] none [] scope none name pos :: rest) (fun D σ H=>∃ ps,H P=some (.B4 ps)/\TriplesOk ps.toList/\codeAmong pos ps.toList=none /\
   ∀ f c' oc doc pm B0 Im,H f=none->t f c' oc doc pm B0 D (σ.set i (some (.ref f))) (upd H P (.B4 Im))):=by
 intro pins s σ H D I h
 obtain⟨ps,hP,ht,Ic,h⟩:=h
 have gP:s.heap.get? P=some (PySem.W.tabObj ps):=I.zV P _ hP
 obtain⟨bm,ob,b1,b2,b3,b4,b5,b6⟩:=(N.keep I.bk).bm
 refine wpAny_execs_cons (PySem.W.nestDef_K VS hk0 ha ?_)
 rw[hq]
 refine PySem.W.makeFunction_K Dk I.ok.glob (I.mod.glob.keeps I.bk) Lj (N.cd.keeps I.bk) gP ht Ic N.gP ⟨bm,ob,b1,b2,b3,b4,b5,b6⟩ fun c' B0 doc h' tk Ct OJ AG E7 BF=>?_
 obtain⟨c2,oc,vs,tq,e2,O0,VT,hv⟩:=E7
 cases e2
 have Lk:∀ b u,H b=some u->(∀ qs,u ≠ .B4 qs)->b ≠ P:=fun b u e n z=>by subst z;rw[hP]at e;cases e;exact n _ rfl
 have nP:∀ b,H b=none->b ≠ P:=fun b e z=>by subst z;rw[hP]at e;cases e
 have hPl:P < s.heap.objs.size:=lt_size gP
 have kp:∀ b u,b ≠ P->s.heap.get? b=some u->(h'.push (PySem.W.fnMade name qual params body scope clos doc ((X.mg "__name__").getD .none) c' B0)).get? b=some u:=fun b u n e=>Heap.get?_push_of_some _ (Ct b u n e)
 have VU:(h'.push (PySem.W.fnMade name qual params body scope clos doc ((X.mg "__name__").getD .none) c' B0)).get? P=some (PySem.W.tabObj (ps ++ #[rawInt pos.line,rawInt pos.col, .ref c'])):=Heap.get?_push_of_some _ BF
 have I1:Inv X pins σ (upd H P (.B4 (ps ++ #[rawInt pos.line,rawInt pos.col, .ref c']))) { s with heap:=h'.push (PySem.W.fnMade name qual params body scope clos doc ((X.mg "__name__").getD .none) c' B0),toks:=tk }:=by
  refine I.un ⟨fun b u e n _ _=>kp b u (nP b n) e,fun b u e n _ _=>⟨u.slots,kp b u (nP b n) e⟩,fun b u e n _=>by rw[ae (nP b n)];exact n,fun b u e _=>?_,fun b xs e=>?_,fun b o u e=>?_,fun b qs e=>?_⟩ fun b u e=>?_
  ·by_cases z:b=P
   ·subst z;exact⟨_,VU⟩
   ·exact⟨u,kp b u z e⟩
  ·rw[ae (Lk b _ e (by intro _ z;cases z))];exact e
  ·rw[ae (Lk b _ e (by intro _ z;cases z))];exact e
  ·by_cases z:b=P
   ·subst z;rw[hP]at e;cases e;exact⟨_,ac⟩
   ·exact⟨#[],by rw[ae z,e];simp⟩
  ·by_cases z:b=P
   ·subst z;rw[ac]at e;cases e;exact VU
   ·rw[ae z]at e
    refine(I.zV b u e).B5 (fun d v hd g=>kp d v ?_ g) (fun d g=>by rw[ae (Lk d _ g (by intro _ z;cases z))];exact g) fun d xs g=>by rw[ae (Lk d _ g (by intro _ z;cases z))];exact g
    rcases hd with rfl | hd
    ·exact z
    ·exact Lk d _ hd (by intro _ z;cases z)
 have hsz:s.heap.objs.size <= h'.objs.size:=le_of_lt (lt_of_le_of_lt OJ AG)
 have VW:∀ b,s.heap.objs.size <= b->upd H P (.B4 (ps ++ #[rawInt pos.line,rawInt pos.col, .ref c'])) b=none:=fun b hb=>by
  rw[ae (ne_of_gt (lt_of_lt_of_le hPl hb))];exact I.zV.fresh hb
 have I2:=I1.AR (pins':=[(h'.objs.size,PySem.W.fnMade name qual params body scope clos doc ((X.mg "__name__").getD .none) c' B0),(c',oc)] ++ pins) (fun p hp=>by
  rcases mem_append.mp hp with hp | hp
  ·rcases mem_cons.mp hp with rfl | hp
   ·exact⟨Heap.get?_push_size _ rfl,VW _ hsz,ne_of_gt (lt_of_lt_of_le I.lt hsz),I.HP hsz,by intro v z;cases z⟩
   ·obtain rfl:=mem_singleton.mp hp
    exact⟨Heap.get?_push_of_some _ O0,VW _ OJ,ne_of_gt (lt_of_lt_of_le I.lt OJ),I.HP OJ,by intro v z;rw[VT]at z;cases z⟩
  ·exact I1.pin p (mem_append_right _ hp))
 refine gy I2 nd hi hx (v := .ref h'.objs.size) rfl (fun s' I3=>?_) hf
 refine aP (hr h'.objs.size c' oc doc ((X.mg "__name__").getD .none) B0 ⟨vs,tq,VT,hv⟩ pins s' _ _ D I3.QZ (h h'.objs.size c' oc doc _ B0 _ (I.zV.fresh hsz))) fun f s2 z=>SP.BE z
structure OK (X:Cx)(cs:List (Nat × Str))(AA:List V)(zY:Heap):Prop where
 CH:X.K.In zY
 ns:zY.Ns mainGlobals X.mg
 base:∀ b o,X.base.get? b=some o->zY.get? b=some o
 pn:∀ p ∈ X.pn,zY.get? p.1=some p.2
 cell:Paired (fun (q:Nat × Str)(v:V)=>∃ c u,X.env.cells.lookup q.2=some c/\RelV v u/\zY.IsCell c (some u)) cs AA
 inj:∀ x y c,X.env.cells.lookup x=some c->X.env.cells.lookup y=some c->x=y
theorem mU {h base zY:Heap}:∀ {l:List Env},(∀ b ∈ j8 l,zY.get? b=none)->h.FunFrames base l->h.FunFrames zY l
 | [],_,_=>trivial
 | env :: r,k,⟨hk,⟨L,o,hf,hn,ho,hd⟩,hr⟩=>⟨hk,⟨L,o,hf,k L (by unfold j8;rw[filterMap_cons,hf];exact mem_cons_self),ho,hd⟩,mU (fun b hb=>k b (by unfold j8;rw[filterMap_cons,hf];exact mem_cons_of_mem _ hb)) hr⟩
noncomputable def fB (X:Cx)(cs:List (Nat × Str))(b:Addr):Bool:=(X.base.get? b).isSome || (X.pn.map (·.1)).contains b || cs.any fun q=>X.env.cells.lookup q.2 == some b
noncomputable def iC (X:Cx)(cs:List (Nat × Str))(h:Heap):Heap:=PySem.W.hideAll h ((List.range h.objs.size).filter fun b=>!fB X cs b)
theorem lI {X:Cx}{cs:List (Nat × Str)}{h:Heap}{b:Addr}{o:Obj}(e:h.get? b=some o)(k:fB X cs b=true):(iC X cs h).get? b=some o :=
 PySem.W.hideAll_get _ e fun hm=>by
  have q:=(mem_filter.mp hm).2
  rw[k]at q;cases q
theorem uq {X:Cx}{cs:List (Nat × Str)}{h:Heap}{b:Addr}{o:Obj}(e:(iC X cs h).get? b=some o):h.get? b=some o/\fB X cs b=true:=by
 have e':h.get? b=some o:=PySem.W.of_hideAll _ e
 refine⟨e',?_⟩
 cases q:fB X cs b with
 | true=>rfl
 | false =>
  have hm:b ∈ (List.range h.objs.size).filter fun b=>!fB X cs b:=mem_filter.mpr ⟨mem_range.mpr (lt_size e'),by rw[q];rfl⟩
  have z:(iC X cs h).get? b=none:=PySem.W.hideAll_none _ hm
  rw[z]at e;cases e
theorem mR {X:Cx}{cs:List (Nat × Str)}{b:Addr}(h:fB X cs b=true):(∃ o,X.base.get? b=some o)∨(∃ p ∈ X.pn,p.1=b)∨∃ q ∈ cs,X.env.cells.lookup q.2=some b:=by
 unfold fB at h
 rcases (Bool.or_eq_true _ _).mp h with h | h
 ·rcases (Bool.or_eq_true _ _).mp h with h | h
  ·exact .inl (Option.isSome_iff_exists.mp h)
  ·obtain⟨p,hp,e⟩:=mem_map.mp (List.contains_iff_mem.mp h)
   exact .inr (.inl ⟨p,hp,e⟩)
 ·obtain⟨q,hq,e⟩:=any_eq_true.mp h
  exact .inr (.inr ⟨q,hq,eq_of_beq e⟩)
theorem zF {X:Cx}{pins:List (Addr × Obj)}{σ:St}{H:Hp}{s:Shared}{cs:List (Nat × Str)}{AA:List V}(I:Inv X pins σ H s)(OL:∀ q ∈ cs,X.N[q.1]? = some q.2/\X.env.scope.names.lookup q.2=some .cell/\X.fn q.2=true)
  (hv:Paired (fun (q:Nat × Str)(v:V)=>σ[q.1]? = some (some v)) cs AA):OK X cs AA (iC X cs s.heap)/\CQ X.prog X.w X.K X.mg (iC X cs s.heap) X.A X.stack s H:=by
 have kb:∀ b o,X.base.get? b=some o->(iC X cs s.heap).get? b=some o:=fun b o e=>lI (I.bk b o e) (by unfold fB;rw[e];rfl)
 have cell:∀ (OM:List (Nat × Str))(Io:List V),(∀ q ∈ OM,q ∈ cs)->Paired (fun (q:Nat × Str)(v:V)=>σ[q.1]? = some (some v)) OM Io ->
   Paired (fun (q:Nat × Str)(v:V)=>∃ c u,X.env.cells.lookup q.2=some c/\RelV v u/\(iC X cs s.heap).IsCell c (some u)) OM Io:=by
  intro OM Io hs hp
  induction hp with
  | nil=>exact .nil
  | @cons q v _ _ r _ ih =>
   refine .cons ?_ (ih fun q hq=>hs q (mem_cons_of_mem _ hq))
   have hq:=hs q mem_cons_self
   obtain⟨h1,h2,h3⟩:=OL q hq
   obtain⟨m,hn,hl⟩:=I.loc
   obtain⟨u,ru,l⟩:=hl q.1 q.2 v h1 r (.inr (.inl h2))
   rcases l with ⟨k,_⟩ | ⟨_,c,hc,o,ho,hd⟩
   ·have k:X.env.scope.names.lookup q.2=some .local:=k
    rw[h2]at k;cases k
   ·exact⟨c,u,hc,ru,o,lI ho (by
     unfold fB
     rw[show(cs.any fun q=>X.env.cells.lookup q.2 == some c)=true from any_eq_true.mpr ⟨q,hq,by rw[hc];simp⟩,Bool.or_true]),hd⟩
 have CH:=I.ok.mod.CH.keeps kb
 have ns:=I.ok.mod.glob.keeps kb
 have VX:∀ b,fB X cs b=true->H b=none/\b ∉ j8 X.stack:=fun b hb=>by
  rcases mR hb with ⟨o,e⟩ | ⟨p,hp,rfl⟩ | ⟨q,hq,e⟩
  ·refine⟨(I.bs b o e).2,fun z=>?_⟩
   have:=(I.stack.mem z).1
   rw[e]at this;cases this
  ·obtain⟨_,n,nl,nf,_⟩:=I.pin p (mem_append_left _ hp)
   exact⟨n,fun z=>(mem_cons.mp (I.Bb _ z)).elim nl nf⟩
  ·refine⟨I.Az _ _ e,fun z=>?_⟩
   rcases mem_cons.mp (I.Bb _ z) with z | z
   ·exact I.DP _ _ e z
   ·obtain⟨_,o,ho,_⟩:=I.ok.Bl.mem z
    exact absurd (lt_of_lt_of_le (lt_size ho) (I.ok.FX _ _ (OL q hq).2.2 e)) (lt_irrefl _)
 refine⟨⟨CH,ns,kb,fun p hp=>?_,cell cs AA (fun _ h=>h) hv,I.ok.inj⟩,I.ok.frames,⟨CH,ns,?_,I.ok.mod.nolimit.keeps kb⟩,fun b o e=>?_,?_,?_,I.BP,I.zV,I.bare⟩
 ·refine lI (I.pin p (mem_append_left _ hp)).1 ?_
  unfold fB
  rw[show(X.pn.map (·.1)).contains p.1=true from List.contains_iff_mem.mpr (mem_map_of_mem hp),Bool.or_true,Bool.true_or]
 ·obtain⟨mb,h1,h2⟩:=I.ok.mod.blt
  exact⟨mb,h1.keeps kb,h2⟩
 ·obtain⟨e1,k⟩:=uq e
  exact⟨e1,(VX b k).1⟩
 ·exact le_of_eq (PySem.W.hideAll_size _ _)
 ·refine mU (fun b hb=>?_) I.stack
  cases q:(iC X cs s.heap).get? b with
  | none=>rfl
  | some o=>exact absurd hb (VX b (uq q).2).2
noncomputable def xV (cs:List (Nat × Str))(sp:List V->Sp)(Aw:List V)(E:XK)(t:TA):TE:=fun σ H Q=>∃ AA,Paired (fun (q:Nat × Str)(v:V)=>σ[q.1]? = some (some v)) cs AA/\t σ H fun vs H1=>sp AA (vs ++ Aw) H1 Q E
section
variable {X:Cx}{CX:lJ}{k:Nat}{f:Addr}{fd:FuncData}{ps:List Str}{Aw:List V}{ds:List Value}{E:XK}{x:Str}{p pos:Pos}{e:Expr}{es:List Expr}{t:TA}{cs:List (Nat × Str)}{sps:List V->Sp}
theorem m8 (F:∀ AA zY,OK X cs AA zY->zP X.prog X.w X.K X.mg zY CX k f fd ps (sps AA))(OL:∀ q ∈ cs,X.N[q.1]? = some q.2/\X.env.scope.names.lookup q.2=some .cell/\X.fn q.2=true)
  (hr:zZ k X.A) (hg:Gl X x) (hm:X.mg x=some (.ref f)) (hk:keepIn X.K (.ref f)=true) (hb:Binds X.K fd ps ds) (hd:Vals Aw ds) (hx:cx CX X E)
  (ha:PA X (e :: es) t) (Dq:autoParam ((x == ("__debug__":Str))=false) θ) (he:autoParam (starEach (e :: es) X.env=(false,eval e X.env) :: starEach es X.env) η) (Br:autoParam ((backTo pos (starEach es X.env)).any (·.1)=false) η) :
  PE X (.Call (.Name x p) (e :: es) [] pos) (xV cs sps Aw E t):=by
 intro pins s σ H Q I h
 obtain⟨AA,hv,h⟩:=h
 refine wpAny_Call_Name_kw (fM I hg hm ?_ Dq)
 refine PySem.W.callWith_K (h₀:=X.base) I.ok.mod.CH hk (aP (ha pos pins s σ H _ I h) fun us s1 ⟨vs,H1,I1,r,q⟩=>⟨I1.AQ,?_⟩) he Br
 obtain⟨B,e0⟩:=zF I1 OL hv
 have G:=F AA _ B
 have r2:Vals (vs ++ Aw) (us ++ ds):=r.append hd
 have hl:(us ++ ds).length=ps.length:=by rw[← r2.length];exact G.len _ _ _ _ q
 refine wpAny_call (codeAny_mono (G.run X.A X.stack s1 H1 ⟨us,[]⟩ (us ++ ds) (vs ++ Aw) Q E hr e0 (hb s1 us I1.AQ hl) r2 q) fun r s' hq=>?_)
 cases r with
 | error e=>exact hx pins σ H1 s1 e s' I1 hq
 | ok fl =>
  cases fl with
  | ret u=>exact I1.after hq
  | next=>exact False.elim hq
  | brk=>exact False.elim hq
  | cont=>exact False.elim hq
noncomputable def xU (i:Nat)(f:Addr)(sp:Sp)(Aw:List V)(E:XK)(t:TA):TE:=fun σ H Q=>σ[i]? = some (some (.ref f))/\t σ H fun vs H1=>sp (vs ++ Aw) H1 Q E
theorem tU {sp:Sp}{i:Nat}(F:zP X.prog X.w X.K X.mg X.base CX k f fd ps sp)(hf:PySem.W.FnAt f X.base)(hr:zZ k X.A)(hN:X.N[i]? = some x)(hv:Kc X.env.scope x)(hb:Binds X.K fd ps ds)(hd:Vals Aw ds)(hx:cx CX X E)
  (ha:PA X (e :: es) t) (Dq:autoParam ((x == ("__debug__":Str))=false) θ) (B6:autoParam ((x == ("__classdict__":Str))=false) θ) (he:autoParam (starEach (e :: es) X.env=(false,eval e X.env) :: starEach es X.env) η) (Br:autoParam ((backTo pos (starEach es X.env)).any (·.1)=false) η) :
  PE X (.Call (.Name x p) (e :: es) [] pos) (xU i f sp Aw E t):=by
 intro pins s σ H Q I h
 obtain⟨hi,h⟩:=h
 have at':∀ {pins':List (Addr × Obj)}{σ':St}{H':Hp}{s':Shared},Inv X pins' σ' H' s'->PySem.W.FnAt f s'.heap:=fun J=>let ⟨a,b,c,d,e⟩:=hf; ⟨a,b,c,d,J.bk _ _ e⟩
 refine wpAny_Call_Name_kw (aP (tR (pos:=p) hN hv Dq B6 pins s σ H (fun v H'=>v = .ref f/\H' = H) I ⟨_,hi,rfl,rfl⟩) fun u s0 zS=>?_)
 obtain⟨v,H',I',ru,ev,eH⟩:=zS
 subst ev;subst eH
 obtain rfl:u=Value.ref f:=ru
 refine PySem.W.callWith_F (at' I') (aP (ha pos pins s0 σ _ _ I' h) fun us s1 ⟨vs,H1,I1,r,q⟩=>⟨at' I1,?_⟩) he Br
 exact jo F hr hb hd hx I1 r q
end
structure jH (N P fr:List Str)(sc:Scope):Prop where
 kind:sc.kind = .function
 co:sc.isCoroutine=false
 gen:sc.isGenerator=false
 nd:N.Nodup
 pre:N=P ++ fr
 par:∀ x ∈ P,sc.names.lookup x=some .local
 B7:∀ y ∈ sc.names,y.2 ≠ .cell
 free:∀ x ∈ fr,sc.names.lookup x=some .free
 all:∀ y ∈ sc.names,y.2 = .free->y.1 ∈ fr
structure Ll (base:Heap)(clos:List (Str × Addr))(fr:List Str)(AA:List V):Prop where
 at':Paired (fun (x:Str)(v:V)=>∃ c u,clos.lookup x=some c/\RelV v u/\base.IsCell c (some u)) fr AA
 only:∀ x c,clos.lookup x=some c->x ∈ fr
 inj:∀ x y c,clos.lookup x=some c->clos.lookup y=some c->x=y
noncomputable def Ln (CX:lJ)(P:Program)(w:World)(K:Frag)(mg:Str->Option Value)(base:Heap)(N:List Str)(qual:Str)(scope:Scope)(f:Addr)(cd:Value)(cl:List (Str × Addr))(A:Around)(outer:List Env)(s:Shared)(H:Hp)(E:XK):Cx where
 prog:=P
 w:=w
 K:=K
 mg:=mg
 base:=base
 A:=A.deeper (PySem.W.envX qual scope s.heap.objs.size f cd cl)
 N:=N
 s₀:=s
 H₀:=H
 env:=PySem.W.envX qual scope s.heap.objs.size f cd cl
 outer:=outer
 stack:=PySem.W.envX qual scope s.heap.objs.size f cd cl :: outer
 ex:=[]
 calm:=true
 fn:=fun _=>false
 pn:=[]
 xe:=fun e s'=>wpAny (model P w) (A.deeper (PySem.W.envX qual scope s.heap.objs.size f cd cl)) (leaving (PySem.W.envX qual scope s.heap.objs.size f cd cl) e) (fun _ Et=>CX outer H s E e Et) (fun e' Et=>CX outer H s E e' Et) s'
theorem oG {x:Str}{v:Value}:∀ {P:List Str}{us:List Value}{i:Nat},P.Nodup->P[i]? = some x->us[i]? = some v->(P.zip us).reverse.lookup x=some v:=by
 intro P us i nd h1 h2
 have hm:(x,v) ∈ (P.zip us).reverse:=mem_reverse.mpr (mem_of_getElem? (i:=i) (by rw[List.getElem?_zip_eq_some];exact⟨h1,h2⟩))
 have key:∀ (l:List (Str × Value)),(l.map (·.1)).Nodup->(x,v) ∈ l->l.lookup x=some v:=by
  intro l
  induction l with
  | nil=>intro _ h;cases h
  | cons p r ih =>
   intro hn hm
   obtain⟨y,z⟩:=p
   rw[map_cons,nodup_cons]at hn
   rw[lookup_cons]
   rcases mem_cons.mp hm with e | hm
   ·cases e;simp
   ·have:(x == y)=false:=by
     cases q:x == y with
     | false=>rfl
     | true=>exact absurd (mem_map_of_mem (f:=(·.1)) hm) (by rw[eq_of_beq q];exact hn.1)
    rw[this]
    exact ih hn.2 hm
 refine key _ ?_ hm
 have e:((P.zip us).map (·.1))=P.take us.length:=by
  have:∀ (P:List Str)(us:List Value),(P.zip us).map (·.1)=P.take us.length:=by
   intro P
   induction P with
   | nil=>intro us;simp
   | cons p r ih=>intro us;cases us with
    | nil=>rfl
    | cons u t=>simp[ih]
  exact this P us
 rw[List.map_reverse,e,List.nodup_iff_pairwise_ne,List.pairwise_reverse]
 exact(nd.sublist (List.take_sublist _ _)).imp fun h=>Ne.symm h
theorem zq {CX:lJ}{P:Program}{w:World}{K:Frag}{mg:Str->Option Value}{base:Heap}{k:Nat}{f c':Addr}{name qual:Str}{params:Arguments}{body:List Stmt}{scope:Scope}{clos:List (Str × Addr)}{doc pm B0:Value}{oc:Obj}
  {N ps fr:List Str} {AA:List V} {sp:Sp} (lk:base.get? f=some (PySem.W.fnMade name qual params body scope clos doc pm c' B0)) (Ef:base.get? c' = some oc) (B6:jL oc qual) (S:jH N ps fr scope) (C:Ll base clos fr AA)
  (len:∀ vs H Q E,sp vs H Q E->vs.length=ps.length)
  (AO:∀ (A:Around)(outer:List Env)(s:Shared)(H:Hp)(vs:List V)(Q:VK)(E:XK),zZ k (A.deeper (PySem.W.envX qual scope s.heap.objs.size f (.ref c') clos))->sp vs H Q E ->
   ∃ t,BB (Ln CX P w K mg base N qual scope f (.ref c') clos A outer s H E) body t/\t { nx:=fun _ H'=>Q .Af H',rt:=Q } ((vs ++ AA).map some) H) :
  zP P w K mg base CX (k + 1) f (PySem.W.fnX name qual params body scope clos .none .none doc pm none (.ref c') B0) ps sp:=by
 refine⟨len,fun A outer s H args us vs Q E hr e0 hb r Cz=>?_⟩
 have hl:=len _ _ _ _ Cz
 have bk:∀ b o,base.get? b=some o->s.heap.get? b=some o:=fun b o e=>(e0.bs b o e).1
 have lim:s.heap.NoLimit:=e0.mod.nolimit.keeps bk
 obtain⟨vv,tq,hd,hv⟩:=B6
 have hlen:ps.length=us.length:=by rw[← hl];exact r.length
 refine codeAny_call_def (fd:=PySem.W.fnX name qual params body scope clos .none .none doc pm none (.ref c') B0) (body:=body) hr.depth (bk _ _ lk) rfl lim ⟨c',oc,vv,tq,rfl,bk _ _ Ef,hd,hv⟩ rfl hb S.B7 (fun y hy=>S.par y.1 (of_mem_zip (a:=y.1) (b:=y.2) hy).1) (fun h1 Jw hk=>?_) S.co S.gen S.kind
 obtain⟨t,ht,hq⟩:=AO A outer s H vs Q E (hr.deeper _) Cz
 have Fn:∀ b:Addr,b ∉ (Ln CX P w K mg base N qual scope f (.ref c') clos A outer s H E).ex:=fun b z=>absurd (show b ∈ ([]:List Addr) from z) (by simp)
 have cellAt:∀ x c,clos.lookup x=some c->∃ (v:V)(u:Value)(i:Nat),fr[i]? = some x/\AA[i]? = some v/\RelV v u/\base.IsCell c (some u):=fun x c hx=>by
  obtain⟨i,hi,e⟩:=getElem_of_mem (C.only x c hx)
  have J0:fr[i]? = some x:=by rw[getElem?_eq_getElem hi,e]
  have VQ:i < AA.length:=by rw[← Paired.length C.at'];exact hi
  have get:∀ (fr:List Str)(AA:List V)(i:Nat)(x:Str),Paired (fun (x:Str)(v:V)=>∃ c u,clos.lookup x=some c/\RelV v u/\base.IsCell c (some u)) fr AA->fr[i]? = some x->∃ v,AA[i]? = some v/\∃ c u,clos.lookup x=some c/\RelV v u/\base.IsCell c (some u):=by
   intro fr AA i x hp
   induction hp generalizing i with
   | nil=>intro e;simp at e
   | @cons a b _ _ r _ ih =>
    intro e
    cases i with
    | zero=>simp at e;subst e;exact⟨b,rfl,r⟩
    | succ i=>simpa using ih i (by simpa using e)
  obtain⟨v,hv,c2,u,h1,h2,h3⟩:=get fr AA i x C.at' J0
  rw[hx]at h1;cases h1
  exact⟨v,u,i,J0,hv,h2,h3⟩
 have Dz:∀ c u,base.IsCell c (some u)->H c=none/\h1.IsCell c (some u):=fun c u zS=>by obtain⟨o,ho,hd⟩:=zS;exact⟨(e0.bs c o ho).2,o,hk _ _ (bk _ _ ho),hd⟩
 have I:Inv (Ln CX P w K mg base N qual scope f (.ref c') clos A outer s H E) [] ((vs ++ AA).map some) H { s with heap:=h1,toks:=s.toks + (ps.zip us).length }:=by
  refine⟨⟨e0.mod,S.kind,rfl,rfl,Nat.le_refl _,C.inj,fun y hy=>?_,fun y c h=>absurd h (by show ¬ (false=true);decide),fun _=>hr.hd,Around.frames_deeper e0.frames, .inr ⟨rfl,rfl⟩,fun b z=>absurd z (Fn b),e0.bs,e0.Ee,fun b _ _=>Fn b,fun b z=>absurd z (Fn b),e0.Bl,e0.ET⟩,
   rfl,e0.bare,Un.kept hk,⟨_,Jw,fun i y v h1 h2 h3=>?_⟩,fun y c h=>?_,e0.zV.fresh (Nat.le_refl _),fun y c h=>?_,fun p hp=>absurd (show p ∈ ([]:List (Addr × Obj)) from hp) (by simp),e0.zV.kept hk,?_⟩
  ·have hy:scope.names.lookup y=some .cell∨scope.names.lookup y=some .free:=hy
   rcases hy with hy | hy
   ·exact absurd rfl (S.B7 _ (PySem.mem_of_lookup hy))
   ·have hm:=S.all _ (PySem.mem_of_lookup hy) rfl
    have:∀ (fr:List Str)(AA:List V),Paired (fun (x:Str)(v:V)=>∃ c u,clos.lookup x=some c/\RelV v u/\base.IsCell c (some u)) fr AA->y ∈ fr->∃ c,clos.lookup y=some c:=by
     intro fr AA hp
     induction hp with
     | nil=>intro h;cases h
     | cons r _ ih =>
      intro h
      rcases mem_cons.mp h with rfl | h
      ·obtain⟨c,_,e,_⟩:=r;exact⟨c,e⟩
      ·exact ih h
    exact this fr AA C.at' hm
  ·have h1:N[i]? = some y:=h1
   have h2:((vs ++ AA).map some)[i]? = some (some v):=h2
   rw[getElem?_map]at h2
   have h2:(vs ++ AA)[i]? = some v:=by
    cases q:(vs ++ AA)[i]? with
    | none=>rw[q]at h2;cases h2
    | some z=>rw[q]at h2;cases h2;rfl
   rw[S.pre]at h1
   by_cases hi:i < vs.length
   ·rw[getElem?_append_left hi]at h2
    rw[getElem?_append_left (by omega)]at h1
    obtain⟨u,hu,rv⟩:=r.get h2
    have O8:ps.Nodup:=(nodup_append.mp (S.pre ▸ S.nd)).1
    exact⟨u,rv, .inl ⟨S.par y (mem_of_getElem? h1),oG O8 h1 hu⟩⟩
   ·rw[getElem?_append_right (by omega)]at h2
    rw[getElem?_append_right (by omega),← hl]at h1
    have hyf:=mem_of_getElem? h1
    have:∀ (fr:List Str)(AA:List V)(j:Nat),Paired (fun (x:Str)(v:V)=>∃ c u,clos.lookup x=some c/\RelV v u/\base.IsCell c (some u)) fr AA->fr[j]? = some y->AA[j]? = some v->∃ c u,clos.lookup y=some c/\RelV v u/\base.IsCell c (some u):=by
     intro fr AA j hp
     induction hp generalizing j with
     | nil=>intro e;simp at e
     | cons r _ ih =>
      intro e1 e2
      cases j with
      | zero=>simp at e1 e2;subst e1;subst e2;exact r
      | succ j=>exact ih j (by simpa using e1) (by simpa using e2)
    obtain⟨c,u,hc,ru,BC⟩:=this fr AA _ C.at' h1 h2
    exact⟨u,ru, .inr ⟨.inr (S.free y hyf),c,hc,(Dz c u BC).2⟩⟩
  ·obtain⟨v,u,i,_,_,_,h4⟩:=cellAt y c h
   exact⟨_,(Dz c u h4).2⟩
  ·obtain⟨v,u,i,_,_,_,h4⟩:=cellAt y c h
   exact(Dz c u h4).1
  ·show((vs ++ AA).map some).length=N.length
   rw[length_map,length_append,S.pre,length_append,hl,Paired.length C.at']
 refine wpAny_mono (ht [] _ _ H _ I hq) (fun fl s' hs=>?_) fun e s' hs=>hs
 have fin:∀ {σ':St}{H':Hp}{v:V}{u:Value},Inv (Ln CX P w K mg base N qual scope f (.ref c') clos A outer s H E) [] σ' H' s'->RelV v u->Q v H'->CE outer P w H s Q u s' :=
  fun {σ' H' v u} J rv q=>⟨v,H',J.os,J.bare,J.base,J.zV,rv,q⟩
 cases fl with
 | ret u =>
  obtain⟨v,σ',H',J,rv,q⟩:=hs
  exact fin J rv q
 | next =>
  obtain⟨σ',H',J,q⟩:=hs
  exact fin (v:=V.Af) (u:=Value.none) J rfl q
 | brk =>
  obtain⟨_,_,_,q⟩:=hs
  exact False.elim q
 | cont =>
  obtain⟨_,_,_,q⟩:=hs
  exact False.elim q
theorem OK.cap {X:Cx}{cs:List (Nat × Str)}{AA:List V}{zY:Heap}{clos:List (Str × Addr)}(B:OK X cs AA zY)(hc:cs.map (·.2)=clos.map (·.1))(hl:∀ q ∈ clos,X.env.cells.lookup q.1=some q.2):Ll zY clos (clos.map (·.1)) AA:=by
 have look:∀ (l:List (Str × Addr))(x:Str)(c:Addr),(∀ q ∈ l,X.env.cells.lookup q.1=some q.2)->l.lookup x=some c->X.env.cells.lookup x=some c/\x ∈ l.map (·.1):=by
  intro l
  induction l with
  | nil=>intro x c _ h;cases h
  | cons p r ih =>
   intro x c hl h
   rw[lookup_cons]at h
   cases q:x == p.1 with
   | true=>rw[q]at h;cases h;rw[eq_of_beq q];exact⟨hl p mem_cons_self,mem_cons_self⟩
   | false =>
    rw[q]at h
    obtain⟨a,b⟩:=ih x c (fun z hz=>hl z (mem_cons_of_mem _ hz)) h
    exact⟨a,mem_cons_of_mem _ b⟩
 have has:∀ (l:List (Str × Addr))(x:Str),x ∈ l.map (·.1)->∃ c,l.lookup x=some c:=by
  intro l
  induction l with
  | nil=>intro x h;cases h
  | cons p r ih =>
   intro x h
   rw[lookup_cons]
   cases q:x == p.1 with
   | true=>exact⟨_,rfl⟩
   | false =>
    rcases mem_cons.mp h with e | h
    ·rw[e]at q;simp at q
    ·exact ih x h
 refine⟨?_,fun x c h=>(look clos x c hl h).2,fun x y c h1 h2=>B.inj x y c (look clos x c hl h1).1 (look clos y c hl h2).1⟩
 rw[← hc]
 have hs:∀ q ∈ cs,q.2 ∈ clos.map (·.1):=fun q hq=>hc ▸ mem_map_of_mem hq
 have key:∀ (cs:List (Nat × Str))(AA:List V),(∀ q ∈ cs,q.2 ∈ clos.map (·.1))->Paired (fun (q:Nat × Str)(v:V)=>∃ c u,X.env.cells.lookup q.2=some c/\RelV v u/\zY.IsCell c (some u)) cs AA->Paired (fun (x:Str)(v:V)=>∃ c u,clos.lookup x=some c/\RelV v u/\zY.IsCell c (some u)) (cs.map (·.2)) AA:=by
  intro cs AA hs hp
  induction hp with
  | nil=>exact .nil
  | @cons q v _ _ r _ ih =>
   refine .cons ?_ (ih fun z hz=>hs z (mem_cons_of_mem _ hz))
   obtain⟨c,u,e,ru,z⟩:=r
   obtain⟨c2,e2⟩:=has clos q.2 (hs q mem_cons_self)
   have:=(look clos q.2 c2 hl e2).1
   rw[e]at this;cases this
   exact⟨c,u,e2,ru,z⟩
 exact key cs AA hs B.cell
theorem Al.okC {P:Program}{w:World}{K:Frag}{mg:Str->Option Value}{base:Heap}{x qual:Str}{st:Stmt}{f:Addr}{fd:FuncData}{N ps:List Str}{k:Nat}{sp:Sp}(F:Al K x qual st f fd)(S:ao N ps (ah st))(len:∀ vs H Q E,sp vs H Q E->vs.length=ps.length)
  (AO:∀ (cdv:Value)(A:Around)(outer:List Env)(s:Shared)(H:Hp)(vs:List V)(Q:VK)(E:XK),fd.code=cdv->zZ k (A.deeper (envOfC qual (ah st) s.heap.objs.size f cdv))->sp vs H Q E ->
   ∃ t,BB (i5 aB P w K mg base N qual (ah st) f cdv A outer s H E).Gj (aF st) t/\t { nx:=fun _ H'=>Q .Af H',rt:=Q } (start N vs) H):zP P w K mg base aB (k + 1) f fd ps sp:=by
 obtain⟨oc,od,kV,doc,pm,an,cdv,ct,CJ,rfl,lk,B6⟩:=F.ex
 refine qj lk B6 S len fun A outer s H vs Q E hr Cz=>?_
 obtain⟨t,h,q⟩:=AO cdv A outer s H vs Q E rfl hr Cz
 exact⟨t,h.Gj,q⟩
theorem zo {P:Program}{w:World}{K:Frag}{mg:Str->Option Value}{base:Heap}{k:Nat}{f c':Addr}{name qual:Str}{params:Arguments}{body:List Stmt}{scope:Scope}{clos:List (Str × Addr)}{doc pm B0:Value}{oc:Obj}
  {N ps fr:List Str} {AA:List V} {sp:Sp} (lk:base.get? f=some (PySem.W.fnMade name qual params body scope clos doc pm c' B0)) (Ef:base.get? c' = some oc) (B6:jL oc qual) (S:jH N ps fr scope) (C:Ll base clos fr AA)
  (len:∀ vs H Q E,sp vs H Q E->vs.length=ps.length)
  (AO:∀ (A:Around)(outer:List Env)(s:Shared)(H:Hp)(vs:List V)(Q:VK)(E:XK),zZ k (A.deeper (PySem.W.envX qual scope s.heap.objs.size f (.ref c') clos))->sp vs H Q E ->
   ∃ t,BB (Ln aB P w K mg base N qual scope f (.ref c') clos A outer s H E).Gj body t/\t { nx:=fun _ H'=>Q .Af H',rt:=Q } ((vs ++ AA).map some) H) :
  zP P w K mg base aB (k + 1) f (PySem.W.fnX name qual params body scope clos .none .none doc pm none (.ref c') B0) ps sp :=
 zq lk Ef B6 S C len fun A outer s H vs Q E hr Cz=>by
  obtain⟨t,h,q⟩:=AO A outer s H vs Q E hr Cz
  exact⟨t,h.Gj,q⟩
theorem qZ {P:Program}{w:World}{K:Frag}{mg mb:Str->Option Value}{CX:lJ}{k:Nat}{fa a c Tb:Addr}{fd:FuncData}{x:Str}{sp:Sp}{s₁:Shared}{vs:List Value}{ns:List Int}{pT:Program}{loose:List Str}{mean:ExcName->Option Value}
  (T:PyProof.Rows.Top pT loose mean mg mb s₁.heap) (hT:PySem.W.CodeHd s₁.heap c Tb/\s₁.heap.get? Tb=some (PySem.W.tabObj #[])) (nK:PySem.W.noTabs K=true)
  (KX:K.In s₁.heap) (hg:s₁.gens = #[])
  (ha:s₁.heap.get? a=some { cls := .type "list",data := .seq vs.toArray }) (hi:IntsAre vs ns) (hl:ns.length <= sizeLine) (hr:zZ k callerA)
  (F:∀ base:Heap,K.In base->base.Ns mainGlobals mg->Fb mg base c Tb->zP P w K mg base CX k fa fd [x] sp) (Lo:∀ (s:Shared)(u:Value),BindsTo s fd ⟨[u],[]⟩ [(x,u)])
  (Cz:∀ H:Hp,H Tb=some (.B4 #[])->zU K H a (ns.map V.int)->sp [.ref a] H (fun v _=>v = .bl true) fun _ _ _=>False)
  (Ra:∀ H e s',CX [] H s₁ (fun _ _ _=>False) e s'->False) :
  codeAny (model P w) callerA (.call (.ref fa) ⟨[.ref a],[]⟩) (fun r s'=>r = .ok (.ret (.bool true))/\OldK s₁.heap s'.heap/\s'.os=s₁.os/\AllBare s'.gens) s₁:=by
 have rv:=jT hi
 have Rb:=hi.length
 obtain⟨hC,Ek⟩:=hT
 have VY:a ≠ Tb:=fun e=>by rw[e,Ek]at ha;cases ha
 have KT:K.lookup Tb=none:=by
  cases q:K.lookup Tb with
  | none=>rfl
  | some o =>
   have e:=KX _ _ q
   rw[Ek]at e;cases e
   have h2:=all_eq_true.mp nK (Tb,_) (PySem.W.mem_of_lookupK q)
   exact absurd (show false=true from h2) Bool.false_ne_true
 have core:∀ H:Hp,H Tb=some (.B4 #[])->(∀ b,b ≠ Tb->H b=none∨∃ o xs,H b=some (.BA o (.lst xs)))->zU K H a (ns.map V.int)->AY P w H s₁.heap->(∀ b,H b ≠ none->b=a∨b=Tb)->(H a ≠ none->K.lookup a=none) ->
   codeAny (model P w) callerA (.call (.ref fa) ⟨[.ref a],[]⟩) (fun r s'=>r = .ok (.ret (.bool true))/\OldK s₁.heap s'.heap/\s'.os=s₁.os/\AllBare s'.gens) s₁:=by
  intro H VZ hO hS zV hA hK
  have base_of:∀ {b:Addr}{o:Obj},s₁.heap.get? b=some o->H b=none->(jO s₁.heap H).get? b=some o:=fun e n=>uD e n
  have Wc:∀ {b:Addr}{o:Obj},s₁.heap.get? b=some o->o.cls ≠ .type "list"->o.cls ≠ .none->H b=none:=fun {b o} e d1 d2=>by
   cases q:H b with
   | none=>rfl
   | some u =>
    rcases hA b (by rw[q];simp) with z | z
    ·subst z;rw[ha]at e;cases e;exact absurd rfl d1
    ·subst z;rw[Ek]at e;cases e;exact absurd rfl d2
  have Fn:∀ {b:Addr}{o:Obj}{es:Array DictEntry}{ep:Nat},s₁.heap.get? b=some o->o.data = .dict es ep->H b=none:=fun {b o es ep} e d=>by
   cases q:H b with
   | none=>rfl
   | some u =>
    rcases hA b (by rw[q];simp) with z | z
    ·subst z;rw[ha]at e;cases e
     have d':Data.seq vs.toArray _=Data.dict es ep:=d
     cases d'
    ·subst z;rw[Ek]at e;cases e;cases d
  have ON:∀ {b:Addr}{m:Str->Option Value},s₁.heap.Ns b m->(jO s₁.heap H).Ns b m:=fun {b m} ⟨o,es,ep,e,d,r⟩=>⟨o,es,ep,base_of e (Fn e d),d,r⟩
  have Wd:K.In (jO s₁.heap H):=fun b o e=>base_of (KX b o e) (by
   cases q:H b with
   | none=>rfl
   | some u =>
    rcases hA b (by rw[q];simp) with z | z
    ·subst z;rw[hK (by rw[q];simp)]at e;cases e
    ·subst z;rw[KT]at e;cases e)
  have hM:Mod K mg (jO s₁.heap H):=⟨Wd,ON T.g,⟨mb,ON T.b,T.builtins⟩,let ⟨mc,h1,h2⟩:=T.nolimit; ⟨mc,ON h1,h2⟩⟩
  have hN:Fb mg (jO s₁.heap H) c Tb:=by
   have gP:mainGlobals ≠ Tb:=fun q=>by
    obtain⟨o,es,ep,e,hd,_⟩:=T.g
    rw[q,Ek]at e;cases e;cases hd
   obtain⟨bm,ob,b1,b2,b3,b4,b5,b6⟩:=T.bmain
   have We:ob.cls = .type "module":=b4
   refine⟨⟨bm,ob,b1,b2,fun q=>?_,fun q=>?_,base_of b3 (Wc b3 (by rw[We];simp) (by rw[We];simp)),b4,b5,b6⟩,?_,gP⟩
   ·obtain⟨o,es,ep,e,hd,_⟩:=T.g
    rw[q,e]at b3;cases b3;rw[hd]at b6;cases b6
   ·rw[q,Ek]at b3;cases b3;cases b4
   ·obtain⟨o,vs',file,tf,flags,tg,inF,text,tt,e1,e2,r⟩:=hC
    exact⟨o,vs',file,tf,flags,tg,inF,text,tt,base_of e1 (Wc e1 (by rw[e2];simp) (by rw[e2];simp)),e2,r⟩
  have e0:CQ P w K mg (jO s₁.heap H) callerA [] s₁ H:=⟨rfl,hM,fun b o e=>wA e,le_of_eq (rh _ _),trivial,fun b hb=>absurd (show b ∈ ([]:List Addr) from hb) (by simp),zV, .of_eq hg⟩
  refine codeAny_mono ((F _ Wd (ON T.g) hN).run callerA [] s₁ H ⟨[.ref a],[]⟩ [.ref a] [.ref a] _ _ hr e0 (Lo s₁ (.ref a)) (.cons rfl .nil) (Cz H VZ hS)) fun r s' h=>?_
  cases r with
  | error e=>exact(Ra H e s' h).elim
  | ok fl =>
   cases fl with
   | next=>exact False.elim h
   | brk=>exact False.elim h
   | cont=>exact False.elim h
   | ret u =>
    obtain⟨v,H',os,bare,un,Lp,r',q⟩:=h
    have q':v = .bl true:=q
    subst q'
    obtain rfl:u=Value.bool true:=r'
    have keep:∀ b o,b ≠ Tb->s₁.heap.get? b=some o->s'.heap.get? b=some o:=fun b o nb e=>by
     cases q:H b with
     | none=>exact un.keep b o e q (by intro z;exact absurd (show b ∈ ([]:List Addr) from z) (by simp)) (by simp)
     | some u =>
      rcases hO b nb with z | ⟨ob,xs,z⟩
      ·rw[q]at z;cases z
      ·have z2:=un.BH b ob _ z
       obtain⟨e1,_⟩:=zV b _ z
       obtain⟨e2,_⟩:=Lp b _ z2
       rw[e]at e1;cases e1
       exact e2
    obtain⟨more,hm⟩:=un.BI Tb _ VZ
    have gm:s'.heap.get? Tb=some (PySem.W.tabObj (#[] ++ more)):=Lp Tb _ hm
    refine⟨rfl,⟨fun b o e=>?_,fun b o e=>?_⟩,os,bare⟩
    ·by_cases hb:b=Tb
     ·subst hb;rw[Ek]at e;cases e
      exact .inr (.inl ⟨(hC.tab Ek).isCodeTable,rfl,#[],more,rfl,gm⟩)
     ·exact .inl (keep b o hb e)
    ·by_cases hb:b=Tb
     ·subst hb;exact⟨_,gm⟩
     ·exact⟨o,keep b o hb e⟩
 cases hk:K.lookup a with
 | some o =>
  have e:=KX a o hk
  rw[ha]at e
  cases e
  refine core (fun b=>if b=Tb then some (.B4 #[]) else none) (if_pos rfl) (fun b nb => .inl (if_neg nb)) (.inr ⟨_,vs.toArray,_,hk,rfl,rfl,rfl,by rw[size_toArray,Rb];exact hl,by simpa using rv⟩) (fun b u z=>?_) (fun b z=>?_) fun z=>absurd (if_neg VY) z
  ·by_cases hb:b=Tb
   ·have z':=(if_pos hb).symm.trans z
    cases z'
    subst hb
    exact Ek
   ·have z':=(if_neg hb).symm.trans z
    cases z'
  ·by_cases hb:b=Tb
   ·exact .inr hb
   ·exact absurd (if_neg hb) z
 | none =>
  refine core (fun b=>if b=Tb then some (.B4 #[]) else if b=a then some (.BA { cls := .type "list",data := .seq vs.toArray } (.lst (ns.map V.int))) else none) (if_pos rfl) (fun b nb=>?_) (.inl (.inr ⟨{ cls := .type "list",data := .seq vs.toArray },(if_neg VY).trans (if_pos rfl)⟩)) (fun b u z=>?_) (fun b z=>?_) fun _=>hk
  ·by_cases hb:b=a
   ·exact .inr ⟨_,_,(if_neg nb).trans (if_pos hb)⟩
   ·exact .inl ((if_neg nb).trans (if_neg hb))
  ·by_cases hb:b=Tb
   ·have z':=(if_pos hb).symm.trans z
    cases z'
    subst hb
    exact Ek
   ·have z:=(if_neg hb).symm.trans z
    by_cases hb:b=a
    ·have z':=(if_pos hb).symm.trans z
     cases z'
     subst hb
     exact⟨ha,by rw[length_map];exact hl,vs,_,rv,ha⟩
    ·have z':=(if_neg hb).symm.trans z
     cases z'
  ·by_cases hb:b=Tb
   ·exact .inr hb
   ·by_cases G9:b=a
    ·exact .inl G9
    ·exact absurd ((if_neg hb).trans (if_neg G9)) z
theorem xH {K:Frag}{x:Str}{f c Tb:Addr}{oc oT:Value}{od dT:Option Addr}{fd:FuncData}{CJ sT:Array (Option Value)}{vT:Array Value}(a:nsIn K mainGlobals x=some (some (.ref f)))(l:K.lookup f=some ⟨oc,od, .func fd,CJ⟩)(hc:fd.code = .ref c)(lc:K.lookup c=some ⟨oT,dT, .fields vT,sT⟩)(hv:vT[11]? = some (.ref Tb)) :
  PySem.W.tabIn K x=some (c,Tb):=by
 unfold PySem.W.tabIn
 rw[a];dsimp only;rw[l];dsimp only;rw[hc];dsimp only;rw[lc];dsimp only;rw[hv]
theorem E8 {l:PySem.W.OpenLaw}{n k:Nat}{q:Program}{loose:List Str}{XP:(Str->Option Value)->Heap->Prop}{YP:World->Heap->Prop}{d dd:DefRec}{K:Params->Frag}{CX:World->lJ}{sp:World->Addr->Sp}{x y:Str}
  (hn:l.most=some n) (Eh:n <= sizeLine) (K6:d.params.defaults=[]) (hr:zZ k callerA)
  (hY:∀ (w:World)(h:Heap),YP w h->(K w.params).In h) (E7:(PyProof.Rows.recsOf q).find? (fun e=>e.name == y)=some dd) (GG:∀ p,PySem.W.noTabs (K p)=true)
  (F:∀ (w:World)(mg:Str->Option Value)(fa:Addr)(h:Heap),(K w.params).In h->h.Ns mainGlobals mg->mg d.name=some (.ref fa) ->
   ∃ (fd:FuncData)(c Tb:Addr),PySem.W.tabIn (K w.params) y=some (c,Tb)/\(∀ (s:Shared)(u:Value),BindsTo s fd ⟨[u],[]⟩ [(x,u)]) /\
    ∀ base:Heap,(K w.params).In base->base.Ns mainGlobals mg->Fb mg base c Tb->zP l.prog w (K w.params) mg base (CX w) k fa fd [x] (sp w Tb))
  (Cz:∀ (w:World)(H:Hp)(a:Addr)(ns:List Int)(Tb:Addr),ns.length <= n->H Tb=some (.B4 #[])->zU (K w.params) H a (ns.map V.int)->sp w Tb [.ref a] H (fun v _=>v = .bl true) fun _ _ _=>False)
  (Ra:∀ (w:World)(H:Hp)(s:Shared)(e:Value)(s':Shared),CX w [] H s (fun _ _ _=>False) e s'->False) :
  PySem.W.WalkO q loose XP YP l.row.toRowW d [] (fun f vs=>PySem.call f vs):=by
 refine VC.CV hn K6 fun w s₀ s₁ mg mb fa o pm cd doc a vs ns G Y ho hd B6 hmg HY hints hlen hg=>?_
 have KX:=hY w _ Y
 obtain⟨fd,c,Tb,Rc,hb,hF⟩:=F w mg fa _ KX G.T.g hmg
 exact qZ G.T (PySem.W.tab_of G.T KX E7 Rc) (GG _) KX hg HY hints (le_trans hlen Eh) hr hF hb (fun H hO hS=>Cz w H a ns Tb hlen hO hS) fun H e s'=>Ra w H s₁ e s'
end L2
namespace L2
open PySem
theorem bH {J:It}{g:TG}{tt:TT}{te:TE}{σ0:St}{H:Hp}{Q:VK}(n:Nat)(hn:n < sizeLine)(W:Nat->List V->Hp->Prop)(h0:W 0 [] H)(hlen:∀ i acc H',W i acc H'->acc.length <= i)
  (turn:∀ i acc H',i < n->W i acc H'->J.go i H'/\∀ x H2,J.EU i H' x H2->g x σ0 H2 fun σ2 H3=>tt σ2 H3 fun b H4=>if b=true then te σ2 H4 fun y H5=>W (i + 1) (acc ++ [y]) H5 else W (i + 1) acc H4)
  (stop:∀ acc H',W n acc H'->J.stop n H'/\∀ D,H' D=none->Q (.ref D) (upd H' D (.lst acc))):du J g tt te σ0 Q H:=by
 refine⟨fun i m acc H'=>m=n - i/\i <= n/\W i acc H',⟨n,by simp,zero_le _,h0⟩,?_⟩
 rintro i m acc H' ⟨rfl,hi,w⟩
 refine⟨by have:=hlen i acc H' w;omega,?_⟩
 by_cases AG:i < n
 ·obtain⟨go,q⟩:=turn i acc H' AG w
  exact .inr ⟨go,fun AL H2=>W (i + 1) AL H2,fun AL H2 w2=>⟨n - (i + 1),by omega,rfl,AG,w2⟩,q⟩
 ·have e:i=n:=by omega
  subst e
  exact .inl (stop acc H' w)
theorem zO.new {H H':Hp}{a:Addr}{o:HO}(h:zO H H')(n:H' a=none):zO H (upd H' a o):=fun b u e=>by rw[ae (ag (h _ _ e) n)];exact h _ _ e
end L2
namespace L2
open PySem
theorem Au {N P:List Str}{sc:Scope}(a:autoParam (sc.kind = .function) η)(b:autoParam (sc.isCoroutine=false) η)(c:autoParam (sc.isGenerator=false) η)(d:autoParam (N.Nodup) ξ)(e:autoParam (N.take P.length=P) η)(f:autoParam (∀ x ∈ P,sc.names.lookup x=some .local∨sc.names.lookup x=some .cell) ξ)(g:autoParam (∀ y ∈ sc.names,y.2 ≠ .free) ξ):ao N P sc:=⟨a,b,c,d,e,f,g⟩
theorem Cg {N:List Str}{sc scope:Scope}{capN:List Str}{cap:List Nat}(a:autoParam (scope.kind = .function) η)(b:autoParam (∀ y ∈ scope.names,y.2 ≠ .cell) ξ)(c:autoParam (∀ y ∈ scope.names,y.2 = .local->scope.names.lookup y.1=some .local) ξ)(d:autoParam (∀ y ∈ scope.names,y.2 = .free->sc.names.lookup y.1=some .cell∨sc.names.lookup y.1=some .free) ξ)(e:autoParam (cap.length=capN.length) η)(f:autoParam (∀ p ∈ capN.zip cap,scope.names.lookup p.1=some .free/\N[p.2]? = some p.1) ξ):Bk N sc scope capN cap:=⟨a,b,c,d,e,f⟩
end L2
namespace K62
open PySem L2
variable {P:Program}{w:World}{K:Frag}{mg:Str->Option Value}{base:Heap}
noncomputable def top (i:Nat):Stmt:=PySem.Challenge.pw_wormyard_k62_whole_every_run_ends.main.body.getD i (.Pass ⟨0,0,0,0⟩)
abbrev yl:Stmt:=top 2
abbrev lU:Stmt:=top 3
abbrev OO:Stmt:=aG (top 7) 0
abbrev OP:Stmt:=aG (top 8) 0
abbrev OQ:Stmt:=aG (top 9) 0
abbrev v9:Stmt:=aG (top 14) 0
abbrev gc:Stmt:=top 18
abbrev iN:Stmt:=top 19
abbrev yn:Stmt:=top 20
abbrev yi:Stmt:=top 24
abbrev vA:Stmt:=top 27
abbrev sY:Stmt:=top 28
abbrev yk:Stmt:=top 29
abbrev lZ:Stmt:=top 31
abbrev Rf:Stmt:=top 32
abbrev yt:Stmt:=top 36
abbrev Lq:Stmt:=top 37
abbrev ge:Stmt:=top 45
abbrev sO:Stmt:=top 46
abbrev lW:Stmt:=top 47
abbrev lY:Stmt:=aG (top 25) 0
abbrev ow:Stmt:=aG (top 25) 1
abbrev yy:Stmt:=aG (top 25) 2
abbrev sV:Stmt:=aG (top 25) 3
abbrev lX:Stmt:=aG (top 25) 4
abbrev yj:Stmt:=aG (top 33) 0
abbrev sQ:Stmt:=aG (top 34) 0
abbrev ou:Stmt:=aG (top 34) 1
abbrev sX:Stmt:=aG (top 38) 0
abbrev sP:Stmt:=aG (top 38) 1
abbrev yq:Stmt:=aG (top 40) 0
abbrev sW:Stmt:=aG (top 40) 1
abbrev ym:Stmt:=aG (top 40) 2
abbrev oB:Stmt:=aG (top 40) 3
abbrev sR:Stmt:=aG (top 40) 4
abbrev oE:Stmt:=aG (top 40) 5
abbrev yp:Stmt:=aG (top 40) 7
abbrev tw:Stmt:=aG (top 48) 0
abbrev tj:Stmt:=aG (top 48) 1
abbrev ij:Stmt:=aG (top 49) 0
abbrev gF:Stmt:=aG (top 49) 1
abbrev oz:Stmt:=aG (top 49) 2
abbrev lT:Stmt:=aG (top 49) 3
abbrev lS:Stmt:=aG (top 49) 4
abbrev oy:Stmt:=aG (top 49) 5
abbrev lf:Stmt:=aG (top 49) 6
abbrev gE:Stmt:=aG (top 49) 7
abbrev sZ:Stmt:=aG (top 49) 8
abbrev Rg:Stmt:=aG (top 49) 9
abbrev t8:Stmt:=aG (top 49) 10
abbrev oC:Stmt:=aG (top 49) 11
abbrev yr:Stmt:=aG (top 49) 12
abbrev sU:Stmt:=aG (top 49) 13
abbrev sS:Stmt:=aG (top 49) 14
abbrev tu:Stmt:=aG (top 49) 17
abbrev o0:Stmt:=aG (top 49) 19
abbrev ld:Stmt:=aG (top 49) 20
abbrev tD:Stmt:=top 51
abbrev yo:Stmt:=top 52
abbrev oA:Stmt:=top 53
abbrev jn:Stmt:=top 54
abbrev t7:Stmt:=top 55
abbrev oF:Stmt:=top 56
abbrev gH:Stmt:=top 57
abbrev lg:Stmt:=top 58
abbrev lV:Stmt:=top 59
abbrev gG:Stmt:=top 60
structure eO (mg:Str->Option Value):Prop where
 J4:mg "isinstance" = none
 int:mg "int" = none
 bool:mg "bool" = none
 len:mg "len" = none
 enum:mg "enumerate" = none
 tuple:mg "tuple" = none
 range:mg "range" = none
 list:mg "list" = none
 all:mg "all" = none
 abs:mg "abs" = none
 str:mg "str" = none
 max:mg "max" = none
 sum:mg "sum" = none
noncomputable def xi (H:Hp)(v:V)(p:Int × Int):Prop:=∃ t,v = .ref t/\H t=some (.tup [.int p.1, .int p.2])
abbrev Ak (H:Hp):List V->List (Int × Int)->Prop:=Paired (xi H)
theorem Ak.same {H H':Hp}(h:zO H H'):∀ {vs:List V}{ps:List (Int × Int)},Ak H vs ps->Ak H' vs ps:=fun zS=>by
 induction zS with
 | nil=>exact .nil
 | cons zz r ih=>obtain⟨t,e,q⟩:=zz;exact .cons ⟨t,e,h _ _ q⟩ ih
theorem Ak.get {H:Hp}:∀ {vs:List V}{ps:List (Int × Int)}{i:Nat}{v:V},Ak H vs ps->vs[i]? = some v->∃ p,ps[i]? = some p/\xi H v p:=by
 intro _ _ i _ zS
 induction zS generalizing i with
 | nil=>intro h;cases h
 | cons x r ih =>
  intro h
  cases i with
  | zero=>cases h;exact⟨_,rfl,x⟩
  | succ i=>exact ih (i:=i) h
theorem Ak.F1 {H:Hp}:∀ {vs:List V}{ps:List (Int × Int)}{i:Nat}{p:Int × Int},Ak H vs ps->ps[i]? = some p->∃ v,vs[i]? = some v/\xi H v p:=by
 intro _ _ i _ zS
 induction zS generalizing i with
 | nil=>intro h;cases h
 | cons x r ih =>
  intro h
  cases i with
  | zero=>cases h;exact⟨_,rfl,x⟩
  | succ i=>exact ih (i:=i) h
theorem Ak.snoc {H:Hp}{v:V}{p:Int × Int}(h:xi H v p):∀ {vs:List V}{ps:List (Int × Int)},Ak H vs ps->Ak H (vs ++ [v]) (ps ++ [p]):=fun zS=>by
 induction zS with
 | nil=>exact .cons h .nil
 | cons q r ih=>exact .cons q ih
noncomputable def jx (n:Int)(p:Int × Int):Bool:=decide (0 <= p.1/\p.1 <= n - 1) && (decide (0 <= p.2/\p.2 <= n - 1) && !decide (p.1=p.2))
noncomputable def kQ:Sp:=fun vs H Q _=>∃ i:Int,vs=[.int i]/\Q (.bl true) H
noncomputable def jf:Sp:=fun vs H Q _=>∃ i a b:Int,vs=[.int i, .int a, .int b]/\Q (.bl (decide (a <= i/\i <= b))) H
noncomputable def rW:Sp:=fun vs H Q _=>∃ n a b:Int,vs=[.int n, .int a, .int b]/\Q (.bl (jx n (a,b))) H
theorem pG:ao ["value"] ["value"] (ah gc):=L2.Au
theorem mB {f:Addr}{fd:FuncData}(F:Al K "is_whole" "is_whole" gc f fd)(T:eO mg):zP P w K mg base aB 1 f fd ["value"] kQ:=by
 refine F.ok pG (fun _ _ _ _ h=>?_) (fun _ _ _ s H _ Q E hr h=>?_)
 ·obtain⟨m,rfl,_⟩:=h
  rfl
 ·obtain⟨i,rfl,q⟩:=h
  refine⟨_,ai (ar (dA (av n0 rfl T.J4 PyProof.Rows.boot_isinstance (aa (pv 0) (aa (fJ (v := .ty "int") rfl T.int PySem.Pv.boot_int rfl) ad)))
   (dz (tS (av n0 rfl T.J4 PyProof.Rows.boot_isinstance (aa (pv 0) (aa (fJ (v := .ty "bool") rfl T.bool PySem.Pv.boot_bool rfl) ad))))))),?_⟩
  refine⟨_,rfl, .inl ⟨i,rfl,true,rfl,?_⟩⟩
  refine aJ ?_
  exact⟨_,rfl, .inr (.inl ⟨i,rfl,false,rfl,q⟩)⟩
theorem lR:ao ["value", "least", "most"] ["value", "least", "most"] (ah iN):=L2.Au
theorem qO {f fh:Addr}{fd CK:FuncData}(F:Al K "is_within" "is_within" iN f fd)(T:eO mg)(mh:mg "is_whole" = some (.ref fh))(Fh:Al K "is_whole" "is_whole" gc fh CK)(bh:Binds K CK ["value"] []) :
  zP P w K mg base aB 2 f fd ["value", "least", "most"] jf:=by
 have G:zP P w K mg base aB 1 fh CK ["value"] kQ:=mB Fh T
 refine F.ok lR (fun _ _ _ _ h=>?_) (fun _ _ _ s H _ Q E hr h=>?_)
 ·obtain⟨i,a,b,rfl,_⟩:=h
  rfl
 ·obtain⟨i,a,b,rfl,q⟩:=h
  refine⟨_,ai (ar (dA (au G hr rfl mh Fh.kp bh .nil ap (aa (pv 0) ad)) (dz (m7 pO pO (pv 1) (pv 0) (pv 2))))),?_⟩
  refine⟨_,rfl,i,rfl,true,rfl,aJ ?_⟩
  refine⟨_,rfl,_,rfl,_,_,rfl,rfl,_,rfl,?_⟩
  by_cases h1:a <= i
  ·rw[decide_eq_true h1]
   refine aJ ⟨_,rfl,_,_,rfl,rfl,?_⟩
   show Q (V.bl (decide (i <= b))) H
   by_cases h2:i <= b
   ·rw[decide_eq_true h2];rw[decide_eq_true ⟨h1,h2⟩]at q;exact q
   ·rw[decide_eq_false h2];rw[decide_eq_false fun z=>h2 z.2]at q;exact q
  ·rw[decide_eq_false h1]
   refine aI ?_
   rw[decide_eq_false fun z=>h1 z.1]at q;exact q
theorem GH:ao ["places", "one", "other", "last"] ["places", "one", "other"] (ah yi):=L2.Au
theorem yF {f fh:Addr}{fd CK:FuncData}(F:Al K "are_two_places" "are_two_places" yi f fd)(mh:mg "is_within" = some (.ref fh))(kh:keepIn K (.ref fh)=true)(bh:Binds K CK ["value", "least", "most"] [])
  (G:zP P w K mg base aB 2 fh CK ["value", "least", "most"] jf) :
  zP P w K mg base aB 3 f fd ["places", "one", "other"] rW:=by
 refine F.ok GH (fun _ _ _ _ h=>?_) (fun _ _ _ s H _ Q E hr h=>?_)
 ·obtain⟨i,a,b,rfl,_⟩:=h
  rfl
 ·obtain⟨n,a,b,rfl,q⟩:=h
  refine⟨_,af (aC (i:=3) GH.nd rfl (Or.inl rfl) (az dB (pv 0) aj))
   (ai (ar (dA (au G hr rfl mh kh bh .nil ap (aa (pv 1) (aa aj (aa (pv 3) ad))))
    (dA (au G hr rfl mh kh bh .nil ap (aa (pv 2) (aa aj (aa (pv 3) ad)))) (dz (dj jw (pv 1) (pv 2) (aA _))))))),?_⟩
  refine⟨_,rfl,_,_,rfl,rfl,?_⟩
  refine⟨_,rfl,_,rfl,a,0,n - 1,rfl,_,rfl,?_⟩
  unfold jx at q
  dsimp only at q
  by_cases h1:0 <= a/\a <= n - 1
  ·rw[decide_eq_true h1]at q ⊢
   rw[Bool.true_and]at q
   refine aJ ⟨_,rfl,_,rfl,b,0,n - 1,rfl,_,rfl,?_⟩
   by_cases h2:0 <= b/\b <= n - 1
   ·rw[decide_eq_true h2]at q ⊢
    rw[Bool.true_and]at q
    refine aJ ⟨_,rfl,_,rfl,rfl,?_⟩
    have e:decide (V.int a=V.int b)=decide (a=b):=by
     by_cases h:a=b
     ·rw[h];simp
     ·rw[decide_eq_false h,decide_eq_false fun z=>h (by injection z)]
    show Q (V.bl (!decide (V.int a=V.int b))) H
    rw[e];exact q
   ·rw[decide_eq_false h2]at q ⊢
    exact aI q
  ·rw[decide_eq_false h1]at q ⊢
   exact aI q
end K62
namespace L2
open PySem
theorem ir {H1:Hp}{e d:Addr}{o o' x:HO}(he:H1 e=none)(hd:upd H1 e o d=none) :
  zO H1 (uR (upd (upd (upd H1 e o) d x) e o') e)/\(uR (upd (upd (upd H1 e o) d x) e o') e) d=some x/\(upd (upd (upd H1 e o) d x) e o') e=some o':=by
 have Dj:d ≠ e:=fun z=>by rw[z,ac]at hd;cases hd
 have hd1:H1 d=none:=by rw[ae Dj]at hd;exact hd
 refine⟨fun b u q=>?_,?_,ac⟩
 ·have Cj:b ≠ e:=ag q he
  have hbd:b ≠ d:=ag q hd1
  rw[dE Cj,ae Cj,ae hbd,ae Cj];exact q
 ·rw[dE Dj,ae Dj,ac]
end L2
namespace K62
open PySem L2
variable {P:Program}{w:World}{K:Frag}{mg:Str->Option Value}{base:Heap}
inductive Due | places | many (k:Nat) | An (k:Nat) | good
noncomputable def nB (n:Int)(ps:List (Int × Int)):Option Nat:=ps.findIdx? fun p=>!jx n p
noncomputable def fD (n:Int)(ps:List (Int × Int)):Due:=if decide (1 <= n/\n <= 12)=false then .places else if 40 < ps.length then .many ps.length else match nB n ps with | some k => .An k | none => .good
structure Cs where
 np:Addr
 tm:Addr
 nr:Addr
 land:Addr
noncomputable def qA (K:Frag)(fld:Str):Sp:=fun vs H Q _=>∃ e C tt v,vs=[.ref e,v]/\H e=some (bI e C tt none)/\gi K C/\findIn K (.ref C) fld=some none/\∀ d,H d=none->Q .Af (upd (upd H d (.xd [(fld,v)])) e (bI e C tt (some d)))
noncomputable def ck (H:Hp)(c:Cs)(x dx t:Addr)(n:Int)(Aa:List V)(ps:List (Int × Int)):Prop:=H x=some (.ins c.land dx [("places", .int n),("lanes", .ref t)])/\H t=some (.tup Aa)/\Ak H Aa ps
noncomputable def sH (K:Frag)(c:Cs):Sp:=fun vs H Q E=>∃ x dx n p Ad ps,vs=[.ref x, .int n, .ref p]/\H x=some (.ins c.land dx [])/\zU K H p Ad/\Ak H Ad ps/\Ad.length <= 1000 /\
 (fD n ps = .places->∀ H',zO H H'->E (.ref c.np) none H') /\
 (∀ k,fD n ps = .many k->∀ H' d,zO H H'->H' d=some (.xd [("many", .int k)])->E (.ref c.tm) (some d) H') /\
 (∀ k,fD n ps = .An k->∀ H' d,zO H H'->H' d=some (.xd [("lane", .int k)])->E (.ref c.nr) (some d) H') /\
 (fD n ps = .good->∀ H' t Aa,(∀ b o,b ≠ x->H b=some o->H' b=some o)->ck H' c x dx t n Aa ps->Q .Af H')
noncomputable def rP (s:Stmt):Scope:=match s with
 | .Assign _ (.Call _ [.ListComp _ _ sc _] _ _) _=>sc
 | _=>zQ0
noncomputable def jq (s:Stmt):Scope:=match aF s with
 | .Return (some (.ListComp _ _ sc _)) _ :: _=>sc
 | _=>zQ0
abbrev NI:List Str:=["self", "places", "lanes", "lane", "pair"]
structure Exc (K:Frag)(mg:Str->Option Value)(c:Cs)(f1 f2:Addr)(d1 d2:FuncData):Prop where
 mnp:mg "NoPlaces" = some (.ref c.np)
 Wg:bq K c.np none=true
 knp:keepIn K (.ref c.np)=true
 mtm:mg "TooMany" = some (.ref c.tm)
 Wh:bq K c.tm (some (.ref f1))=true
 ktm:keepIn K (.ref c.tm)=true
 ctm:gi K c.tm
 ntm:findIn K (.ref c.tm) "many" = some none
 itm:isFn K (.ref f1)=true
 Ftm:Al K "__init__" "TooMany.__init__" OO f1 d1
 btm:Binds K d1 ["self", "many"] []
 mnr:mg "NoRoad" = some (.ref c.nr)
 Wi:bq K c.nr (some (.ref f2))=true
 knr:keepIn K (.ref c.nr)=true
 cnr:gi K c.nr
 nnr:findIn K (.ref c.nr) "lane" = some none
 inr:isFn K (.ref f2)=true
 Fnr:Al K "__init__" "NoRoad.__init__" OP f2 d2
 bnr:Binds K d2 ["self", "lane"] []
structure kL (K:Frag)(c:Cs):Prop where
 cl:Cr K c.land
 np:Ac K c.land "places"
 nl:Ac K c.land "lanes"
theorem jG {n:Int}{ps:List (Int × Int)}(h:∀ p ∈ ps,jx n p=true):nB n ps=none:=by
 unfold nB
 rw[List.findIdx?_eq_none_iff]
 intro p hp
 rw[h p hp];rfl
theorem pj {n:Int}{ps:List (Int × Int)}{i:Nat}{p:Int × Int}(h:∀ q ∈ ps.take i,jx n q=true)(hi:ps[i]? = some p)(hb:jx n p=false):nB n ps=some i:=by
 unfold nB
 rw[List.findIdx?_eq_some_iff_getElem]
 obtain⟨AG,e⟩:=List.getElem?_eq_some_iff.mp hi
 refine⟨AG,by rw[e,hb];rfl,fun j hj=>?_⟩
 have hm:ps[j]'(lt_trans hj AG) ∈ ps.take i:=List.mem_take_iff_getElem.mpr ⟨j,by omega,rfl⟩
 rw[h _ hm];simp
noncomputable def Off (x:Addr)(H H':Hp):Prop:=∀ b o,b ≠ x->H b=some o->H' b=some o
theorem Off.sq {K:Frag}{H H':Hp}{x p C dx:Addr}{fs:List (Str × V)}{xs:List V}(o:Off x H H')(hx:H x=some (.ins C dx fs))(h:zU K H p xs):zU K H' p xs:=by
 rcases h with (h | ⟨ob,h⟩) | h
 ·exact .inl (.inl (o _ _ (aR h hx (by intro z;cases z)) h))
 ·exact .inl (.inr ⟨ob,o _ _ (aR h hx (by intro z;cases z)) h⟩)
 ·exact .inr h
theorem Off.DD {H H':Hp}{x C dx:Addr}{fs:List (Str × V)}(o:Off x H H')(hx:H x=some (.ins C dx fs)):∀ {vs:List V}{ps:List (Int × Int)},Ak H vs ps->Ak H' vs ps:=fun zS=>by
 induction zS with
 | nil=>exact .nil
 | cons zz r ih=>obtain⟨t,e,q⟩:=zz;exact .cons ⟨t,e,o _ _ (aR q hx (by intro z;cases z)) q⟩ ih
theorem Off.same {H H1 H2:Hp}{x:Addr}(a:Off x H H1)(b:zO H1 H2):Off x H H2:=fun c o n e=>b _ _ (a c o n e)
theorem Rh:ao ["self", "many"] ["self", "many"] (ah OO):=L2.Au
theorem Ri:ao ["self", "lane"] ["self", "lane"] (ah OP):=L2.Au
theorem Lr {f:Addr}{fd:FuncData}(F:Al K "__init__" "TooMany.__init__" OO f fd):zP P w K mg base aB 1 f fd ["self", "many"] (qA K "many"):=by
 refine F.ok Rh (fun _ _ _ _ h=>?_) (fun _ _ _ s H _ Q E hr h=>?_)
 ·obtain⟨e,C,tt,v,rfl,_⟩:=h
  rfl
 ·obtain⟨e,C,tt,v,rfl,h1,h2,h3,q⟩:=h
  refine⟨_,ai (lm (pv 0) (pv 1) rfl),?_⟩
  exact⟨_,rfl,_,rfl,e,C,tt,rfl,h1,h2,h3,q⟩
theorem Ls {f:Addr}{fd:FuncData}(F:Al K "__init__" "NoRoad.__init__" OP f fd):zP P w K mg base aB 1 f fd ["self", "lane"] (qA K "lane"):=by
 refine F.ok Ri (fun _ _ _ _ h=>?_) (fun _ _ _ s H _ Q E hr h=>?_)
 ·obtain⟨e,C,tt,v,rfl,_⟩:=h
  rfl
 ·obtain⟨e,C,tt,v,rfl,h1,h2,h3,q⟩:=h
  refine⟨_,ai (lm (pv 0) (pv 1) rfl),?_⟩
  exact⟨_,rfl,_,rfl,e,C,tt,rfl,h1,h2,h3,q⟩
theorem D3:ao NI ["self", "places", "lanes"] (ah lY):=L2.Au
theorem zB:Bk NI (ah lY) (rP ((aF lY).getD 4 (.Pass ⟨0,0,0,0⟩))) [] []:=L2.Cg
theorem yY:(["pair"]:List Str).Nodup:=by decide +kernel
theorem wz {c:Cs}{f fw ft f1 f2:Addr}{fd dw dt d1 d2:FuncData}{t1 t2:Tok}(F:Al K "__init__" "Land.__init__" lY f fd)(T:eO mg)(L:kL K c)(X:Exc K mg c f1 f2 d1 d2)
  (mw:mg "is_within" = some (.ref fw)) (kw:keepIn K (.ref fw)=true) (bw:Binds K dw ["value", "least", "most"] []) (Gw:zP P w K mg base aB 2 fw dw ["value", "least", "most"] jf)
  (mt:mg "are_two_places" = some (.ref ft)) (kt:keepIn K (.ref ft)=true) (bt:Binds K dt ["places", "one", "other"] []) (Gt:zP P w K mg base aB 3 ft dt ["places", "one", "other"] rW)
  (mp:mg "MOST_PLACES" = some (.int 12 t1)) (ml:mg "MOST_LANES" = some (.int 40 t2)) :
  zP P w K mg base (dS P w) 4 f fd ["self", "places", "lanes"] (sH K c):=by
 have Gm:zP P w K mg base aB 1 f1 d1 ["self", "many"] (qA K "many"):=Lr X.Ftm
 have Gr:zP P w K mg base aB 1 f2 d2 ["self", "lane"] (qA K "lane"):=Ls X.Fnr
 refine F.EY D3 (fun _ _ _ _ h=>?_) (fun _ _ _ s H _ Q E hr h=>?_)
 ·obtain⟨x,dx,n,p,Ad,ps,rfl,_⟩:=h
  rfl
 ·obtain⟨x,dx,n,p,Ad,ps,rfl,hx,hp,hl,hlen,h1,h2,h3,h4⟩:=h
  have Be:zZ 2 _:=hr.mono (by decide)
  refine⟨_,af (aQ (ca (bJ (au Gw Be rfl mw kw bw .nil ap (aa (pv 1) (aa aj (aa (eA (v := .int 12) rfl mp ⟨_,rfl⟩) ad))))))
    (ai (b9 rfl X.Wg aN (bZ X.Wg X.knp rfl rfl X.mnp (aa b0 ad)))) aH)
   (af (aQ (aw tX (av aq rfl T.len PySem.boot_len (aa (pv 2) ad)) (eA (v := .int 40) rfl ml ⟨_,rfl⟩) (aA _))
    (ai (b9 rfl X.Wh aN (iP X.Wh X.itm X.ktm Gm Be X.btm rfl X.mtm (aa (av aq rfl T.len PySem.boot_len (aa (pv 2) ad)) ad)))) aH)
   (af (bF pL rfl (mz rfl T.enum (aa (pv 2) ad)) (il rfl (bG (ax (i:=3) D3.nd rfl (Or.inl rfl)) (bG (ax (i:=4) D3.nd rfl (Or.inl rfl)) fH)))
    (ai (aQ (ca (bJ (au Gt hr rfl mt kt bt .nil ap (aa (pv 1) (aa (ay aE (pv 4) aj (fun _ _=>rfl)) (aa (ay aE (pv 4) aj (fun _ _=>rfl)) ad))))))
     (ai (b9 rfl X.Wi aN (iP X.Wi X.inr X.knr Gr Be X.bnr rfl X.mnr (aa (pv 3) ad)))) aH)))
   (af (aU (pv 0) (pv 1) rfl)
   (ai (aU (pv 0) (bU dG rfl T.tuple PySem.Pv.boot_tuple (aa (bv (own:=["pair"]) (capN:=[]) (cap:=[]) zB rfl (bT (pv 2))
    (fun C s' H' fp=>⟨ax (i:=0) yY rfl (Or.inl rfl),ci,bK (aa (ay (show nH _ (js K) from aE) (pv 0) aj (fun _ _=>rfl)) (aa (ay (show nH _ (js K) from aE) (pv 0) aj (fun _ _=>rfl)) ad))⟩)) ad)) rfl))))),?_⟩
  refine⟨_,rfl,n,1,12,rfl,_,rfl,?_⟩
  by_cases hn:1 <= n/\n <= 12
  rotate_left
  ·rw[decide_eq_false hn]
   refine aJ ⟨by show 1 <= sizeLine;decide,?_⟩
   exact h1 (by unfold fD;rw[if_pos (decide_eq_false hn)]) H (zO.refl H)
  rw[decide_eq_true hn]
  refine aI ?_
  have E9:Ad.length=ps.length:=Paired.length hl
  refine⟨_,rfl,p,_,rfl, .inl hp,_,_,rfl,rfl,_,rfl,?_⟩
  by_cases hm:40 < ps.length
  ·rw[decide_eq_true (show (40:Int) < (Ad.length:Nat) by omega)]
   refine aJ ⟨_,rfl,p,_,rfl, .inl hp,by show 1 <= sizeLine;decide,fun e tt he=>⟨e,_,tt,_,rfl,ac,X.ctm,X.ntm,fun d hd=>⟨rfl,?_⟩⟩⟩
   obtain⟨m1,m2,m3⟩:=ir (o:=bI e c.tm tt none) (o':=bI e c.tm tt (some d)) (x := .xd [("many", .int (Ad.length:Nat))]) he hd
   refine⟨some d,m3,h2 ps.length ?_ _ d m1 (by rw[m2,E9])⟩
   unfold fD
   rw[decide_eq_true hn,if_neg (by decide),if_pos hm]
  rw[decide_eq_false (show ¬ (40:Int) < (Ad.length:Nat) by omega)]
  refine aI ?_
  refine⟨_,rfl,p,rfl,⟨_,hp⟩,mV (sq:=fun H=>zU K H p) (xs:=Ad) (fun i σ H2=>∃ a b:Option V,zO H H2/\σ=[some (.ref x),some (.int n),some (.ref p),a,b]/\∀ q ∈ ps.take i,jx n q=true)
   ⟨none,none,zO.refl H,rfl,fun q hq=>by simp at hq⟩ (fun i σ H2 _ zS=>by obtain⟨a,b,s2,_⟩:=zS;exact s2.seq hp) ?_ ?_⟩
  ·rintro i v q σ H2 hv ⟨a,b,s2,rfl,Bo⟩ hq
   obtain⟨pr,hpr,t,rfl,ht⟩:=Ak.get hl hv
   have s3:zO H (upd H2 q (.tup [.int i, .ref t])):=s2.new hq
   refine⟨q,_,rfl,Ab.of ac,rfl,_,_,rfl,_,_,rfl,rfl,?_⟩
   have EX:Ab K (upd H2 q (.tup [.int i, .ref t])) t [.int pr.1, .int pr.2]:=Ab.of (s3 _ _ ht)
   refine⟨_,rfl,_,rfl,t,_,0,_,rfl,rfl,EX,ak (j:=0) rfl,?_⟩
   refine⟨_,rfl,t,_,1,_,rfl,rfl,EX,ak (j:=1) rfl,n,pr.1,pr.2,rfl,_,rfl,?_⟩
   cases ho:jx n (pr.1,pr.2) with
   | true =>
    refine aI ⟨some (.int i),some (.ref t),s3,rfl,fun z hz=>?_⟩
    rw[take_succ,hpr]at hz
    rcases mem_append.mp hz with hz | hz
    ·exact Bo z hz
    ·have:z=pr:=by simpa using hz
     rw[this];exact ho
   | false =>
    refine aJ ⟨_,rfl,by show 1 <= sizeLine;decide,fun e tt he=>⟨e,_,tt,_,rfl,ac,X.cnr,X.nnr,fun d hd=>⟨rfl,?_⟩⟩⟩
    obtain⟨m1,m2,m3⟩:=ir (o:=bI e c.nr tt none) (o':=bI e c.nr tt (some d)) (x := .xd [("lane", .int i)]) he hd
    refine⟨some d,m3,h3 i ?_ _ d (s3.trans m1) m2⟩
    unfold fD
    rw[decide_eq_true hn,if_neg (by decide),if_neg hm,pj Bo hpr ho]
  ·rintro σ H2 ⟨a,b,s2,rfl,Bo⟩
   have Lu:fD n ps = .good:=by
    unfold fD
    rw[decide_eq_true hn,if_neg (by decide),if_neg hm,jG (fun z hz=>Bo z (by rw[E9,take_length];exact hz))]
   have Fc:=s2 _ _ hx
   refine⟨_,rfl,_,rfl,x,c.land,dx,_,rfl,Fc,L.cl,L.np,by show 0 < 1000;decide,?_⟩
   generalize Wj:upd H2 x (.ins c.land dx (aK "places" (.int n) []))=H3
   have o3:Off x H H3:=fun b o hb e=>by rw[← Wj,ae hb];exact s2 _ _ e
   have x3:H3 x=some (.ins c.land dx [("places", .int n)]):=by rw[← Wj,ac];rfl
   have l3:Ak H3 Ad ps:=o3.DD hx hl
   have p3:zU K H3 p Ad:=o3.sq hx hp
   refine⟨_,rfl,p,rfl,⟨_,p3⟩,bH Ad.length (by rw[sizeLine_eq];omega) (fun i acc H4=>zO H3 H4/\acc.length=i/\Ak H4 acc (ps.take i)) ⟨zO.refl _,rfl, .nil⟩ (fun i acc H4 h=>le_of_eq h.2.1) ?_ ?_⟩
   ·rintro i acc H4 hi ⟨s4,ha,hA⟩
    have q4:=s4.seq p3
    refine⟨⟨Ad,Ad[i],q4,by simp[hi]⟩,fun y H5 ⟨e5,hy⟩=>?_⟩
    subst e5
    have hy:=hy Ad q4
    obtain⟨pr,hpr,t,rfl,ht⟩:=Ak.get l3 hy
    have EX:Ab K H5 t [.int pr.1, .int pr.2]:=Ab.of (s4 _ _ ht)
    refine⟨_,rfl,t,_,0,_,rfl,rfl,EX,ak (j:=0) rfl,?_⟩
    refine⟨_,rfl,t,_,1,_,rfl,rfl,EX,ak (j:=1) rfl,by show 2 <= sizeLine;decide,fun r Gq=>?_⟩
    refine⟨s4.new Gq,by rw[length_append,ha];rfl,?_⟩
    rw[take_succ,hpr]
    exact Ak.snoc ⟨r,rfl,ac⟩ (Ak.same (zO.new (zO.refl _) Gq) hA)
   ·rintro acc H4 ⟨s4,ha,hA⟩
    have q4:=s4.seq p3
    refine⟨⟨Ad,q4,Nat.le_refl _⟩,fun D hD=>?_⟩
    have s5:zO H3 (upd H4 D (.lst acc)):=s4.new hD
    refine⟨D,acc,rfl, .inl ⟨zU.of ac,fun t ht=>?_⟩⟩
    have s6:zO H3 (upd (upd H4 D (.lst acc)) t (.tup acc)):=s5.new ht
    have x6:=s6 _ _ x3
    refine⟨_,rfl,x,c.land,dx,_,rfl,x6,L.cl,L.nl,by show 1 < 1000;decide,?_⟩
    have htx:t ≠ x:=fun z=>by rw[z,s5 _ _ x3]at ht;cases ht
    refine h4 Lu _ t acc (fun b o hb e=>?_) ⟨by rw[ac];rfl,by rw[ae htx,ac],?_⟩
    ·rw[ae hb];exact s6 _ _ (o3 b o hb e)
    ·have hA':Ak H4 acc ps:=by rw[E9,take_length]at hA;exact hA
     have x4:=s4 _ _ x3
     have hA6:Ak (upd (upd H4 D (.lst acc)) t (.tup acc)) acc ps:=Ak.same (zO.new (zO.new (zO.refl _) hD) ht) hA'
     exact Off.DD (x:=x) (fun b o hb e=>by rw[ae hb];exact e) x6 hA6
noncomputable def j3 (sel:Int × Int->Int)(ps:List (Int × Int))(pl:Int)(m:Nat):List V:=((List.range m).filter fun k=>decide (sel (ps.getD k (0,0))=pl)).map fun k:Nat=>V.int k
noncomputable def qC (c:Cs)(sel:Int × Int->Int):Sp:=fun vs H Q _=>∃ (x dx t:Addr)(n:Int)(Aa:List V)(ps:List (Int × Int))(pl:Int),vs=[.ref x, .int pl]/\ck H c x dx t n Aa ps/\ps.length <= 1000 /\
 ∀ H' D,zO H H'->H' D=none->Q (.ref D) (upd H' D (.lst (j3 sel ps pl ps.length)))
theorem mS {sel:Int × Int->Int}{ps:List (Int × Int)}{pl:Int}{i:Nat}{pr:Int × Int}(h:ps[i]? = some pr):j3 sel ps pl (i + 1)=if decide (sel pr=pl) then j3 sel ps pl i ++ [V.int i] else j3 sel ps pl i:=by
 have e:ps.getD i (0,0)=pr:=by rw[getD_eq_getElem?_getD,h];rfl
 unfold j3
 rw[range_succ,filter_append]
 by_cases hs:sel pr=pl
 ·rw[if_pos (decide_eq_true hs),filter_cons_of_pos (by rw[e];exact decide_eq_true hs)];simp
 ·rw[if_neg (by rw[decide_eq_false hs];decide),filter_cons_of_neg (by rw[e,decide_eq_false hs];decide)];simp
theorem qc {sel:Int × Int->Int}{ps:List (Int × Int)}{pl:Int}{i:Nat}:(j3 sel ps pl i).length <= i:=by
 unfold j3
 rw[length_map]
 have:=length_filter_le (fun k=>decide (sel (ps.getD k (0,0))=pl)) (List.range i)
 rwa [length_range]at this
theorem Lv:ao ["self", "place"] ["self", "place"] (ah sV):=L2.Au
theorem Lw:Bk ["self", "place"] (ah sV) (jq sV) ["place"] [1]:=L2.Cg
theorem yg:ao ["self", "place"] ["self", "place"] (ah lX):=L2.Au
theorem zA:Bk ["self", "place"] (ah lX) (jq lX) ["place"] [1]:=L2.Cg
theorem pV:(["lane", "pair", "place"]:List Str).Nodup:=by decide +kernel
theorem gh (a b:Int):decide (V.int a=V.int b)=decide (a=b):=by
 by_cases h:a=b
 ·rw[h];simp
 ·rw[decide_eq_false h,decide_eq_false fun z=>h (by injection z)]
theorem ue {c:Cs}{f:Addr}{fd:FuncData}(F:Al K "out_of" "Land.out_of" sV f fd)(T:eO mg)(L:kL K c):zP P w K mg base aB 1 f fd ["self", "place"] (qC c Prod.fst):=by
 refine F.ok Lv (fun _ _ _ _ h=>?_) (fun _ _ _ s H _ Q E hr h=>?_)
 ·obtain⟨x,dx,t,n,Aa,ps,pl,rfl,_⟩:=h
  rfl
 ·obtain⟨x,dx,t,n,Aa,ps,pl,rfl,⟨hx,ht,hl⟩,hlen,q⟩:=h
  refine⟨_,ai (ar (bv (own:=["lane", "pair"]) (capN:=["place"]) (cap:=[1]) Lw rfl (mq rfl T.enum (aa (al (pv 0) rfl) ad))
   (fun C s' H' fp=>⟨(show PG _ _ (wP K 2 _) from il rfl (bG (ax (i:=0) pV rfl (Or.inl rfl)) (bG (ax (i:=1) pV rfl (Or.inl rfl)) fH))),
    cf (aw bB (ay (show nH _ (js K) from aE) (pv 1) aj (fun _ _=>rfl)) (pv 2) (aA _)),pv 0⟩))),?_⟩
  have E9:Aa.length=ps.length:=Paired.length hl
  refine⟨_,rfl,x,c.land,dx,_,_,rfl,hx,L.cl,L.nl,rfl,t,rfl,⟨_,Ab.of ht⟩,bH ps.length (by rw[sizeLine_eq];omega) (fun i acc H4=>zO H H4/\acc=j3 Prod.fst ps pl i) ⟨zO.refl _,rfl⟩ (fun i acc H4 h=>by rw[h.2];exact qc) ?_ ?_⟩
  ·rintro i acc H4 hi ⟨s4,rfl⟩
   have q4:Ab K H4 t Aa:=Ab.of (s4 _ _ ht)
   refine⟨⟨Aa,Aa[i]'(by omega),q4,by simp[E9,hi]⟩,fun y H5 ⟨r,CL,ey,h5⟩=>?_⟩
   obtain⟨v,hv,rfl⟩:=h5 Aa q4
   subst ey
   obtain⟨pr,hpr,u,rfl,hu⟩:=Ak.get hl hv
   have s5:zO H (upd H4 r (.tup [.int i, .ref u])):=s4.new CL
   refine⟨r,_,rfl,Ab.of ac,rfl,_,_,rfl,_,_,rfl,rfl,?_⟩
   refine⟨_,rfl,u,_,0,_,rfl,rfl,Ab.of (s5 _ _ hu),ak (j:=0) rfl,_,rfl,rfl,_,rfl,?_⟩
   rw[gh,mS hpr]
   cases hd:decide (pr.1=pl) with
   | true=>exact aJ ⟨_,rfl,s5,by simp[hd]⟩
   | false=>exact aI ⟨s5,by simp[hd]⟩
  ·rintro acc H4 ⟨s4,rfl⟩
   exact⟨⟨Aa,Ab.of (s4 _ _ ht),E9⟩,fun D hD=>q H4 D s4 hD⟩
theorem pQ {c:Cs}{f:Addr}{fd:FuncData}(F:Al K "into" "Land.into" lX f fd)(T:eO mg)(L:kL K c):zP P w K mg base aB 1 f fd ["self", "place"] (qC c Prod.snd):=by
 refine F.ok yg (fun _ _ _ _ h=>?_) (fun _ _ _ s H _ Q E hr h=>?_)
 ·obtain⟨x,dx,t,n,Aa,ps,pl,rfl,_⟩:=h
  rfl
 ·obtain⟨x,dx,t,n,Aa,ps,pl,rfl,⟨hx,ht,hl⟩,hlen,q⟩:=h
  refine⟨_,ai (ar (bv (own:=["lane", "pair"]) (capN:=["place"]) (cap:=[1]) zA rfl (mq rfl T.enum (aa (al (pv 0) rfl) ad))
   (fun C s' H' fp=>⟨(show PG _ _ (wP K 2 _) from il rfl (bG (ax (i:=0) pV rfl (Or.inl rfl)) (bG (ax (i:=1) pV rfl (Or.inl rfl)) fH))),
    cf (aw bB (ay (show nH _ (js K) from aE) (pv 1) aj (fun _ _=>rfl)) (pv 2) (aA _)),pv 0⟩))),?_⟩
  have E9:Aa.length=ps.length:=Paired.length hl
  refine⟨_,rfl,x,c.land,dx,_,_,rfl,hx,L.cl,L.nl,rfl,t,rfl,⟨_,Ab.of ht⟩,bH ps.length (by rw[sizeLine_eq];omega) (fun i acc H4=>zO H H4/\acc=j3 Prod.snd ps pl i) ⟨zO.refl _,rfl⟩ (fun i acc H4 h=>by rw[h.2];exact qc) ?_ ?_⟩
  ·rintro i acc H4 hi ⟨s4,rfl⟩
   have q4:Ab K H4 t Aa:=Ab.of (s4 _ _ ht)
   refine⟨⟨Aa,Aa[i]'(by omega),q4,by simp[E9,hi]⟩,fun y H5 ⟨r,CL,ey,h5⟩=>?_⟩
   obtain⟨v,hv,rfl⟩:=h5 Aa q4
   subst ey
   obtain⟨pr,hpr,u,rfl,hu⟩:=Ak.get hl hv
   have s5:zO H (upd H4 r (.tup [.int i, .ref u])):=s4.new CL
   refine⟨r,_,rfl,Ab.of ac,rfl,_,_,rfl,_,_,rfl,rfl,?_⟩
   refine⟨_,rfl,u,_,1,_,rfl,rfl,Ab.of (s5 _ _ hu),ak (j:=1) rfl,_,rfl,rfl,_,rfl,?_⟩
   rw[gh,mS hpr]
   cases hd:decide (pr.2=pl) with
   | true=>exact aJ ⟨_,rfl,s5,by simp[hd]⟩
   | false=>exact aI ⟨s5,by simp[hd]⟩
  ·rintro acc H4 ⟨s4,rfl⟩
   exact⟨⟨Aa,Ab.of (s4 _ _ ht),E9⟩,fun D hD=>q H4 D s4 hD⟩
noncomputable def xy:Sp:=fun vs H Q _=>∃ m k:Nat,vs=[.int m, .int k]/\Q (.bl (m.testBit k)) H
noncomputable def wE (m:Nat):List V:=(Yd.Du m (Builtin.Int.intBits (m:Int))).map fun k:Nat=>V.int k
noncomputable def sr:Sp:=fun vs H Q _=>∃ m:Nat,vs=[.int m]/\m < 2 ^ 400/\∀ p,H p=none->Q (.ref p) (upd H p (.lst (wE m)))
noncomputable def rZ (K:Frag):Sp:=fun vs H Q _=>∃ (a:Addr)(ks:List Nat),vs=[.ref a]/\zU K H a (ks.map fun k:Nat=>V.int k)/\(∀ k ∈ ks,k <= 1000)/\Q (.int (Yd.Ax ks 0:Nat)) H
theorem Lx:ao ["some", "number"] ["some", "number"] (ah vA):=L2.Au
theorem yU {f:Addr}{fd:FuncData}(F:Al K "has" "has" vA f fd):zP P w K mg base aB 1 f fd ["some", "number"] xy:=by
 refine F.ok Lx (fun _ _ _ _ h=>?_) (fun _ _ _ s H _ Q E hr h=>?_)
 ·obtain⟨m,k,rfl,_⟩:=h
  rfl
 ·obtain⟨m,k,rfl,q⟩:=h
  refine⟨_,ai (ar (dA (dj x5 (pv 1) aj (aA _)) (dz (dj bB (az tZ (az oJ (pv 0) (pv 1)) aj) aj (aA _))))),?_⟩
  refine⟨_,rfl,_,_,rfl,rfl,_,rfl,?_⟩
  rw[decide_eq_true (show (0:Int) <= (k:Int) by omega)]
  refine aJ ?_
  refine⟨_,rfl,_,rfl,_,_,rfl,rfl,(show (0:Int) <= (k:Int) by omega),_,_,rfl,rfl,rfl,?_⟩
  have e:decide (V.int (Builtin.bitAnd ((m:Int) / 2 ^ (k:Int).toNat) 1)=V.int 1)=m.testBit k:=by
   rw[toNat_natCast,← Yd.DB m k]
   by_cases h:Builtin.bitAnd ((m:Int) / 2 ^ k) 1=1
   ·rw[h];simp
   ·rw[decide_eq_false h,decide_eq_false fun z=>h (by injection z)]
  rw[e]
  exact q
theorem ut {ks:List Nat}{i:Nat}{x:V}(h:(ks.map fun k:Nat=>V.int k)[i]? = some x):∃ k,ks[i]? = some k/\x=V.int k:=by
 rw[getElem?_map]at h
 cases e:ks[i]? with
 | none=>rw[e]at h;cases h
 | some k=>rw[e]at h;exact⟨k,rfl,(Option.some.inj h).symm⟩
theorem DE:ao ["numbers", "some", "number"] ["numbers"] (ah yk):=L2.Au
theorem yH {f:Addr}{fd:FuncData}(F:Al K "set_of" "set_of" yk f fd):zP P w K mg base aB 1 f fd ["numbers"] (rZ K):=by
 refine F.ok DE (fun _ _ _ _ h=>?_) (fun _ _ _ s H _ Q E hr h=>?_)
 ·obtain⟨a,ks,rfl,_⟩:=h
  rfl
 ·obtain⟨a,ks,rfl,hS,hk,q⟩:=h
  refine⟨_,af (aC (i:=1) DE.nd rfl (Or.inl rfl) aj)
   (af (bF PassesOwn.never rfl (bT (pv 0)) (ax (i:=2) DE.nd rfl (Or.inl rfl))
    (ai (aC (i:=1) DE.nd rfl (Or.inl rfl) (az Kr (pv 1) (az yC aj (pv 2))))))
   (ai (ar (pv 1)))),?_⟩
  refine⟨_,rfl,a,rfl,⟨_,hS⟩,gZ (K:=K) (a:=a) (xs:=ks.map fun k:Nat=>V.int k) (fun i σ H2=>∃ v:Option V,H2=H/\σ=[some (.ref a),some (.int (Yd.Ax (ks.take i) 0:Nat)),v])
   ⟨none,rfl,rfl⟩ (fun i σ H2 _ zS=>by obtain⟨_,e,_⟩:=zS;rw[e];exact hS) ?_ ?_⟩
  ·rintro i x σ H2 hx ⟨v,rfl,rfl⟩
   obtain⟨k,ek,rfl⟩:=ut hx
   have Rj:=hk k (mem_of_getElem? ek)
   refine⟨_,rfl,_,rfl,_,_,rfl,rfl,⟨(show (0:Int) <= (k:Int) by omega),(show (k:Int) <= 1000000 by omega),(by decide)⟩,_,_,rfl,rfl,some (.int k),rfl,?_⟩
   have e:Builtin.bitOr ((Yd.Ax (ks.take i) 0:Nat):Int) (1 * 2 ^ (k:Int).toNat)=((Yd.Ax (ks.take (i + 1)) 0:Nat):Int):=by
    rw[take_succ,ek,toNat_natCast,Int.one_mul,show (2:Int) ^ k=((2 ^ k:Nat):Int) by rw[Int.natCast_pow];rfl,Yd.DT,Yd.Ew]
    rfl
   show [some (V.ref a),some (V.int _),some (V.int k)]=_
   rw[e]
  ·rintro σ H2 ⟨v,rfl,rfl⟩
   refine⟨_,rfl,?_⟩
   rw[length_map,take_length]
   exact q
theorem Ly:ao ["some"] ["some"] (ah sY):=L2.Au
theorem Lz:(["number", "some"]:List Str).Nodup:=by decide +kernel
theorem L0:Bk ["some"] (ah sY) (jq sY) ["some"] [0]:=L2.Cg
theorem yM {f fh:Addr}{fd CK:FuncData}(F:Al K "members" "members" sY f fd)(T:eO mg)(mh:mg "has" = some (.ref fh))(Fh:Al K "has" "has" vA fh CK)(bh:Binds K CK ["some", "number"] []):zP P w K mg base aB 2 f fd ["some"] sr:=by
 have G:zP P w K mg base aB 1 fh CK ["some", "number"] xy:=yU Fh
 refine F.ok Ly (fun _ _ _ _ h=>?_) (fun _ _ _ s H _ Q E hr h=>?_)
 ·obtain⟨m,rfl,_⟩:=h
  rfl
 ·obtain⟨m,rfl,hm,q⟩:=h
  refine⟨_,ai (ar (bv (own:=["number"]) (capN:=["some"]) (cap:=[0]) L0 rfl
   (aL rfl T.range (aa (y6 PySem.F.plainAttrs_int PySem.F.slot_int_bit_length PySem.F.type_int_bit_length wB (pv 0)) ad))
   (fun C s' H' fp=>⟨ax (i:=0) Lz rfl (Or.inl rfl),cf (bJ (au G hr rfl mh Fh.kp bh .nil ap (aa (pv 1) (aa (pv 0) ad)))),pv 0⟩))),?_⟩
  have hb:Builtin.Int.intBits (m:Int) <= 400:=Yd.bits_le hm
  refine⟨_,rfl,rfl,_,rfl,rfl,(Builtin.Int.intBits (m:Int):Nat),rfl,by omega,by omega,?_⟩
  rw[toNat_natCast]
  refine nh (fun k=>m.testBit k) (fun k=>V.int k) (by rw[sizeLine_eq];omega) (fun i acc N hi h=>?_) q
  refine⟨_,rfl,_,rfl,m,i,by simp,_,rfl,?_⟩
  cases e:m.testBit i with
  | true =>
   rw[e]at h
   refine aJ ⟨_,rfl,?_⟩
   simpa using h
  | false =>
   rw[e]at h
   exact aI (by simpa using h)
noncomputable def iz (ks:List Nat):List Int:=ks.map fun k:Nat=>(k:Int)
theorem wK (ks:List Nat):(iz ks).map V.int=ks.map fun k:Nat=>V.int k:=by rw[iz,map_map];rfl
theorem wD (m:Nat):wE m=(iz (Yd.Du m (Builtin.Int.intBits (m:Int)))).map V.int:=by rw[wK];rfl
theorem wJ {ks:List Nat}(h:ks.Pairwise (· < ·)):(iz ks).Pairwise (· < ·):=by
 unfold iz
 rw[List.pairwise_map]
 exact h.imp fun z=>by omega
theorem Bf {ks:List Nat}{k:Int}:k ∈ iz ks↔∃ n ∈ ks,(n:Int)=k:=mem_map
theorem oN {ks:List Nat}{ms:List Int}(h1:ms.Pairwise (· < ·))(h2:∀ k,k ∈ ms↔k ∈ iz ks):iz (Yd.Du (Yd.Ax ks 0) (Builtin.Int.intBits ((Yd.Ax ks 0:Nat):Int)))=ms:=by
 refine Yd.CY (wJ (Yd.DU _ _)) h1 fun k=>?_
 rw[h2 k,Bf,Bf]
 constructor
 ·rintro⟨n,hn,e⟩
  rw[Yd.CW (Yd.DA _),Yd.Bd]at hn
  exact⟨n,by simpa using hn,e⟩
 ·rintro⟨n,hn,e⟩
  refine⟨n,?_,e⟩
  rw[Yd.CW (Yd.DA _),Yd.Bd]
  simpa using hn
theorem sL {ks:List Nat}{b:Nat}(h:∀ k ∈ ks,k < b):Yd.Ax ks 0 < 2 ^ b:=by
 rw[← Yd.Ft h]
 exact Yd.C0 ks b
theorem qz {ks:List Nat}{k:Nat}:(Yd.Ax ks 0).testBit k=decide ((k:Int) ∈ iz ks):=by
 rw[Yd.Bd,Nat.zero_testBit,Bool.false_or]
 congr 1
 refine propext ⟨fun h=>Bf.mpr ⟨k,h,rfl⟩,fun h=>?_⟩
 obtain⟨n,hn,e⟩:=Bf.mp h
 have:n=k:=by omega
 rw[← this]
 exact hn
structure Rw where
 p:Int
 g:Int
 c:Option Nat
 s:List Nat
noncomputable def aW (r:Rw):fX:=[some r.p,some r.g,r.c.map fun k:Nat=>(k:Int)]
noncomputable def eJ (sel:Int × Int->Int)(ps:List (Int × Int))(pl:Int):List Nat:=(List.range ps.length).filter fun k=>decide (sel (ps.getD k (0,0))=pl)
noncomputable def eL (n:Int)(ps:List (Int × Int))(r:Rw):Bool :=
 jx n (r.p,r.g) && ((match r.c with | none=>true | some k=>decide (k ∈ eJ Prod.snd ps r.p)) && r.s.all fun k=>decide (k ∈ eJ Prod.fst ps r.p))
noncomputable def mD (sel:Int × Int->Int)(ps:List (Int × Int))(pl:Int)(k:Nat):Bool:=decide (ps.length <= k) || !decide (sel (ps.getD k (0,0))=pl)
noncomputable def nA (n:Int)(ps:List (Int × Int))(ahead:List Rw)(r:Rw):Bool :=
 !jx n (r.p,r.g) || ((match r.c with | none=>false | some k=>mD Prod.snd ps r.p k) || ((r.s.any fun k=>mD Prod.fst ps r.p k) || ahead.any fun a=>decide (aW a=aW r)))
theorem qe {sel:Int × Int->Int}{ps:List (Int × Int)}{pl:Int}{k:Nat}:decide (k ∈ eJ sel ps pl) = !mD sel ps pl k:=by
 unfold eJ mD
 by_cases h1:ps.length <= k
 ·rw[decide_eq_true h1,decide_eq_false]
  ·rfl
  ·intro z
   have:=mem_range.mp (mem_filter.mp z).1
   omega
 ·rw[decide_eq_false h1]
  by_cases h2:sel (ps.getD k (0,0))=pl
  ·rw[decide_eq_true h2,decide_eq_true]
   ·rfl
   ·exact mem_filter.mpr ⟨mem_range.mpr (by omega),decide_eq_true h2⟩
  ·rw[decide_eq_false h2,decide_eq_false]
   ·rfl
   ·intro z
    exact h2 (of_decide_eq_true (mem_filter.mp z).2)
theorem xb {l:List Nat}{f:Nat->Bool}:(l.all fun k=>!f k) = !(l.any f):=by
 induction l with
 | nil=>rfl
 | cons a l ih=>rw[all_cons,any_cons,ih,Bool.not_or]
theorem ia (n:Int)(ps:List (Int × Int))(ahead:List Rw)(r:Rw):nA n ps ahead r=(!eL n ps r || ahead.any fun a=>decide (aW a=aW r)):=by
 unfold nA eL
 have e:(r.s.all fun k=>decide (k ∈ eJ Prod.fst ps r.p)) = !(r.s.any fun k=>mD Prod.fst ps r.p k):=by
  rw[← xb]
  congr 1
  funext k
  exact qe
 rw[e]
 cases hc:r.c with
 | none =>
  dsimp only
  cases jx n (r.p,r.g)<;>cases (r.s.any fun k=>mD Prod.fst ps r.p k)<;>cases (ahead.any fun a=>decide (aW a=aW r))<;>rfl
 | some k =>
  dsimp only
  rw[qe]
  cases jx n (r.p,r.g)<;>cases (mD Prod.snd ps r.p k)<;>cases (r.s.any fun k=>mD Prod.fst ps r.p k)<;>cases (ahead.any fun a=>decide (aW a=aW r))<;>rfl
noncomputable def cK (n:Int)(ps:List (Int × Int))(rs:List Rw)(m:Nat):Option Nat:=(List.range m).find? fun k=>nA n ps (rs.take k) (rs.getD k ⟨0,0,none,[]⟩)
theorem fU {n:Int}{ps:List (Int × Int)}{rs:List Rw}:∀ {m:Nat},(∀ k,k < m->nA n ps (rs.take k) (rs.getD k ⟨0,0,none,[]⟩)=false)->cK n ps rs m=none:=by
 intro m h
 unfold cK
 rw[List.find?_eq_none]
 intro k hk
 rw[h k (mem_range.mp hk)]
 decide
theorem jP {n:Int}{ps:List (Int × Int)}{rs:List Rw}{m i:Nat}(hi:i < m)(h:∀ k,k < i->nA n ps (rs.take k) (rs.getD k ⟨0,0,none,[]⟩)=false)(hb:nA n ps (rs.take i) (rs.getD i ⟨0,0,none,[]⟩)=true):cK n ps rs m=some i:=by
 unfold cK
 rw[List.find?_range_eq_some]
 refine⟨hb,mem_range.mpr hi,fun j hj=>?_⟩
 rw[h j hj]
 rfl
noncomputable def dQ (rs:List Rw)(k:fX):Option Rw:=rs.reverse.find? fun r=>decide (aW r=k)
theorem oU {rs:List Rw}{r:Rw}{k:fX}:dQ (rs ++ [r]) k=if k=aW r then some r else dQ rs k:=by
 unfold dQ
 rw[List.reverse_append,List.reverse_singleton,List.singleton_append,find?_cons]
 by_cases h:aW r=k
 ·rw[decide_eq_true h,if_pos h.symm]
 ·rw[decide_eq_false h,if_neg (Ne.symm h)]
theorem l7 {rs:List Rw}{k:fX}:(dQ rs k).isSome=rs.any fun r=>decide (aW r=k):=by
 unfold dQ
 rw[Bool.eq_iff_iff,List.find?_isSome,any_eq_true]
 exact⟨fun zS=>by obtain⟨x,hx,h⟩:=zS;exact⟨x,mem_reverse.mp hx,h⟩,fun zS=>by obtain⟨x,hx,h⟩:=zS;exact⟨x,mem_reverse.mpr hx,h⟩⟩
noncomputable def cV:Option Nat->V
 | none => .Af
 | some k => .int k
noncomputable def bO (ks:List Nat):List V:=ks.map fun k:Nat=>V.int k
noncomputable def Ip (H:Hp)(t l:Addr)(r:Rw):Prop:=H t=some (.tup [.int r.p, .int r.g,cV r.c, .ref l])/\H l=some (.lst (bO r.s))
noncomputable def Iq (H:Hp)(v:V)(r:Rw):Prop:=∃ t l,v = .ref t/\Ip H t l r
abbrev D4 (H:Hp):List V->List Rw->Prop:=Paired (Iq H)
theorem Ip.same {H H':Hp}{t l:Addr}{r:Rw}(h:zO H H')(x:Ip H t l r):Ip H' t l r:=⟨h _ _ x.1,h _ _ x.2⟩
theorem Iq.same {H H':Hp}{v:V}{r:Rw}(h:zO H H'):Iq H v r->Iq H' v r:=fun zS=>by obtain⟨t,l,e,x⟩:=zS;exact⟨t,l,e,x.same h⟩
theorem D4.imp {H H':Hp}(h:∀ v r,Iq H v r->Iq H' v r):∀ {vs:List V}{rs:List Rw},D4 H vs rs->D4 H' vs rs:=fun zS=>by
 induction zS with
 | nil=>exact .nil
 | cons x r ih=>exact .cons (h _ _ x) ih
theorem D4.same {H H':Hp}(h:zO H H'){vs:List V}{rs:List Rw}(x:D4 H vs rs):D4 H' vs rs:=D4.imp (fun _ _ z=>z.same h) x
theorem D4.get {H:Hp}:∀ {vs:List V}{rs:List Rw}{i:Nat}{v:V},D4 H vs rs->vs[i]? = some v->∃ r,rs[i]? = some r/\Iq H v r
 | _,_,_,_, .nil,e=>by simp at e
 | _,_,0,_, .cons x _,e=>by simp at e;subst e;exact⟨_,rfl,x⟩
 | _,_,i + 1,v, .cons _ t,e=>by
  obtain⟨r,h1,h2⟩:=D4.get (i:=i) (v:=v) t (by simpa using e)
  exact⟨r,by simpa using h1,h2⟩
theorem qa (r:Rw):(aW r).map rH=[.int r.p, .int r.g,cV r.c]:=by
 cases r with
 | mk p g c s=>cases c<;>rfl
theorem oW {sel:Int × Int->Int}{ps:List (Int × Int)}{pl:Int}:j3 sel ps pl ps.length=(iz (eJ sel ps pl)).map V.int:=by rw[wK];rfl
theorem oV {k:Nat}{l:List Nat}:decide ((k:Int) ∈ iz l)=decide (k ∈ l):=by
 congr 1
 refine propext ⟨fun h=>?_,fun h=>Bf.mpr ⟨k,h,rfl⟩⟩
 obtain⟨n,hn,e⟩:=Bf.mp h
 have:n=k:=by omega
 rw[← this]
 exact hn
theorem qu (ks l:List Nat):((bO ks).filter fun _=>true).map (fun v=>match v with | .int i=>V.bl (decide (i ∈ iz l)) | _ => .Af)=(ks.map fun k=>decide (k ∈ l)).map V.bl:=by
 rw[List.filter_eq_self.mpr (fun _ _=>rfl)]
 unfold bO
 rw[map_map,map_map]
 refine List.map_congr_left fun k _=>?_
 show V.bl (decide ((k:Int) ∈ iz l))=V.bl (decide (k ∈ l))
 rw[oV]
theorem uZ (ks:List Nat)(p:Nat->Bool):(ks.map p).all id=ks.all p:=by rw[all_map];rfl
noncomputable def xq (K:Frag):Sp:=fun vs H Q _=>∃ (i:Int)(p:Addr)(ns:List Int),vs=[.int i, .ref p]/\zU K H p (ns.map V.int)/\Q (.bl (decide (i ∈ ns))) H
noncomputable def sJ (c:Cs):Sp:=fun vs H Q _=>∃ (x dx lt t l:Addr)(n:Int)(Aa:List V)(ps:List (Int × Int))(r:Rw),vs=[.ref x, .ref t]/\ck H c x dx lt n Aa ps/\Ip H t l r/\ps.length <= 1000/\r.s.length <= 1000/\∀ H',zO H H'->Q (.bl (eL n ps r)) H'
structure L1 (K:Frag)(c:Cs)(f3 f4:Addr)(d3 d4:FuncData):Prop where
 m3:bu K c.land "out_of" f3
 m4:bu K c.land "into" f4
 b3:Binds K d3 ["self", "place"] []
 b4:Binds K d4 ["self", "place"] []
noncomputable abbrev NF:List Str:=["land", "row", "place", "came", "begin_here"]
noncomputable def va (s:Stmt):Scope:=match s with
 | .Return (some (.Call _ [.ListComp _ _ sc _] _ _)) _=>sc
 | _=>zQ0
theorem L4:ao ["value", "numbers"] ["value", "numbers"] (ah yn):=L2.Au
theorem yK {f fh:Addr}{fd CK:FuncData}(F:Al K "is_one_of" "is_one_of" yn f fd)(T:eO mg)(mh:mg "is_whole" = some (.ref fh))(Fh:Al K "is_whole" "is_whole" gc fh CK)(bh:Binds K CK ["value"] []) :
  zP P w K mg base aB 2 f fd ["value", "numbers"] (xq K):=by
 have G:zP P w K mg base aB 1 fh CK ["value"] kQ:=mB Fh T
 refine F.ok L4 (fun _ _ _ _ h=>?_) (fun _ _ _ s H _ Q E hr h=>?_)
 ·obtain⟨i,p,ns,rfl,_⟩:=h
  rfl
 ·obtain⟨i,p,ns,rfl,hS,q⟩:=h
  refine⟨_,ai (ar (dA (au G hr rfl mh Fh.kp bh .nil ap (aa (pv 0) ad)) (dz (dj qM (pv 0) (pv 1) (by with_unfolding_all rfl))))),?_⟩
  refine⟨_,rfl,i,rfl,true,rfl,aJ ?_⟩
  refine⟨_,rfl,_,rfl,p,_,rfl, .inl hS,rfl,i3 _,?_⟩
  show Q (V.bl (Jv (V.int i) (ns.map V.int))) H
  rw[lA]
  exact q
theorem C3:ao NF ["land", "row"] (ah lZ):=L2.Au
theorem zC:Bk NF (ah lZ) (va ((aF lZ).getD 5 (.Pass ⟨0,0,0,0⟩))) ["begin_here"] [4]:=L2.Cg
theorem yZ:(["lane", "begin_here"]:List Str).Nodup:=by decide +kernel
theorem w8 {c:Cs}{f ft fo f3 f4:Addr}{fd dt d1 d3 d4:FuncData}(F:Al K "row_fits" "row_fits" lZ f fd)(T:eO mg)(L:kL K c)(M:L1 K c f3 f4 d3 d4)
  (mt:mg "are_two_places" = some (.ref ft)) (kt:keepIn K (.ref ft)=true) (bt:Binds K dt ["places", "one", "other"] []) (Gt:zP P w K mg base aB 3 ft dt ["places", "one", "other"] rW)
  (mo:mg "is_one_of" = some (.ref fo)) (ko:keepIn K (.ref fo)=true) (bo:Binds K d1 ["value", "numbers"] []) (Go:zP P w K mg base aB 2 fo d1 ["value", "numbers"] (xq K))
  (G3:zP P w K mg base aB 1 f3 d3 ["self", "place"] (qC c Prod.fst)) (G4:zP P w K mg base aB 1 f4 d4 ["self", "place"] (qC c Prod.snd)) :
  zP P w K mg base aB 4 f fd ["land", "row"] (sJ c):=by
 refine F.ok C3 (fun _ _ _ _ h=>?_) (fun _ _ _ s H _ Q E hr h=>?_)
 ·obtain⟨x,dx,lt,t,l,n,Aa,ps,r,rfl,_⟩:=h
  rfl
 ·obtain⟨x,dx,lt,t,l,n,Aa,ps,r,rfl,hL,hR,hlen,OH,q⟩:=h
  have AM:zZ 1 _:=hr.mono (by decide)
  have Be:zZ 2 _:=hr.mono (by decide)
  refine⟨_,af (aC (i:=2) C3.nd rfl (Or.inl rfl) (ay aE (pv 1) aj (fun _ _=>rfl)))
   (af (aC (i:=3) C3.nd rfl (Or.inl rfl) (ay aE (pv 1) aj (fun _ _=>rfl)))
   (af (aQ (ca (bJ (au Gt hr rfl mt kt bt .nil ap (aa (al (pv 0) rfl) (aa (pv 2) (aa (ay aE (pv 1) aj (fun _ _=>rfl)) ad)))))) (ai (ar jt)) aH)
   (af (aQ (PW.pt (lj (aw vR (pv 3) cu (aA _)) (iQ (ca (bJ (au Go Be rfl mo ko bo .nil ap (aa (pv 3) (aa (aD (pv 0) L.cl M.m4 G4 AM M.b4 .nil ap (aa (pv 2) ad)) ad)))))))) (ai (ar jt)) aH)
   (af (aC (i:=4) C3.nd rfl (Or.inr rfl) (aD (pv 0) L.cl M.m3 G3 AM M.b3 .nil ap (aa (pv 2) ad)))
   (ai (ar (av (jF rfl) rfl T.all PyProof.Rows.boot_all (aa (bv (own:=["lane"]) (capN:=["begin_here"]) (cap:=[4]) zC rfl (bT (ay aE (pv 1) aj (fun _ _=>rfl)))
    (fun C s' H' fp=>⟨ax (i:=0) yZ rfl (Or.inl rfl),ci,au Go Be rfl mo ko bo .nil ap (aa (pv 0) (aa (pv 1) ad))⟩)) ad)))))))),?_⟩
  obtain⟨hT,hl⟩:=hR
  have Rk:Ab K H t [.int r.p, .int r.g,cV r.c, .ref l]:=Ab.of hT
  refine⟨_,rfl,t,_,0,_,rfl,rfl,Rk,ak (j:=0) rfl,?_⟩
  refine⟨_,rfl,t,_,2,_,rfl,rfl,Rk,ak (j:=2) rfl,?_⟩
  refine⟨_,rfl,x,c.land,dx,_,_,rfl,hL.1,L.cl,L.np,rfl,_,rfl,_,rfl,t,_,1,_,rfl,rfl,Rk,ak (j:=1) rfl,n,r.p,r.g,rfl,_,rfl,?_⟩
  cases ho:jx n (r.p,r.g) with
  | false =>
   have e:eL n ps r=false:=by unfold eL;rw[ho];rfl
   refine aJ ?_
   have:=q H (zO.refl H)
   rw[e]at this
   exact this
  | true =>
   refine aI ?_
   cases hc:r.c with
   | none =>
    refine⟨_,rfl,rfl,_,rfl,aI (aI ?_)⟩
    have s1:=zO.refl H
    have e1:eL n ps r=r.s.all fun k=>decide (k ∈ eJ Prod.fst ps r.p):=by unfold eL;rw[ho,hc];rfl
    refine⟨_,rfl,x,dx,_,rfl,s1 _ _ hL.1,rfl,_,rfl,x,dx,lt,n,Aa,ps,r.p,rfl,⟨s1 _ _ hL.1,s1 _ _ hL.2.1,Ak.same s1 hL.2.2⟩,hlen,fun H2 D2 s2 BU=>?_⟩
    have s3:=(s1.trans s2).new (o := .lst (j3 Prod.fst ps r.p ps.length)) BU
    have g2:(upd H2 D2 (.lst (j3 Prod.fst ps r.p ps.length))) D2=some (.lst (j3 Prod.fst ps r.p ps.length)):=ac
    generalize upd H2 D2 (.lst (j3 Prod.fst ps r.p ps.length))=H3 at s3 g2 ⊢
    refine⟨_,rfl,t,_,3,_,rfl,rfl,Ab.of (s3 _ _ hT),ak (j:=3) rfl,l,rfl,⟨_,zU.of (s3 _ _ hl)⟩,?_⟩
    refine fE (xs:=bO r.s) (fun _=>true) (fun v=>match v with | .int i => .bl (decide (i ∈ iz (eJ Prod.fst ps r.p))) | _ => .Af) (by rw[sizeLine_eq];simp only[bO,length_map];omega) (zU.of (s3 _ _ hl)) (fun y acc N hy h=>?_) (fun D hD=>?_)
    ·obtain⟨k',_,rfl⟩:=mem_map.mp hy
     exact⟨_,rfl,_,rfl,(k':Int),D2,iz (eJ Prod.fst ps r.p),rfl,by rw[← oW];exact zU.of g2,by simpa using h⟩
    ·rw[qu]
     refine⟨D,r.s.map fun k=>decide (k ∈ eJ Prod.fst ps r.p),rfl,zU.of ac,?_⟩
     have:=q _ (s3.new (o := .lst ((r.s.map fun k=>decide (k ∈ eJ Prod.fst ps r.p)).map V.bl)) hD)
     rw[e1]at this
     rw[uZ]
     exact this
   | some k =>
    refine⟨_,rfl,rfl,_,rfl,aJ ?_⟩
    refine⟨_,rfl,_,rfl,x,dx,_,rfl,hL.1,rfl,_,rfl,x,dx,lt,n,Aa,ps,r.p,rfl,hL,hlen,fun H' D s' hD=>?_⟩
    have s1:=s'.new (o := .lst (j3 Prod.snd ps r.p ps.length)) hD
    refine⟨(k:Int),D,iz (eJ Prod.snd ps r.p),rfl,by rw[← oW];exact zU.of ac,_,rfl,?_⟩
    rw[oV]
    cases hk:decide (k ∈ eJ Prod.snd ps r.p) with
    | false =>
     refine aJ ?_
     have e:eL n ps r=false:=by unfold eL;rw[ho,hc];dsimp only;rw[hk];rfl
     have:=q _ s1
     rw[e]at this
     exact this
    | true =>
     have e1:eL n ps r=r.s.all fun k=>decide (k ∈ eJ Prod.fst ps r.p):=by unfold eL;rw[ho,hc];dsimp only;rw[hk];rfl
     refine aI ?_
     refine⟨_,rfl,x,dx,_,rfl,s1 _ _ hL.1,rfl,_,rfl,x,dx,lt,n,Aa,ps,r.p,rfl,⟨s1 _ _ hL.1,s1 _ _ hL.2.1,Ak.same s1 hL.2.2⟩,hlen,fun H2 D2 s2 BU=>?_⟩
     have s3:=(s1.trans s2).new (o := .lst (j3 Prod.fst ps r.p ps.length)) BU
     have g2:(upd H2 D2 (.lst (j3 Prod.fst ps r.p ps.length))) D2=some (.lst (j3 Prod.fst ps r.p ps.length)):=ac
     generalize upd H2 D2 (.lst (j3 Prod.fst ps r.p ps.length))=H3 at s3 g2 ⊢
     refine⟨_,rfl,t,_,3,_,rfl,rfl,Ab.of (s3 _ _ hT),ak (j:=3) rfl,l,rfl,⟨_,zU.of (s3 _ _ hl)⟩,?_⟩
     refine fE (xs:=bO r.s) (fun _=>true) (fun v=>match v with | .int i => .bl (decide (i ∈ iz (eJ Prod.fst ps r.p))) | _ => .Af) (by rw[sizeLine_eq];simp only[bO,length_map];omega) (zU.of (s3 _ _ hl)) (fun y acc N hy h=>?_) (fun D hD=>?_)
     ·obtain⟨k',_,rfl⟩:=mem_map.mp hy
      exact⟨_,rfl,_,rfl,(k':Int),D2,iz (eJ Prod.fst ps r.p),rfl,by rw[← oW];exact zU.of g2,by simpa using h⟩
     ·rw[qu]
      refine⟨D,r.s.map fun k=>decide (k ∈ eJ Prod.fst ps r.p),rfl,zU.of ac,?_⟩
      have:=q _ (s3.new (o := .lst ((r.s.map fun k=>decide (k ∈ eJ Prod.fst ps r.p)).map V.bl)) hD)
      rw[e1]at this
      rw[uZ]
      exact this
structure Ts where
 tab:Addr
 told:Addr
 ne:Addr
noncomputable def rY (K:Frag):Sp:=fun vs H Q _=>∃ (x C dx:Addr)(lv:V),vs=[.ref x,lv]/\H x=some (.ins C dx [])/\Cr K C/\Ac K C "land"/\Q .Af (upd H x (.ins C dx [("land",lv)]))
noncomputable def sN (r:Rw):V := .int (Yd.Ax r.s 0:Nat)
noncomputable def rX (P:Program)(w:World)(K:Frag)(c:Cs)(ts:Ts):Sp:=fun vs H Q E=>∃ (x dx lx Ao lt p:Addr)(n:Int)(Aa Ae:List V)(ps:List (Int × Int))(rs:List Rw),
 vs=[.ref x, .ref lx, .ref p]/\H x=some (.ins ts.told dx [])/\ck H c lx Ao lt n Aa ps/\zU K H p Ae/\D4 H Ae rs/\Ae.length <= 100000/\ps.length <= 1000/\(∀ r ∈ rs,(∀ k ∈ r.s,k <= 1000)/\r.s.length <= 1000) /\
 (∀ i,cK n ps rs rs.length=some i->∀ H' d,Off x H H'->H' d=some (.xd [("row", .int i)])->E (.ref ts.ne) (some d) H') /\
 (cK n ps rs rs.length=none->∀ H' de kvs,Off x H H'->H' x=some (.ins ts.told dx [("land", .ref lx),("entries", .ref de)])->AI P w H' de kvs->(∀ k,bY kvs k=(dQ rs k).map sN)->Q .Af H')
noncomputable def p6 (P:Program)(w:World)(ts:Ts):Sp:=fun vs H Q _=>∃ (x dx de:Addr)(lv:V)(kvs:List dH)(r:Rw)(m:Nat),vs=[.ref x, .int r.p, .int r.g,cV r.c]/\H x=some (.ins ts.told dx [("land",lv),("entries", .ref de)])/\AI P w H de kvs /\
 (bY kvs (aW r)).getD (.int 0) = .int m/\m < 2 ^ 400/\∀ H' D,zO H H'->H' D=none->Q (.ref D) (upd H' D (.lst (wE m)))
structure Rl (K:Frag)(mg:Str->Option Value)(ts:Ts)(f1 f2:Addr)(d1 d2:FuncData):Prop where
 ct:Cr K ts.tab
 nt:Ac K ts.tab "land"
 cd:Cr K ts.told
 L5:Ac K ts.told "land"
 OR:Ac K ts.told "entries"
 mt:mg "Table" = some (.ref ts.tab)
 cm:ve K ts.tab "__init__" f1
 bt:Binds K d1 ["self", "land"] []
 mne:mg "NoEntry" = some (.ref ts.ne)
 Wk:bq K ts.ne (some (.ref f2))=true
 kne:keepIn K (.ref ts.ne)=true
 DP:gi K ts.ne
 Wl:findIn K (.ref ts.ne) "row" = some none
 ine:isFn K (.ref f2)=true
 Fne:Al K "__init__" "NoEntry.__init__" OQ f2 d2
 bne:Binds K d2 ["self", "row"] []
noncomputable abbrev NT:List Str:=["self", "land", "rows", "number", "row", "key"]
theorem Off.land {H H':Hp}{x C dx:Addr}(o:Off x H H')(hx:H x=some (.ins C dx [])){c:Cs}{lx Ao lt:Addr}{n:Int}{Aa:List V}{ps:List (Int × Int)}(h:ck H c lx Ao lt n Aa ps):ck H' c lx Ao lt n Aa ps :=
 ⟨o _ _ (aR h.1 hx (by intro z;cases z)) h.1,o _ _ (aR h.2.1 hx (by intro z;cases z)) h.2.1,o.DD hx h.2.2⟩
theorem Rm:ao ["self", "row"] ["self", "row"] (ah OQ):=L2.Au
theorem L6 {f:Addr}{fd:FuncData}(F:Al K "__init__" "NoEntry.__init__" OQ f fd):zP P w K mg base aB 1 f fd ["self", "row"] (qA K "row"):=by
 refine F.ok Rm (fun _ _ _ _ h=>?_) (fun _ _ _ s H _ Q E hr h=>?_)
 ·obtain⟨e,C,tt,v,rfl,_⟩:=h
  rfl
 ·obtain⟨e,C,tt,v,rfl,h1,h2,h3,q⟩:=h
  refine⟨_,ai (lm (pv 0) (pv 1) rfl),?_⟩
  exact⟨_,rfl,_,rfl,e,C,tt,rfl,h1,h2,h3,q⟩
theorem L7:ao ["self", "land"] ["self", "land"] (ah yj):=L2.Au
theorem yG {f:Addr}{fd:FuncData}(F:Al K "__init__" "Table.__init__" yj f fd):zP P w K mg base aB 1 f fd ["self", "land"] (rY K):=by
 refine F.ok L7 (fun _ _ _ _ h=>?_) (fun _ _ _ s H _ Q E hr h=>?_)
 ·obtain⟨x,C,dx,lv,rfl,_⟩:=h
  rfl
 ·obtain⟨x,C,dx,lv,rfl,hx,hc,hn,q⟩:=h
  refine⟨_,ai (aU (pv 0) (pv 1) rfl),?_⟩
  exact⟨_,rfl,_,rfl,x,C,dx,_,rfl,hx,hc,hn,by show 0 < 1000;decide,q⟩
theorem v5:ao ["self", "place", "goal", "came"] ["self", "place", "goal", "came"] (ah ou):=L2.Au
theorem ub {ts:Ts}{f fm f1 f2:Addr}{fd dm d1 d2:FuncData}(F:Al K "ways" "Told.ways" ou f fd)(B:Rl K mg ts f1 f2 d1 d2)(mm:mg "members" = some (.ref fm))(km:keepIn K (.ref fm)=true)(bm:Binds K dm ["some"] [])
  (Gm:zP P w K mg base aB 2 fm dm ["some"] sr):zP P w K mg base aB 3 f fd ["self", "place", "goal", "came"] (p6 P w ts):=by
 refine F.ok v5 (fun _ _ _ _ h=>?_) (fun _ _ _ s H _ Q E hr h=>?_)
 ·obtain⟨x,dx,de,lv,kvs,r,m,rfl,_⟩:=h
  rfl
 ·obtain⟨x,dx,de,lv,kvs,r,m,rfl,hx,hd,hv,hm,q⟩:=h
  have hu:=k9 hr
  refine⟨_,ai (ar (au Gm hr rfl mm km bm .nil ap (aa (m5 hu (al (pv 0) rfl) (aa (bK (aa (pv 1) (aa (pv 2) (aa (pv 3) ad)))) (aa aj ad))) ad))),?_⟩
  refine⟨_,rfl,x,ts.told,dx,_,_,rfl,hx,B.cd,B.OR,rfl,de,kvs,rfl,hd,?_⟩
  refine⟨_,rfl,_,rfl,_,rfl,by show 3 <= sizeLine;decide,fun t ht=>?_⟩
  have s1:zO H (upd H t (.tup [.int r.p, .int r.g,cV r.c])):=(zO.refl H).new ht
  refine⟨_,_,bY kvs (aW r),rfl,⟨kvs,aW r,t,hd.same s1,rfl,by rw[qa];exact ac,rfl⟩,?_⟩
  rw[hv]
  exact⟨m,rfl,hm,fun D hD=>q _ D s1 hD⟩
theorem C4:ao NT ["self", "land", "rows"] (ah sQ):=L2.Au
theorem vX {c:Cs}{ts:Ts}{f ff fs f1 f2:Addr}{fd df ds d1 d2:FuncData}(F:Al K "__init__" "Told.__init__" sQ f fd)(T:eO mg)(B:Rl K mg ts f1 f2 d1 d2)(G1:zP P w K mg base aB 1 f1 d1 ["self", "land"] (rY K))
  (mf:mg "row_fits" = some (.ref ff)) (kf:keepIn K (.ref ff)=true) (bf:Binds K df ["land", "row"] []) (Gf:zP P w K mg base aB 4 ff df ["land", "row"] (sJ c))
  (ms:mg "set_of" = some (.ref fs)) (ks:keepIn K (.ref fs)=true) (bs:Binds K ds ["numbers"] []) (Gs:zP P w K mg base aB 1 fs ds ["numbers"] (rZ K)) :
  zP P w K mg base (dS P w) 5 f fd ["self", "land", "rows"] (rX P w K c ts):=by
 have Gn:zP P w K mg base aB 1 f2 d2 ["self", "row"] (qA K "row"):=L6 B.Fne
 refine F.EY C4 (fun _ _ _ _ h=>?_) (fun _ _ _ s H _ Q E hr h=>?_)
 ·obtain⟨x,dx,lx,Ao,lt,p,n,Aa,Ae,ps,rs,rfl,_⟩:=h
  rfl
 ·obtain⟨x,dx,lx,Ao,lt,p,n,Aa,Ae,ps,rs,rfl,hx,hL,hp,hR,hlen,E9,Wm,hE,hQ⟩:=h
  have AM:zZ 1 _:=hr.mono (by decide)
  have Be:zZ 2 _:=hr.mono (by decide)
  have hu:=k9 hr
  refine⟨_,af (aM (m6 (eA (v := .ref ts.tab) rfl B.mt rfl) B.cm G1 AM B.bt .nil ap (aa (pv 0) (aa (pv 1) ad))))
   (af (aU (pv 0) (show PE _ _ (rR P w) from pJ) rfl)
   (ai (bF pL rfl (mz rfl T.enum (aa (pv 2) ad)) (il rfl (bG (ax (i:=3) C4.nd rfl (Or.inl rfl)) (bG (ax (i:=4) C4.nd rfl (Or.inl rfl)) fH)))
    (af (aC (i:=5) C4.nd rfl (Or.inl rfl) (bK (aa (ay aE (pv 4) aj (fun _ _=>rfl)) (aa (ay aE (pv 4) aj (fun _ _=>rfl)) (aa (ay aE (pv 4) aj (fun _ _=>rfl)) ad)))))
    (af (aQ (PW.pt (gL (ca (bJ (au Gf hr rfl mf kf bf .nil ap (aa (pv 1) (aa (pv 4) ad))))) (dZ (tM (y8 hu (pv 5) (al (pv 0) rfl))))))
     (ai (b9 rfl B.Wk aN (iP B.Wk B.ine B.kne Gn Be B.bne rfl B.mne (aa (pv 3) ad)))) aH)
    (ai (pI hu (al (pv 0) rfl) (pv 5) (au Gs AM rfl ms ks bs .nil ap (aa (ay aE (pv 4) aj (fun _ _=>rfl)) ad)) rfl))))))),?_⟩
  refine⟨rfl,_,rfl,_,rfl,x,ts.told,dx,_,rfl,hx,B.cd,B.L5,?_⟩
  refine fun de Dj=>⟨_,rfl,x,ts.told,dx,[("land", .ref lx)],rfl,by rw[ae (ag ac Dj)];exact ac,B.cd,B.OR,by show 1 < 1000;decide,?_⟩
  have Fe:x ≠ de:=ag ac Dj
  have EA:H de=none:=by rw[ae (Ne.symm Fe)]at Dj;exact Dj
  generalize Ey:upd (upd (upd H x (.ins ts.told dx [("land", .ref lx)])) de (jJ P w de [])) x (.ins ts.told dx (aK "entries" (.ref de) [("land", .ref lx)]))=H2
  have o2:Off x H H2:=fun b o hb e=>by rw[← Ey,ae hb,ae (ag e EA),ae hb];exact e
  have x2:H2 x=some (.ins ts.told dx [("land", .ref lx),("entries", .ref de)]):=by rw[← Ey,ac];rfl
  have d2:AI P w H2 de []:=⟨by rw[← Ey,ae (Ne.symm Fe),ac],fun y hy=>by cases hy⟩
  have L8:Ae.length=rs.length:=Paired.length hR
  refine⟨_,rfl,p,rfl,⟨_,o2.sq hx hp⟩,mV (sq:=fun H=>zU K H p) (xs:=Ae) (fun i σ H3=>∃ (a b k:Option V)(kvs:List dH),Off x H H3/\H3 x=some (.ins ts.told dx [("land", .ref lx),("entries", .ref de)])/\AI P w H3 de kvs/\kvs.length <= i /\
    (∀ k,bY kvs k=(dQ (rs.take i) k).map sN)/\(∀ j,j < i->nA n ps (rs.take j) (rs.getD j ⟨0,0,none,[]⟩)=false)/\σ=[some (.ref x),some (.ref lx),some (.ref p),a,b,k])
   ⟨none,none,none,[],o2,x2,d2,Nat.le_refl _,fun k=>rfl,fun j hj=>absurd hj (not_lt_zero _),rfl⟩ (fun i σ H3 _ zS=>by obtain⟨_,_,_,_,o3,_⟩:=zS;exact o3.sq hx hp) ?_ ?_⟩
  ·rintro i v q σ H3 hv ⟨a,b,k,kvs,o3,x3,d3,l3,v3,g3,rfl⟩ hq
   obtain⟨r,hri,t,l,rfl,hT⟩:=D4.get hR hv
   have hi:i < rs.length:=(gQ0 hri)
   have OS:rs.getD i ⟨0,0,none,[]⟩ = r:=by rw[getD_eq_getElem?_getD,hri];rfl
   have Ir:Ip H3 t l r:=⟨o3 _ _ (aR hT.1 hx (by intro z;cases z)) hT.1,o3 _ _ (aR hT.2 hx (by intro z;cases z)) hT.2⟩
   have C5:=o3.land hx hL
   have s4:zO H3 (upd H3 q (.tup [.int i, .ref t])):=(zO.refl H3).new hq
   refine⟨q,_,rfl,Ab.of ac,rfl,_,_,rfl,_,_,rfl,rfl,?_⟩
   generalize upd H3 q (.tup [.int i, .ref t])=H4 at s4 ⊢
   have Iu:Ab K H4 t [.int r.p, .int r.g,cV r.c, .ref l]:=Ab.of (s4 _ _ Ir.1)
   refine⟨_,rfl,t,_,0,_,rfl,rfl,Iu,ak (j:=0) rfl,_,rfl,t,_,1,_,rfl,rfl,Iu,ak (j:=1) rfl,_,rfl,t,_,2,_,rfl,rfl,Iu,ak (j:=2) rfl,by show 3 <= sizeLine;decide,fun kt Rn=>?_⟩
   have s5:zO H3 (upd H4 kt (.tup [.int r.p, .int r.g,cV r.c])):=s4.new Rn
   have k5:(upd H4 kt (.tup [.int r.p, .int r.g,cV r.c])) kt=some (.tup ((aW r).map rH)):=by rw[qa];exact ac
   generalize upd H4 kt (.tup [.int r.p, .int r.g,cV r.c])=H5 at s5 k5 ⊢
   refine⟨_,rfl,_,rfl,lx,Ao,lt,t,l,n,Aa,ps,r,rfl,⟨s5 _ _ C5.1,s5 _ _ C5.2.1,Ak.same s5 C5.2.2⟩,Ir.same s5,E9,(Wm r (mem_of_getElem? hri)).2,fun H6 Wn=>⟨_,rfl,?_⟩⟩
   have s6:=s5.trans Wn
   have k6:=Wn _ _ k5
   have x6:=s6 _ _ x3
   have d6:=d3.same s6
   have GJ:nA n ps (rs.take i) r=true->∀ e tt,H6 e=none->∀ d,upd H6 e (bI e ts.ne tt none) d=none ->
     ∃ dd,(upd (upd (upd H6 e (bI e ts.ne tt none)) d (.xd [("row", .int i)])) e (bI e ts.ne tt (some d))) e=some (bI e ts.ne tt dd)/\E (.ref ts.ne) dd (uR (upd (upd (upd H6 e (bI e ts.ne tt none)) d (.xd [("row", .int i)])) e (bI e ts.ne tt (some d))) e):=by
    intro hb e tt he d hd
    obtain⟨m1,m2,m3⟩:=ir (o:=bI e ts.ne tt none) (o':=bI e ts.ne tt (some d)) (x := .xd [("row", .int i)]) he hd
    exact⟨some d,m3,hE i (jP hi g3 (by rw[OS];exact hb)) _ d (o3.same (s6.trans m1)) m2⟩
   cases hf:eL n ps r with
   | false =>
    refine aJ (aJ ⟨_,rfl,by show 1 <= sizeLine;decide,fun e tt he=>⟨e,_,tt,_,rfl,ac,B.DP,B.Wl,fun d hd=>⟨rfl,?_⟩⟩⟩)
    exact GJ (by rw[ia,hf];rfl) e tt he d hd
   | true =>
    refine aI ⟨_,rfl,_,rfl,x,ts.told,dx,_,_,rfl,x6,B.cd,B.OR,rfl,de,_,rfl,⟨kvs,aW r,kt,d6,rfl,k6,rfl⟩,_,rfl,?_⟩
    have eS:(bY kvs (aW r)).isSome=(rs.take i).any fun a=>decide (aW a=aW r):=by rw[v3,Option.isSome_map,l7]
    cases hS:(bY kvs (aW r)).isSome with
    | true =>
     refine aJ ⟨_,rfl,by show 1 <= sizeLine;decide,fun e tt he=>⟨e,_,tt,_,rfl,ac,B.DP,B.Wl,fun d hd=>⟨rfl,?_⟩⟩⟩
     exact GJ (by rw[ia,hf,← eS,hS];rfl) e tt he d hd
    | false =>
     refine aI ?_
     have Wo:=Ir.same s6
     refine⟨_,rfl,t,_,3,_,rfl,rfl,Ab.of Wo.1,ak (j:=3) rfl,l,r.s,rfl,zU.of Wo.2,(Wm r (mem_of_getElem? hri)).1,?_⟩
     refine⟨_,rfl,x,ts.told,dx,_,_,rfl,x6,B.cd,B.OR,rfl,_,rfl,de,kvs,aW r,kt,rfl,d6,rfl,k6,by rw[sizeLine_eq];omega,?_⟩
     have hx6:x ≠ de:=Fe
     refine⟨_,_,_,eW kvs (aW r) kt (sN r),fun b' o hb e=>?_,?_,⟨ac,jY (F:=fun k a=>(upd H6 de (jJ P w de (eW kvs (aW r) kt (sN r)))) a=some (.tup (k.map rH))) (fun y hy=>?_) ?_⟩,?_,fun k'=>?_,fun j hj=>?_,rfl⟩
     ·rw[ae (ag e EA)];exact s6 _ _ (o3 _ _ hb e)
     ·rw[ae Fe];exact x6
     ·rw[ae (aR (d6.2 y hy) d6.1 (by intro z;cases z))];exact d6.2 y hy
     ·rw[ae (aR k6 d6.1 (by intro z;cases z))];exact k6
     ·exact le_trans eV (Nat.succ_le_succ l3)
     ·rw[gw,take_succ,hri,Option.toList_some,oU,v3]
      by_cases hk:k' = aW r
      ·rw[if_pos hk,if_pos hk];rfl
      ·rw[if_neg hk,if_neg hk]
     ·rcases lt_or_ge j i with h | h
      ·exact g3 j h
      ·have:j=i:=by omega
       subst this
       rw[OS,ia,hf,← eS,hS];rfl
  ·rintro σ H3 ⟨a,b,k,kvs,o3,x3,d3,l3,v3,g3,rfl⟩
   rw[L8]at g3 v3
   rw[take_length]at v3
   exact hQ (fU g3) H3 de kvs o3 x3 d3 v3
noncomputable def nV (ps:List Nat):List V:=ps.map fun q:Nat=>V.int (q:Int)
theorem dC (ps:List Nat):(nV ps).length=ps.length:=by simp[nV]
theorem l4 {ps:List Nat}{k q:Nat}(h:ps[k]? = some q):(nV ps)[k]? = some (V.int (q:Int)):=by simp[nV,h]
theorem uw (a b:List Nat):nV (a ++ b)=nV a ++ nV b:=by unfold nV;rw[map_append]
theorem uu {ps:List Nat}{v:V}(h:v ∈ nV ps):∃ q:Nat,q ∈ ps/\v = .int (q:Int):=by
 obtain⟨q,hq,e⟩:=mem_map.mp h
 exact⟨q,hq,e.symm⟩
noncomputable def ot (c:Cs)(sel:Int × Int->Int):Sp:=fun vs H Q _=>∃ (x dx t:Addr)(n:Int)(Aa:List V)(ps:List (Int × Int))(k:Nat)(pr:Int × Int),vs=[.ref x, .int k]/\ck H c x dx t n Aa ps/\ps[k]? = some pr/\Q (.int (sel pr)) H
structure xj (K:Frag)(c:Cs)(f:Addr)(d:FuncData):Prop where
 m:bu K c.land "end_of" f
 b:Binds K d ["self", "lane"] []
theorem bN (a b:Int):decide (V.int a=V.int b)=decide (a=b):=by
 by_cases h:a=b
 ·rw[h];simp
 ·rw[decide_eq_false h,decide_eq_false fun z=>h (by injection z)]
theorem iW {n i:Nat}(h:i < n):wL n (i:Int)=some i:=by
 unfold wL
 rw[if_pos (by omega),if_pos (by omega),toNat_natCast]
noncomputable def mN (m:Nat):List Nat:=Yd.Du m (Builtin.Int.intBits (m:Int))
theorem uv:∀ {a b:List Nat},nV a=nV b->a=b
 | [],[],_=>rfl
 | [],_ :: _,h=>by cases h
 | _ :: _,[],h=>by cases h
 | x :: a,y :: b,h=>by
  unfold nV at h
  rw[map_cons,map_cons]at h
  injection h with h1 h2
  injection h1 with h1
  rw[uv (a:=a) (b:=b) h2,show x=y by omega]
theorem L9:ao ["self", "lane"] ["self", "lane"] (ah yy):=L2.Au
theorem yV {c:Cs}{f:Addr}{fd:FuncData}(F:Al K "end_of" "Land.end_of" yy f fd)(L:kL K c):zP P w K mg base aB 1 f fd ["self", "lane"] (ot c Prod.snd):=by
 refine F.ok L9 (fun _ _ _ _ h=>?_) (fun _ _ _ s H _ Q E hr h=>?_)
 ·obtain⟨x,dx,t,n,Aa,ps,k,pr,rfl,_⟩:=h
  rfl
 ·obtain⟨x,dx,t,n,Aa,ps,k,pr,rfl,⟨hx,ht,hl⟩,hk,q⟩:=h
  refine⟨_,ai (ar (ay aE (ay aE (al (pv 0) rfl) (pv 1) (fun _ _=>rfl)) aj (fun _ _=>rfl))),?_⟩
  obtain⟨v,hv,u,rfl,hu⟩:=Ak.F1 hl hk
  refine⟨_,rfl,x,c.land,dx,_,_,rfl,hx,L.cl,L.nl,rfl,_,rfl,t,_,_,_,rfl,rfl,Ab.of ht,ak hv,u,_,1,_,rfl,rfl,Ab.of hu,ak (j:=1) rfl,q⟩
noncomputable def isI:V->Bool
 | .int _=>true
 | _=>false
noncomputable def jZ:V->Int->Int->Bool
 | .int i,a,b=>decide (a <= i/\i <= b)
 | _,_,_=>false
inductive rE:V->Prop
 | int (i:Int):rE (.int i)
 | bl (b:Bool):rE (.bl b)
 | Af:rE .Af
structure vc (K:Frag):Prop where
 ii:kitOne K (.type "int") (.type "int")=some true
 ib:kitOne K (.type "int") (.type "bool")=some false
 bi:kitOne K (.type "bool") (.type "int")=some true
 bb:kitOne K (.type "bool") (.type "bool")=some true
 ni:kitOne K (.type "NoneType") (.type "int")=some false
noncomputable def gA:Sp:=fun vs H Q _=>∃ v,vs=[v]/\rE v/\Q (.bl (isI v)) H
noncomputable def fG:Sp:=fun vs H Q _=>∃ (v:V)(a b:Int),vs=[v, .int a, .int b]/\rE v/\Q (.bl (jZ v a b)) H
noncomputable def jj (K:Frag):Sp:=fun vs H Q _=>∃ (a:Addr)(ns:List Int)(k:Nat),vs=[.ref a, .int k]/\zU K H a (ns.map V.int)/\∀ d,Q (.int d) H
noncomputable def ji:Sp:=fun vs H Q _=>∃ (c:Int)(k:Nat),vs=[.int c, .int k]/\k <= 1000000/\∀ d:Int,0 <= d->Q (.int d) H
theorem Ak.imp {H H':Hp}(h:∀ v p,xi H v p->xi H' v p):∀ {vs:List V}{ps:List (Int × Int)},Ak H vs ps->Ak H' vs ps:=fun zS=>by
 induction zS with
 | nil=>exact .nil
 | cons z r ih=>exact .cons (h _ _ z) ih
noncomputable def hV:Option Int->V
 | none => .Af
 | some z => .int z
abbrev Fs:=List (Str × V)
noncomputable def iB (r b:Int)(h:V)(pa:Addr):Fs:=[("rights", .int r),("returning", .int b),("holder",h),("pieces", .ref pa)]
structure Ai (H:Hp)(C x dx pa:Addr)(r b:Int)(h:Option Int)(Am:List V)(qs:List (Int × Int)):Prop where
 ins:H x=some (.ins C dx (iB r b (hV h) pa))
 lst:H pa=some (.lst Am)
 Bh:Ak H Am qs
noncomputable def Bm (x pa:Addr)(H H':Hp):Prop:=∀ a o,a ≠ x->a ≠ pa->H a=some o->H' a=some o
theorem Bm.DD {C x dx pa:Addr}{fs:Fs}{Am:List V}{H H':Hp}(h:Bm x pa H H')(hx:H x=some (.ins C dx fs))(hp:H pa=some (.lst Am)){vs:List V}{qs:List (Int × Int)}:Ak H vs qs->Ak H' vs qs :=
 Ak.imp fun _ _ zS=>by obtain⟨t,e,q⟩:=zS;exact⟨t,e,h _ _ (aR q hx (by intro z;cases z)) (aR q hp (by intro z;cases z)) q⟩
theorem Ai.same {H H':Hp}{C x dx pa:Addr}{r b:Int}{h:Option Int}{Am:List V}{qs:List (Int × Int)}(L:Ai H C x dx pa r b h Am qs)(s:zO H H'):Ai H' C x dx pa r b h Am qs:=⟨s _ _ L.ins,s _ _ L.lst,Ak.same s L.Bh⟩
noncomputable def ce (r:Int)(h:Option Int)(l c:Int):Bool:=if r=0 then false else if c=0 then decide (h=none) else decide (h=some l)
theorem zm (h:Option Int):decide (hV h=V.Af)=decide (h=none):=by cases h<;>rfl
theorem zn (h:Option Int)(l:Int):decide (hV h=V.int l)=decide (h=some l):=by
 cases h with
 | none=>rfl
 | some z =>
  show decide (V.int z=V.int l)=_
  rw[bN]
  by_cases e:z=l
  ·rw[decide_eq_true e,decide_eq_true (by rw[e])]
  ·rw[decide_eq_false e,decide_eq_false fun q=>e (Option.some.inj q)]
theorem wN (h:Option Int)(l:Int):yb (hV h) (.int l)=true:=by cases h<;>rfl
structure xB (K:Frag)(C:Addr):Prop where
 cl:Cr K C
 n1:Ac K C "rights"
 n2:Ac K C "returning"
 n3:Ac K C "holder"
 n4:Ac K C "pieces"
structure LA (K:Frag)(mg:Str->Option Value)(nm:Addr):Prop where
 m:mg "NoMove" = some (.ref nm)
 x:bq K nm none=true
 k:keepIn K (.ref nm)=true
 e:PySem.W.exmOne K (.ref nm) (.ref nm)=some true
noncomputable def sw (C:Addr):Sp:=fun vs H Q _=>∃ (x dx:Addr)(room:Int),vs=[.ref x, .int room]/\H x=some (.ins C dx [])/\∀ (pa:Addr)(H':Hp),H pa=none->(∀ a o,a ≠ x->H a=some o->H' a=some o)->Ai H' C x dx pa room 0 none [] []->Q .Af H'
noncomputable def kT (C:Addr):Sp:=fun vs H Q _=>∃ (x dx pa:Addr)(r b:Int)(h:Option Int)(l c:Int),vs=[.ref x, .int l, .int c]/\H x=some (.ins C dx (iB r b (hV h) pa))/\Q (.bl (ce r h l c)) H
noncomputable def xp (C nm:Addr):Sp:=fun vs H Q E=>∃ (x dx pa:Addr)(r b:Int)(h:Option Int)(Am:List V)(qs:List (Int × Int))(l c:Int)(last:Bool),vs=[.ref x, .int l, .int c, .bl last]/\Ai H C x dx pa r b h Am qs/\Am.length < 100000 /\
 (ce r h l c=false->∀ H',zO H H'->E (.ref nm) none H') /\
 (ce r h l c=true->∀ (t:Addr)(H':Hp),Bm x pa H H'->Ai H' C x dx pa (r - 1) b (if last then none else some l) (Am ++ [.ref t]) (qs ++ [(l,c)])->Q .Af H')
noncomputable def oZ:List V->V
 | [] => .Af
 | v :: _=>v
noncomputable def iK (C:Addr):Sp:=fun vs H Q _=>∃ (x dx pa:Addr)(r b:Int)(h:Option Int)(Am:List V)(qs:List (Int × Int)),vs=[.ref x]/\Ai H C x dx pa r b h Am qs/\Q (oZ Am) H
noncomputable def oi (C nm:Addr):Sp:=fun vs H Q E=>∃ (x dx pa:Addr)(r b:Int)(h:Option Int)(Am:List V)(qs:List (Int × Int)),vs=[.ref x]/\Ai H C x dx pa r b h Am qs /\
 (Am=[]->∀ H',zO H H'->E (.ref nm) none H') /\
 (∀ v rest,Am=v :: rest->∀ H':Hp,Bm x pa H H'->Ai H' C x dx pa r (b + 1) h rest qs.tail->Q v H')
noncomputable def pE (C nm:Addr):Sp:=fun vs H Q E=>∃ (x dx pa:Addr)(r b:Int)(h:Option Int)(Am:List V)(qs:List (Int × Int)),vs=[.ref x]/\Ai H C x dx pa r b h Am qs /\
 (b=0->∀ H',zO H H'->E (.ref nm) none H') /\
 (b ≠ 0->∀ H':Hp,Bm x pa H H'->Ai H' C x dx pa (r + 1) (b - 1) h Am qs->Q .Af H')
theorem Rp (n:Nat):seqIndex? 0 (n + 1)=some 0:=by
 unfold seqIndex?
 simp
theorem kd {f:Addr}{fd:FuncData}(F:Al K "is_whole" "is_whole" gc f fd)(T:eO mg)(Z:vc K):zP P w K mg base aB 1 f fd ["value"] gA:=by
 refine F.ok pG (fun _ _ _ _ h=>?_) (fun _ _ _ s H _ Q E hr h=>?_)
 ·obtain⟨m,rfl,_⟩:=h
  rfl
 ·obtain⟨v,rfl,hv,q⟩:=h
  refine⟨_,ai (ar (dA (av hZ rfl T.J4 PyProof.Rows.boot_isinstance (aa (pv 0) (aa (fJ (v := .ty "int") rfl T.int PySem.Pv.boot_int rfl) ad)))
   (dz (tS (av hZ rfl T.J4 PyProof.Rows.boot_isinstance (aa (pv 0) (aa (fJ (v := .ty "bool") rfl T.bool PySem.Pv.boot_bool rfl) ad))))))),?_⟩
  cases hv with
  | int i=>exact⟨_,rfl, .int i,_, "int",true,rfl, .int i,Z.ii,true,rfl,aJ ⟨_,rfl, .int i,_, "bool",false,rfl, .int i,Z.ib,false,rfl,q⟩⟩
  | bl b=>exact⟨_,rfl, .bl b,_, "int",true,rfl, .bl b,Z.bi,true,rfl,aJ ⟨_,rfl, .bl b,_, "bool",true,rfl, .bl b,Z.bb,true,rfl,q⟩⟩
  | Af=>exact⟨_,rfl, .Af,_, "int",false,rfl, .Af,Z.ni,false,rfl,aI q⟩
theorem oM {f fh:Addr}{fd CK:FuncData}(F:Al K "is_within" "is_within" iN f fd)(T:eO mg)(Z:vc K)(mh:mg "is_whole" = some (.ref fh))(Fh:Al K "is_whole" "is_whole" gc fh CK)(bh:Binds K CK ["value"] []) :
  zP P w K mg base aB 2 f fd ["value", "least", "most"] fG:=by
 have G:zP P w K mg base aB 1 fh CK ["value"] gA:=kd Fh T Z
 refine F.ok lR (fun _ _ _ _ h=>?_) (fun _ _ _ s H _ Q E hr h=>?_)
 ·obtain⟨i,a,b,rfl,_⟩:=h
  rfl
 ·obtain⟨v,a,b,rfl,hv,q⟩:=h
  refine⟨_,ai (ar (dA (au G hr rfl mh Fh.kp bh .nil ap (aa (pv 0) ad)) (dz (m7 pO pO (pv 1) (pv 0) (pv 2))))),?_⟩
  cases hv with
  | bl x=>exact⟨_,rfl,_,rfl, .bl x,false,rfl,aI q⟩
  | Af=>exact⟨_,rfl,_,rfl, .Af,false,rfl,aI q⟩
  | int i =>
   refine⟨_,rfl,_,rfl, .int i,true,rfl,aJ ?_⟩
   refine⟨_,rfl,_,rfl,_,_,rfl,rfl,_,rfl,?_⟩
   have q:Q (V.bl (decide (a <= i/\i <= b))) H:=q
   by_cases h1:a <= i
   ·rw[decide_eq_true h1]
    refine aJ ⟨_,rfl,_,_,rfl,rfl,?_⟩
    show Q (V.bl (decide (i <= b))) H
    by_cases h2:i <= b
    ·rw[decide_eq_true h2];rw[decide_eq_true ⟨h1,h2⟩]at q;exact q
    ·rw[decide_eq_false h2];rw[decide_eq_false fun z=>h2 z.2]at q;exact q
   ·rw[decide_eq_false h1]
    refine aI ?_
    rw[decide_eq_false fun z=>h1 z.1]at q;exact q
theorem yh:ao ["_law_script", "_law_k"] ["_law_script", "_law_k"] (ah tD):=L2.Au
theorem pR {f:Addr}{fd:FuncData}(F:Al K "_law_cell_at" "_law_cell_at" tD f fd)(T:eO mg):zP P w K mg base aB 1 f fd ["_law_script", "_law_k"] (jj K):=by
 refine F.ok yh (fun _ _ _ _ h=>?_) (fun _ _ _ s H _ Q E hr h=>?_)
 ·obtain⟨a,ns,k,rfl,_⟩:=h
  rfl
 ·obtain⟨a,ns,k,rfl,hS,q⟩:=h
  refine⟨_,af (aQ (aw m9 (pv 1) (av aq rfl T.len PySem.boot_len (aa (pv 0) ad)) (aA _))
    (ai (ar (ay aT (pv 0) (pv 1) (fun _ _=>rfl)))) aH) (ai (ar aj)),?_⟩
  refine⟨_,rfl,_,rfl,a,_,rfl, .inl hS,_,_,rfl,rfl,_,rfl,?_⟩
  refine QB (fun h=>?_) fun _=>q _
  have h':(k:Int) < ((ns.map V.int).length:Nat):=of_decide_eq_true h
  rw[length_map]at h'
  have hk:k < ns.length:=by omega
  exact⟨_,rfl,_,rfl,a,_,k,V.int ns[k],rfl,rfl,hS,ak (by simp[hk]),q _⟩
theorem GK:ao ["_law_cell", "_law_k", "_law_number"] ["_law_cell", "_law_k"] (ah yo):=L2.Au
theorem uh {f:Addr}{fd:FuncData}(F:Al K "_law_mixed" "_law_mixed" yo f fd):zP P w K mg base aB 1 f fd ["_law_cell", "_law_k"] ji:=by
 refine F.ok GK (fun _ _ _ _ h=>?_) (fun _ _ _ s H _ Q E hr h=>?_)
 ·obtain⟨c,k,rfl,_⟩:=h
  rfl
 ·obtain⟨c,k,rfl,hk,q⟩:=h
  refine⟨_,af (aQ (aw bB (az bC (pv 0) aj) aj (aA _)) (ai (ar (az bC (az oJ (pv 0) (az bP aj (az eZ aj (az bC (pv 1) aj)))) (az oK aj aj)))) aH)
   (af (aC (i:=2) GK.nd rfl (Or.inl rfl) (az bC (az eZ (az bP (az bP (az bC (az dq (pv 0) aj) aj) (az eZ aj (pv 1))) aj) aj) aj))
   (ai (ar (az bC (az eZ (pv 2) (az bP (az dq (pv 2) aj) aj)) aj)))),?_⟩
  have pos:(0:Int) < 2147483647:=by decide
  refine⟨_,rfl,_,_,rfl,rfl,(by show (0:Int) < 2;decide),rfl,_,rfl,?_⟩
  dsimp only
  by_cases Wq:c % 2=1
  ·rw[decide_eq_true (show V.int (c % 2)=V.int 1 by rw[Wq])]
   have h0:=emod_nonneg (k:Int) (show (120:Int) ≠ 0 by decide)
   refine aJ ⟨_,rfl,_,rfl,_,_,rfl,rfl,(by show (0:Int) < 120;decide),_,_,rfl,rfl, .inl ⟨by decide,by decide⟩,_,_,rfl,rfl,_,_,rfl,rfl,(by show (0:Int) <= 1 + 20 * ((k:Int) % 120);omega),_,_,rfl,rfl,⟨by decide,by decide,by decide⟩,_,_,rfl,rfl,(by show (0:Int) < 2 ^ (20:Int).toNat;decide +kernel),?_⟩
   exact q _ (emod_nonneg _ (by decide +kernel))
  rw[decide_eq_false (show ¬ V.int (c % 2)=V.int 1 from fun z=>Wq (V.int.inj z))]
  refine aI ⟨_,rfl,_,_,rfl,rfl,⟨by decide,by decide⟩,_,_,rfl,rfl,pos,_,rfl,_,_,rfl,rfl, .inl ⟨by decide,by decide⟩,_,_,rfl,rfl,_,_,rfl,rfl,_,_,rfl,rfl, .inr ⟨by decide,by decide⟩,_,_,rfl,rfl,pos,?_⟩
  dsimp only
  have h1:=emod_nonneg ((c / 2 % 2147483647 + 7919 * (k:Int) + 1) * 48271) (show (2147483647:Int) ≠ 0 by decide)
  have h2:=emod_lt_of_pos ((c / 2 % 2147483647 + 7919 * (k:Int) + 1) * 48271) pos
  generalize (c / 2 % 2147483647 + 7919 * (k:Int) + 1) * 48271 % 2147483647=m at h1 h2
  refine⟨_,rfl,_,rfl,_,_,rfl,rfl,⟨by decide,by decide⟩,_,_,rfl,rfl,_,_,rfl,rfl, .inl ⟨by omega,by omega⟩,_,_,rfl,rfl,pos,?_⟩
  exact q _ (emod_nonneg _ (by decide))
theorem LB:ao ["self", "room"] ["self", "room"] (ah yq):=L2.Au
theorem yQ {C f:Addr}{fd:FuncData}(F:Al K "__init__" "Lane.__init__" yq f fd)(L:xB K C):zP P w K mg base aB 1 f fd ["self", "room"] (sw C):=by
 refine F.ok LB (fun _ _ _ _ h=>?_) (fun _ _ _ s H _ Q E hr h=>?_)
 ·obtain⟨x,dx,room,rfl,_⟩:=h
  rfl
 ·obtain⟨x,dx,room,rfl,hx,q⟩:=h
  refine⟨_,af (aU (pv 0) (pv 1) rfl) (af (aU (pv 0) aj rfl) (af (aU (pv 0) cu rfl) (ai (aU (pv 0) (aV ad) rfl)))),?_⟩
  refine⟨_,rfl,_,rfl,x,C,dx,_,rfl,hx,L.cl,L.n1,by show 0 < 1000;decide,?_⟩
  refine⟨_,rfl,x,C,dx,_,rfl,ac,L.cl,L.n2,by show 1 < 1000;decide,?_⟩
  refine⟨_,rfl,x,C,dx,_,rfl,ac,L.cl,L.n3,by show 2 < 1000;decide,?_⟩
  refine⟨zero_le _,fun pa DX=>?_⟩
  have Df:x ≠ pa:=ag ac DX
  refine⟨_,rfl,x,C,dx,_,rfl,by rw[ae Df];exact ac,L.cl,L.n4,by show 3 < 1000;decide,?_⟩
  have F2:H pa=none:=by
   rw[ae (Ne.symm Df),ae (Ne.symm Df),ae (Ne.symm Df)]at DX
   exact DX
  refine q pa _ F2 (fun a o ha e=>?_) ⟨ac,by rw[ae (Ne.symm Df)];exact ac, .nil⟩
  have nap:a ≠ pa:=fun z=>by
   rw[z,F2]at e
   cases e
  rw[ae ha,ae nap,ae ha,ae ha,ae ha]
  exact e
theorem yf:ao ["self", "letter", "count"] ["self", "letter", "count"] (ah sW):=L2.Au
theorem wj {C f:Addr}{fd:FuncData}(F:Al K "open_to" "Lane.open_to" sW f fd)(L:xB K C):zP P w K mg base aB 1 f fd ["self", "letter", "count"] (kT C):=by
 refine F.ok yf (fun _ _ _ _ h=>?_) (fun _ _ _ s H _ Q E hr h=>?_)
 ·obtain⟨x,dx,pa,r,b,h,l,c,rfl,_⟩:=h
  rfl
 ·obtain⟨x,dx,pa,r,b,h,l,c,rfl,hx,q⟩:=h
  refine⟨_,af (aQ (aw bB (al (pv 0) rfl) aj (aA _)) (ai (ar jt)) aH)
   (af (aQ (aw bB (pv 2) aj (aA _)) (ai (ar (dj lz (al (pv 0) rfl) cu (aA _)))) aH)
   (ai (ar (dj bB (al (pv 0) rfl) (pv 1) (aA _))))),?_⟩
  refine⟨_,rfl,x,C,dx,_,_,rfl,hx,L.cl,L.n1,rfl,rfl,_,rfl,?_⟩
  rw[bN]
  unfold ce at q
  by_cases LC:r=0
  ·rw[decide_eq_true LC]
   rw[if_pos LC]at q
   exact aJ q
  rw[decide_eq_false LC]
  rw[if_neg LC]at q
  refine aI ⟨_,rfl,rfl,_,rfl,?_⟩
  rw[bN]
  by_cases hc0:c=0
  ·rw[decide_eq_true hc0]
   rw[if_pos hc0]at q
   refine aJ ⟨_,rfl,x,C,dx,_,_,rfl,hx,L.cl,L.n3,rfl,rfl,?_⟩
   rw[zm]
   exact q
  ·rw[decide_eq_false hc0]
   rw[if_neg hc0]at q
   refine aI ⟨_,rfl,x,C,dx,_,_,rfl,hx,L.cl,L.n3,rfl,_,rfl,wN h l,?_⟩
   rw[zn]
   exact q
theorem LD:ao ["self", "letter", "count", "last"] ["self", "letter", "count", "last"] (ah ym):=L2.Au
theorem yJ {C f nm fo:Addr}{fd CM:FuncData}(F:Al K "put" "Lane.put" ym f fd)(L:xB K C)(Ex:LA K mg nm)(mo:bu K C "open_to" fo)(bo:Binds K CM ["self", "letter", "count"] [])(Go:zP P w K mg base aB 1 fo CM ["self", "letter", "count"] (kT C)) :
  zP P w K mg base (dS P w) 2 f fd ["self", "letter", "count", "last"] (xp C nm):=by
 refine F.EY LD (fun _ _ _ _ h=>?_) (fun _ _ _ s H _ Q E hr h=>?_)
 ·obtain⟨x,dx,pa,r,b,h,Am,qs,l,c,last,rfl,_⟩:=h
  rfl
 ·obtain⟨x,dx,pa,r,b,h,Am,qs,l,c,last,rfl,hL,hlen,h1,h2⟩:=h
  refine⟨_,af (aQ (ca (bJ (aD (pv 0) L.cl mo Go hr bo .nil ap (aa (pv 1) (aa (pv 2) ad))))) (ai (b9 rfl Ex.x aN (bZ Ex.x Ex.k rfl rfl Ex.m (aa b0 ad)))) aH)
   (af (dM (pv 0) aj qg)
   (af (aM (cp plainAttrs_list PySem.F.slot_list_append PySem.F.type_list_append bE (al (pv 0) rfl) (aa (bK (aa (pv 1) (aa (pv 2) ad))) ad)))
   (ai (aU (pv 0) (c9 (bJ (pv 3)) cu (pv 1)) rfl)))),?_⟩
  refine⟨_,rfl,x,dx,_,rfl,hL.ins,rfl,_,rfl,_,rfl,x,dx,pa,r,b,h,l,c,rfl,hL.ins,_,rfl,?_⟩
  cases ho:ce r h l c with
  | false =>
   refine aJ ⟨by show 1 <= sizeLine;decide,?_⟩
   exact h1 ho H (zO.refl H)
  | true =>
   refine aI ?_
   refine⟨_,rfl,x,C,dx,_,_,rfl,hL.ins,L.cl,L.n1,rfl,_,_,rfl,rfl,dx,_,hL.ins,by show 4 < 1000;decide,?_⟩
   have Df:pa ≠ x:=aR hL.lst hL.ins (by intro z;cases z)
   have B1:(upd H x (.ins C dx (aK "rights" (.int (r - 1)) (iB r b (hV h) pa)))) x=some (.ins C dx (iB (r - 1) b (hV h) pa)):=ac
   have Av:(upd H x (.ins C dx (aK "rights" (.int (r - 1)) (iB r b (hV h) pa)))) pa=some (.lst Am):=by rw[ae Df];exact hL.lst
   have o1:Bm x pa H (upd H x (.ins C dx (aK "rights" (.int (r - 1)) (iB r b (hV h) pa)))):=fun a o ha _ e=>by rw[ae ha];exact e
   show _
   generalize upd H x (.ins C dx (aK "rights" (.int (r - 1)) (iB r b (hV h) pa)))=H1 at B1 Av o1 ⊢
   refine⟨_,rfl,x,C,dx,_,_,rfl,B1,L.cl,L.n4,rfl, .inl ⟨rfl,_,zU.of Av⟩,_,rfl,_,rfl,by show 2 <= sizeLine;decide,fun t ht=>?_⟩
   have s2:=(zO.refl H1).new (o := .tup [.int l, .int c]) ht
   have gt:(upd H1 t (.tup [.int l, .int c])) t=some (.tup [.int l, .int c]):=ac
   generalize upd H1 t (.tup [.int l, .int c])=H2 at s2 gt ⊢
   refine⟨pa,Am,_,rfl,rfl,s2 _ _ Av,by rw[sizeLine_eq];omega,?_⟩
   have OT:(upd H2 pa (.lst (Am ++ [.ref t]))) x=some (.ins C dx (iB (r - 1) b (hV h) pa)):=by rw[ae (Ne.symm Df)];exact s2 _ _ B1
   have J5:(upd H2 pa (.lst (Am ++ [.ref t]))) pa=some (.lst (Am ++ [.ref t])):=ac
   have o3:Bm x pa H (upd H2 pa (.lst (Am ++ [.ref t]))):=fun a o ha hb e=>by rw[ae hb];exact s2 _ _ (o1 a o ha hb e)
   have ntp:t ≠ pa:=aR gt (s2 _ _ Av) (by intro z;cases z)
   have Rq:(upd H2 pa (.lst (Am ++ [.ref t]))) t=some (.tup [.int l, .int c]):=by rw[ae ntp];exact gt
   generalize upd H2 pa (.lst (Am ++ [.ref t]))=H3 at OT J5 o3 Rq ⊢
   have ntx:t ≠ x:=aR Rq OT (by intro z;cases z)
   have fin:∀ h':Option Int,Ai (upd H3 x (.ins C dx (aK "holder" (hV h') (iB (r - 1) b (hV h) pa)))) C x dx pa (r - 1) b h' (Am ++ [.ref t]) (qs ++ [(l,c)]):=fun h' =>
    ⟨ac,by rw[ae Df];exact J5,Ak.snoc ⟨t,rfl,by rw[ae ntx];exact Rq⟩ (Bm.DD (fun a o ha hb e=>by rw[ae ha];exact o3 a o ha hb e) hL.ins hL.lst hL.Bh)⟩
   have off:∀ o',Bm x pa H (upd H3 x o'):=fun o' a o ha hb e=>by rw[ae ha];exact o3 a o ha hb e
   refine⟨_,rfl,_,rfl,?_⟩
   cases last with
   | true=>exact aJ ⟨_,rfl,x,C,dx,_,rfl,OT,L.cl,L.n3,by show 4 < 1000;decide,h2 ho t _ (off _) (fin none)⟩
   | false=>exact aI ⟨_,rfl,_,rfl,x,C,dx,_,rfl,OT,L.cl,L.n3,by show 4 < 1000;decide,h2 ho t _ (off _) (fin (some l))⟩
theorem v7:ao ["self"] ["self"] (ah oB):=L2.Au
theorem uk {C f:Addr}{fd:FuncData}(F:Al K "front" "Lane.front" oB f fd)(L:xB K C):zP P w K mg base aB 1 f fd ["self"] (iK C):=by
 refine F.ok v7 (fun _ _ _ _ h=>?_) (fun _ _ _ s H _ Q E hr h=>?_)
 ·obtain⟨x,dx,pa,r,b,h,Am,qs,rfl,_⟩:=h
  rfl
 ·obtain⟨x,dx,pa,r,b,h,Am,qs,rfl,hL,q⟩:=h
  refine⟨_,ai (ar (c9 (gN (al (pv 0) rfl) (fun _=>rfl)) (ay aT (al (pv 0) rfl) aj (fun _ _=>rfl)) cu)),?_⟩
  refine⟨_,rfl,x,C,dx,_,_,rfl,hL.ins,L.cl,L.n4,rfl,_, .inl ⟨_,zU.of hL.lst,rfl⟩,?_⟩
  cases Am with
  | nil=>exact aI q
  | cons v rest=>exact aJ ⟨_,rfl,x,C,dx,_,_,rfl,hL.ins,L.cl,L.n4,rfl,pa,_,0,v,rfl,rfl,zU.of hL.lst,ak (j:=0) rfl,q⟩
theorem yc:ao ["self"] ["self"] (ah sR):=L2.Au
theorem vZ {C f nm:Addr}{fd:FuncData}(F:Al K "pull" "Lane.pull" sR f fd)(L:xB K C)(Ex:LA K mg nm):zP P w K mg base (dS P w) 1 f fd ["self"] (oi C nm):=by
 refine F.EY yc (fun _ _ _ _ h=>?_) (fun _ _ _ s H _ Q E hr h=>?_)
 ·obtain⟨x,dx,pa,r,b,h,Am,qs,rfl,_⟩:=h
  rfl
 ·obtain⟨x,dx,pa,r,b,h,Am,qs,rfl,hL,h1,h2⟩:=h
  refine⟨_,af (aQ (ca (gN (al (pv 0) rfl) (fun _=>rfl))) (ai (b9 rfl Ex.x aN (bZ Ex.x Ex.k rfl rfl Ex.m (aa b0 ad)))) aH)
   (af (dM (pv 0) aj l8)
   (ai (ar (cp plainAttrs_list PySem.F.slot_list_pop PySem.F.type_list_pop ux (al (pv 0) rfl) (aa aj ad))))),?_⟩
  refine⟨_,rfl,x,C,dx,_,_,rfl,hL.ins,L.cl,L.n4,rfl,_, .inl ⟨_,zU.of hL.lst,rfl⟩,?_⟩
  have Df:pa ≠ x:=aR hL.lst hL.ins (by intro z;cases z)
  cases Am with
  | nil =>
   refine aJ ⟨by show 1 <= sizeLine;decide,?_⟩
   exact h1 rfl H (zO.refl H)
  | cons v rest =>
   refine aI ?_
   refine⟨_,rfl,x,C,dx,_,_,rfl,hL.ins,L.cl,L.n2,rfl,_,_,rfl,rfl,dx,_,hL.ins,by show 4 < 1000;decide,?_⟩
   have B1:(upd H x (.ins C dx (aK "returning" (.int (b + 1)) (iB r b (hV h) pa)))) x=some (.ins C dx (iB r (b + 1) (hV h) pa)):=ac
   have Av:(upd H x (.ins C dx (aK "returning" (.int (b + 1)) (iB r b (hV h) pa)))) pa=some (.lst (v :: rest)):=by rw[ae Df];exact hL.lst
   have o1:Bm x pa H (upd H x (.ins C dx (aK "returning" (.int (b + 1)) (iB r b (hV h) pa)))):=fun a o ha _ e=>by rw[ae ha];exact e
   show _
   generalize upd H x (.ins C dx (aK "returning" (.int (b + 1)) (iB r b (hV h) pa)))=H1 at B1 Av o1 ⊢
   refine⟨_,rfl,x,C,dx,_,_,rfl,B1,L.cl,L.n4,rfl, .inl ⟨rfl,_,zU.of Av⟩,pa,v :: rest,0,0,v,rfl,rfl,Av,by decide,by decide,Rp _,rfl,?_⟩
   have o2:Bm x pa H (upd H1 pa (.lst rest)):=fun a o ha hb e=>by rw[ae hb];exact o1 a o ha hb e
   refine h2 v rest rfl _ o2 ⟨by rw[ae (Ne.symm Df)];exact B1,ac,?_⟩
   have z:=Bm.DD o2 hL.ins hL.lst hL.Bh
   cases z with
   | cons _ t=>exact t
theorem v8:ao ["self"] ["self"] (ah oE):=L2.Au
theorem um {C f nm:Addr}{fd:FuncData}(F:Al K "bring" "Lane.bring" oE f fd)(L:xB K C)(Ex:LA K mg nm):zP P w K mg base (dS P w) 1 f fd ["self"] (pE C nm):=by
 refine F.EY v8 (fun _ _ _ _ h=>?_) (fun _ _ _ s H _ Q E hr h=>?_)
 ·obtain⟨x,dx,pa,r,b,h,Am,qs,rfl,_⟩:=h
  rfl
 ·obtain⟨x,dx,pa,r,b,h,Am,qs,rfl,hL,h1,h2⟩:=h
  refine⟨_,af (aQ (aw bB (al (pv 0) rfl) aj (aA _)) (ai (b9 rfl Ex.x aN (bZ Ex.x Ex.k rfl rfl Ex.m (aa b0 ad)))) aH)
   (af (dM (pv 0) aj qg) (ai (dM (pv 0) aj l8))),?_⟩
  refine⟨_,rfl,x,C,dx,_,_,rfl,hL.ins,L.cl,L.n2,rfl,rfl,_,rfl,?_⟩
  have Df:pa ≠ x:=aR hL.lst hL.ins (by intro z;cases z)
  rw[bN]
  by_cases OU:b=0
  ·rw[decide_eq_true OU]
   refine aJ ⟨by show 1 <= sizeLine;decide,?_⟩
   exact h1 OU H (zO.refl H)
  ·rw[decide_eq_false OU]
   refine aI ?_
   refine⟨_,rfl,x,C,dx,_,_,rfl,hL.ins,L.cl,L.n2,rfl,_,_,rfl,rfl,dx,_,hL.ins,by show 4 < 1000;decide,?_⟩
   have B1:(upd H x (.ins C dx (aK "returning" (.int (b - 1)) (iB r b (hV h) pa)))) x=some (.ins C dx (iB r (b - 1) (hV h) pa)):=ac
   have o1:Bm x pa H (upd H x (.ins C dx (aK "returning" (.int (b - 1)) (iB r b (hV h) pa)))):=fun a o ha _ e=>by rw[ae ha];exact e
   have Av:(upd H x (.ins C dx (aK "returning" (.int (b - 1)) (iB r b (hV h) pa)))) pa=some (.lst Am):=by rw[ae Df];exact hL.lst
   show _
   generalize upd H x (.ins C dx (aK "returning" (.int (b - 1)) (iB r b (hV h) pa)))=H1 at B1 Av o1 ⊢
   refine⟨_,rfl,x,C,dx,_,_,rfl,B1,L.cl,L.n1,rfl,_,_,rfl,rfl,dx,_,B1,by show 4 < 1000;decide,?_⟩
   have o2:∀ o',Bm x pa H (upd H1 x o'):=fun o' a o ha hb e=>by rw[ae ha];exact o1 a o ha hb e
   exact h2 OU _ (o2 _) ⟨ac,by rw[ae Df];exact Av,Bm.DD (o2 _) hL.ins hL.lst hL.Bh⟩
noncomputable def pS (m:Nat)(Ae:List V):Bool:=decide (Ae.length=m) && Ae.all fun v=>jZ v 1 60
noncomputable def Sq (K:Frag)(H:Hp)(a:Addr)(xs:List V):Prop:=zU K H a xs∨Ab K H a xs
noncomputable def p7 (K:Frag)(c:Cs)(nr:Addr):Sp:=fun vs H Q E=>∃ (lx Ao lt:Addr)(n:Int)(Aa:List V)(ps:List (Int × Int))(rv:V),vs=[.ref lx,rv]/\ck H c lx Ao lt n Aa ps/\ps.length <= 1000 /\
 ((rv = .Af/\∀ t H',zO H H'->H' t=some (.tup (List.replicate ps.length (.int 1)))->Q (.ref t) H') ∨
  (∃ ra Ae,rv = .ref ra/\Sq K H ra Ae/\Ae.length <= 1000/\(∀ v ∈ Ae,rE v)/\(pS ps.length Ae=false->∀ H',zO H H'->E (.ref nr) none H')/\(pS ps.length Ae=true->∀ t H',zO H H'->Ab K H' t Ae->Q (.ref t) H')))
noncomputable def zk (s:Stmt):Scope:=match s with
 | .If _ (.Return (some (.Call _ [.ListComp _ _ sc _] _ _)) _ :: _) _ _=>sc
 | _=>zQ0
noncomputable def yB (s:Stmt):Scope:=match s with
 | .If (.BoolOp _ [_, .UnaryOp _ (.Call _ [.ListComp _ _ sc _] _ _) _] _) _ _ _=>sc
 | _=>zQ0
noncomputable def J6:V->Bool
 | .int i=>decide ((if i < 0 then -i else i) < 10 ^ (60:Int).toNat)
 | _=>false
noncomputable def rV:Sp:=fun vs H Q _=>∃ v,vs=[v]/\rE v/\Q (.bl (J6 v)) H
noncomputable def xo (K:Frag)(f1 f2:Str):Sp:=fun vs H Q _=>∃ e C tt v1 v2,vs=[.ref e,v1,v2]/\H e=some (bI e C tt none)/\gi K C/\findIn K (.ref C) f1=some none/\findIn K (.ref C) f2=some none/\∀ d H',H d=none->(∀ b o,b ≠ e->H b=some o->H' b=some o)->H' e=some (bI e C tt (some d))->H' d=some (.xd [(f1,v1),(f2,v2)])->Q .Af H'
theorem b7 {K:Frag}{H H':Hp}{a:Addr}{xs:List V}(e:zO H H')(h:Ab K H a xs):Ab K H' a xs:=by
 rcases h with h | h
 ·refine .inl ?_
  rcases h with h | ⟨o,h⟩
  ·exact .inl (e _ _ h)
  ·exact .inr ⟨o,e _ _ h⟩
 ·exact .inr h
theorem LF {X:Cx}{tg it:Expr}{a b:TI}(h1:PI X tg it a)(h2:PI X tg it b):PI X tg it (fun σ H R=>a σ H R∨b σ H R):=fun pins s σ H R I h=>h.elim (h1 pins s σ H R I) (h2 pins s σ H R I)
theorem nk {J:It}{xs:List V}{g:TG}{te:TE}{σ0:St}{H:Hp}{Q:VK}(f:V->V)(hn:xs.length < sizeLine)(hgo:∀ i,i < xs.length->J.go i H)(Dn:J.stop xs.length H)(hy:∀ i x H',J.EU i H x H'->H' = H/\xs[i]? = some x)
  (hs:∀ (x:V)(N:V->Hp->Prop),x ∈ xs->N (f x) H->g x σ0 H fun σ2 H2=>te σ2 H2 N)
  (hq:∀ D,H D=none->Q (.ref D) (upd H D (.lst (xs.map f)))):du J g nZ te σ0 Q H:=by
 refine bH xs.length hn (fun i acc H'=>H' = H/\acc=(xs.take i).map f) ⟨rfl,rfl⟩ (fun i acc H' h=>by rw[h.2,length_map];exact length_take_le _ _) (fun i acc H' hi h=>?_) (fun acc H' h=>?_)
 ·obtain⟨rfl,rfl⟩:=h
  refine⟨hgo i hi,fun v H2 y=>?_⟩
  obtain⟨e,hx⟩:=hy i v H2 y
  subst e
  exact hs v (fun y H4=>H4=H2/\(xs.take i).map f ++ [y]=(xs.take (i + 1)).map f) (mem_of_getElem? hx) ⟨rfl,by rw[take_succ,hx,map_append];rfl⟩
 ·obtain⟨rfl,rfl⟩:=h
  rw[take_length]
  exact⟨Dn,hq⟩
theorem zy {K:Frag}{a:Addr}{xs:List V}{g:TG}{te:TE}{σ0:St}{H:Hp}{Q:VK}(f:V->V)(hn:xs.length < sizeLine)(ha:zU K H a xs)(hs:∀ (x:V) (N:V->Hp->Prop),x ∈ xs->N (f x) H->g x σ0 H fun σ2 H2=>te σ2 H2 N)
  (hq:∀ D,H D=none->Q (.ref D) (upd H D (.lst (xs.map f)))):du (vj K a) g nZ te σ0 Q H :=
 nk f hn (fun i hi=>⟨xs,xs[i],ha,by simp[hi]⟩) ⟨xs,ha,Nat.le_refl _⟩ (fun i x H' y=>⟨y.1,y.2 xs ha⟩) hs hq
theorem uU {K:Frag}{a:Addr}{xs:List V}{g:TG}{te:TE}{σ0:St}{H:Hp}{Q:VK}(f:V->V)(hn:xs.length < sizeLine)(ha:Ab K H a xs)(hs:∀ (x:V) (N:V->Hp->Prop),x ∈ xs->N (f x) H->g x σ0 H fun σ2 H2=>te σ2 H2 N)
  (hq:∀ D,H D=none->Q (.ref D) (upd H D (.lst (xs.map f)))):du (O5 K a) g nZ te σ0 Q H :=
 nk f hn (fun i hi=>⟨xs,xs[i],ha,by simp[hi]⟩) ⟨xs,ha,Nat.le_refl _⟩ (fun i x H' y=>⟨y.1,y.2 xs ha⟩) hs hq
structure vk (K:Frag)(mg:Str->Option Value)(x:Str)(C:Addr):Prop where
 m:mg x=some (.ref C)
 x:bq K C none=true
 k:keepIn K (.ref C)=true
theorem Rr:ao ["land", "rooms"] ["land", "rooms"] (ah ge):=L2.Au
theorem Rt:Bk ["land", "rooms"] (ah ge) (zk ((aF ge).getD 0 (.Pass ⟨0,0,0,0⟩))) [] []:=L2.Cg
theorem Ru:Bk ["land", "rooms"] (ah ge) (yB ((aF ge).getD 1 (.Pass ⟨0,0,0,0⟩))) [] []:=L2.Cg
theorem Rv:(["lane"]:List Str).Nodup:=by decide +kernel
theorem LG:(["room"]:List Str).Nodup:=by decide +kernel
theorem ud {c:Cs}{f fw nr:Addr}{fd dw:FuncData}{t1:Tok}(F:Al K "rooms_of" "rooms_of" ge f fd)(T:eO mg)(L:kL K c)(X:vk K mg "NoRooms" nr)
  (mw:mg "is_within" = some (.ref fw)) (kw:keepIn K (.ref fw)=true) (bw:Binds K dw ["value", "least", "most"] []) (Gw:zP P w K mg base aB 2 fw dw ["value", "least", "most"] fG) (mp:mg "MOST_ROOM" = some (.int 60 t1)) :
  zP P w K mg base (dS P w) 3 f fd ["land", "rooms"] (p7 K c nr):=by
 refine F.EY Rr (fun _ _ _ _ h=>?_) (fun _ _ _ s H _ Q E hr h=>?_)
 ·obtain⟨lx,Ao,lt,n,Aa,ps,rv,rfl,_⟩:=h
  rfl
 ·obtain⟨lx,Ao,lt,n,Aa,ps,rv,rfl,hL,Br,hh⟩:=h
  refine⟨_,af (aQ (aw lz (pv 1) cu (aA _)) (ai (ar (bU dG rfl T.tuple PySem.Pv.boot_tuple (aa (bv (own:=["lane"]) (capN:=[]) (cap:=[]) Rt rfl (lr (al (pv 0) rfl))
     (fun C s' H' fp=>⟨ax (i:=0) Rv rfl (Or.inl rfl),ci,aj⟩)) ad)))) aH)
   (af (aQ (iR (PW.pt (gL (aw jw (av aq rfl T.len PySem.boot_len (aa (pv 1) ad)) (av aq rfl T.len PySem.boot_len (aa (al (pv 0) rfl) ad)) (aA _))
     (dZ (ca (bJ (av (jF rfl) rfl T.all PyProof.Rows.boot_all (aa (bv (own:=["room"]) (capN:=[]) (cap:=[]) Ru rfl (LF (bT (pv 1)) (lr (pv 1)))
      (fun C s' H' fp=>⟨ax (i:=0) LG rfl (Or.inl rfl),ci,au Gw hr rfl mw kw bw .nil ap (aa (pv 0) (aa aj (aa (eA (v := .int 60) rfl mp ⟨_,rfl⟩) ad)))⟩)) ad))))))))
    (ai (b9 rfl X.x aN (bZ X.x X.k rfl rfl X.m (aa b0 ad)))) aH)
   (ai (ar (bU dG rfl T.tuple PySem.Pv.boot_tuple (aa (pv 1) ad))))),?_⟩
  have El:Aa.length=ps.length:=Paired.length hL.2.2
  refine⟨_,rfl,rfl,_,rfl,?_⟩
  rcases hh with ⟨rfl,q⟩ | ⟨ra,Ae,rfl,hR,D5,DF,qE,q⟩
  ·refine aJ ⟨_,rfl,lx,c.land,Ao,_,_,rfl,hL.1,L.cl,L.nl,rfl,lt,rfl,⟨_,Ab.of hL.2.1⟩,?_⟩
   refine uU (fun _ => .int 1) (by rw[sizeLine_eq];omega) (Ab.of hL.2.1) (fun x N hx h=>h) (fun D hD=>?_)
   have s1:=(zO.refl H).new (o := .lst (Aa.map fun _=>V.int 1)) hD
   refine⟨D,_,rfl, .inl ⟨zU.of ac,fun t ht=>q t _ (s1.new ht) ?_⟩⟩
   rw[ac,List.map_const',El]
  ·refine aI ?_
   have len1:∀ {H:Hp},Sq K H ra Ae->(zU K H ra Ae∨Ab K H ra Ae):=fun h=>h
   refine⟨fun b H'=>zO H H'/\b = !pS ps.length Ae,?_,?_⟩
   ·refine⟨_,rfl,ra,Ae,rfl,hR,_,rfl,lx,c.land,Ao,_,_,rfl,hL.1,L.cl,L.nl,rfl,lt,_,rfl, .inr (Ab.of hL.2.1),rfl,_,rfl,?_⟩
    rw[bN,El]
    by_cases OV:Ae.length=ps.length
    rotate_left
    ·rw[decide_eq_false (show ¬ ((Ae.length:Nat):Int)=(ps.length:Nat) by omega)]
     refine aJ ⟨zO.refl H,?_⟩
     unfold pS
     rw[decide_eq_false OV];rfl
    rw[decide_eq_true (show((Ae.length:Nat):Int)=(ps.length:Nat) by omega)]
    have step:∀ (x:V)(N:V->Hp->Prop),x ∈ Ae->N (.bl (jZ x 1 60)) H->rE x:=fun x _ hx _=>DF x hx
    have fin:∀ D,H D=none->∃ (p:Addr)(bs:List Bool),[V.ref D]=[.ref p]/\zU K (upd H D (.lst (Ae.map fun v=>V.bl (jZ v 1 60)))) p (bs.map V.bl)/\∃ cc,V.bl (bs.all id) = .bl cc/\(zO H (upd H D (.lst (Ae.map fun v=>V.bl (jZ v 1 60))))/\(!cc) = !pS ps.length Ae):=fun D hD=>by
     refine⟨D,Ae.map fun v=>jZ v 1 60,rfl,zU.of (by rw[ac,map_map];rfl),_,rfl,(zO.refl H).new hD,?_⟩
     unfold pS
     rw[decide_eq_true OV,Bool.true_and,all_map];rfl
    refine aI ?_
    rcases hR with hR | hR
    ·refine .inl ⟨_,rfl,ra,rfl,⟨_,hR⟩,?_⟩
     exact zy (fun v => .bl (jZ v 1 60)) (by rw[sizeLine_eq];omega) hR (fun x N hx h=>⟨_,rfl,x,1,60,rfl,DF x hx,h⟩) fin
    ·refine .inr ⟨_,rfl,ra,rfl,⟨_,hR⟩,?_⟩
     exact uU (fun v => .bl (jZ v 1 60)) (by rw[sizeLine_eq];omega) hR (fun x N hx h=>⟨_,rfl,x,1,60,rfl,DF x hx,h⟩) fin
   rintro b H' ⟨s',rfl⟩
   cases zV:pS ps.length Ae with
   | false=>exact aJ ⟨by show 1 <= sizeLine;decide,qE zV H' s'⟩
   | true =>
    refine aI ⟨_,rfl,ra,Ae,rfl,?_⟩
    rcases hR with hR | hR
    ·exact .inl ⟨s'.seq hR,fun t ht=>q zV t _ (s'.new ht) (Ab.of ac)⟩
    ·exact .inr ⟨b7 s' hR,q zV ra _ s' (b7 s' hR)⟩
theorem Rx:ao ["word"] ["word"] (ah sO):=L2.Au
theorem vW {f fh:Addr}{fd dh:FuncData}(F:Al K "is_word" "is_word" sO f fd)(T:eO mg)(mh:mg "is_whole" = some (.ref fh))(kh:keepIn K (.ref fh)=true)(bh:Binds K dh ["value"] [])(G:zP P w K mg base aB 1 fh dh ["value"] gA) :
  zP P w K mg base aB 2 f fd ["word"] rV:=by
 refine F.ok Rx (fun _ _ _ _ h=>?_) (fun _ _ _ s H _ Q E hr h=>?_)
 ·obtain⟨v,rfl,_⟩:=h
  rfl
 ·obtain⟨v,rfl,hv,q⟩:=h
  refine⟨_,ai (ar (dA (au G hr rfl mh kh bh .nil ap (aa (pv 0) ad)) (dz (dj m9 (av uY rfl T.abs PyProof.Rows.boot_abs (aa (pv 0) ad)) (az oK aj aj) (aA _))))),?_⟩
  cases hv with
  | int i=>exact⟨_,rfl,_,rfl, .int i,true,rfl,aJ ⟨_,rfl,i,rfl,_,_,rfl,rfl,⟨by decide,by decide,by decide⟩,_,_,rfl,rfl,q⟩⟩
  | bl b=>exact⟨_,rfl,_,rfl, .bl b,false,rfl,aI q⟩
  | Af=>exact⟨_,rfl,_,rfl, .Af,false,rfl,aI q⟩
theorem Ry:ao ["self", "start", "goal"] ["self", "start", "goal"] (ah v9):=L2.Au
theorem LH {f:Addr}{fd:FuncData}(F:Al K "__init__" "NoWay.__init__" v9 f fd):zP P w K mg base aB 1 f fd ["self", "start", "goal"] (xo K "start" "goal"):=by
 refine F.ok Ry (fun _ _ _ _ h=>?_) (fun _ _ _ s H _ Q E hr h=>?_)
 ·obtain⟨e,C,tt,v1,v2,rfl,_⟩:=h
  rfl
 ·obtain⟨e,C,tt,v1,v2,rfl,he,hx,n1,n2,q⟩:=h
  refine⟨_,af (tP (pv 0) (pv 1) rfl) (ai (tO (pv 0) (pv 2) rfl)),?_⟩
  refine⟨_,rfl,_,rfl,e,C,tt,rfl,he,hx,n1,fun d hd=>?_⟩
  have Wr:e ≠ d:=ag he hd
  refine⟨_,rfl,_,rfl,e,C,tt,d,[("start",v1)],rfl,ac,by rw[ae (Ne.symm Wr)];exact ac,by show 1 < 1000;decide,hx,n2,?_⟩
  refine q d _ hd (fun b o nb eb=>?_) (by rw[ae Wr];exact ac) (by rw[ac];rfl)
  have Ws:b ≠ d:=ag eb hd
  rw[ae Ws,ae nb,ae Ws]
  exact eb
abbrev Wf:=Nat->Nat->Option Nat->List Nat
abbrev TJ:=Hp->Addr->Nat->Wf->Prop
noncomputable def NL:HO->Prop
 | .lst _=>False
 | .ins _ _ []=>False
 | .B4 _=>False
 | _=>True
noncomputable def Ap (H H':Hp):Prop:=∀ b o,H b=some o->NL o->H' b=some o
theorem zO.Ah {H H':Hp}(s:zO H H'):Ap H H':=fun b o e _=>s b o e
theorem Ap.trans {H H1 H2:Hp}(a:Ap H H1)(b:Ap H1 H2):Ap H H2:=fun x o e n=>b x o (a x o e n) n
theorem Ap.DD {H H':Hp}(k:Ap H H'){vs:List V}{ps:List (Int × Int)}(h:Ak H vs ps):Ak H' vs ps:=Ak.imp (fun _ _ ⟨t,e,q⟩=>⟨t,e,k _ _ q True.intro⟩) h
structure AS (c:Cs)(C:Addr)(J:TJ)(H:Hp)(x lx Ao lt:Addr)(n:Nat)(Aa:List V)(ps:List (Int × Int))(wy:Wf):Prop where
 j:J H x n wy
 i:∃ dx fs,H x=some (.ins C dx fs)/\fs.lookup ("land":Str)=some (.ref lx)/\fs.lookup ("ways":Str)=none
 l:ck H c lx Ao lt (n:Int) Aa ps
 OW:n <= 12
 AN:ps.length <= 40
 ok:∀ p g k,p < n->g < n->∀ z ∈ wy p g k,z < ps.length
structure Wy (K:Frag)(C fw:Addr)(dw:FuncData)(J:TJ):Prop where
 cl:Cr K C
 nl:Ac K C "land"
 m:bu K C "ways" fw
 b:Binds K dw ["self", "place", "goal", "came"] []
 B5:∀ H H' x n wy,J H x n wy->Ap H H'->J H' x n wy
theorem AS.keep {K:Frag}{c:Cs}{C fw:Addr}{dw:FuncData}{J:TJ}{H H':Hp}{x lx Ao lt:Addr}{n:Nat}{Aa:List V}{ps:List (Int × Int)}{wy:Wf}(W:Wy K C fw dw J)(h:AS c C J H x lx Ao lt n Aa ps wy)(k:Ap H H'):AS c C J H' x lx Ao lt n Aa ps wy :=
 ⟨W.B5 _ _ _ _ _ h.j k,let ⟨dx,fs,h1,h2⟩:=h.i; ⟨dx,fs,k _ _ h1 (by cases fs with | nil=>cases h2.1 | cons _ _=>exact True.intro),h2⟩,⟨k _ _ h.l.1 True.intro,k _ _ h.l.2.1 True.intro,k.DD h.l.2.2⟩,h.OW,h.AN,h.ok⟩
noncomputable def dY (J:TJ):Sp:=fun vs H Q _=>∃ (x:Addr)(n:Nat)(wy:Wf)(p g:Nat)(k:Option Nat),vs=[.ref x, .int p, .int g,cV k]/\J H x n wy/\p < n/\g < n/\∀ (D:Addr)(H':Hp),zO H H'->H D=none->H' D=some (.lst (nV (wy p g k)))->Q (.ref D) H'
structure bS where
 r:Int
 b:Int
 h:Option Int
 qs:List (Int × Int)
structure aY where
 start:Int
 goal:Int
 len:Int
 word:Int
 gone:Int
 way:List Nat
structure YS where
 rooms:List V
 lanes:List bS
 U:List aY
 lies:List (List (Int × Int))
 done:List (List V)
structure Ys where
 zR:Addr
 An:Addr
 zQ:Addr
 ex:List Addr
noncomputable def BZ (H:Hp)(C:Addr)(ex:List Addr)(v:V)(s:bS):Prop:=∃ x dx pa Am,v = .ref x/\Ai H C x dx pa s.r s.b s.h Am s.qs/\pa ∉ ex
noncomputable def oR (s:aY)(wa:Addr):Fs:=[("start", .int s.start),("goal", .int s.goal),("length", .int s.len),("word", .int s.word),("gone", .int s.gone),("way", .ref wa)]
noncomputable def C6 (H:Hp)(C:Addr)(ex:List Addr)(v:V)(s:aY):Prop:=∃ x dx wa,v = .ref x/\H x=some (.ins C dx (oR s wa))/\H wa=some (.lst (nV s.way))/\wa ∉ ex
noncomputable def Bp (H:Hp)(v:V)(qs:List (Int × Int)):Prop:=∃ t vs,v = .ref t/\H t=some (.tup vs)/\Ak H vs qs
noncomputable def Bw (H:Hp)(v:V)(m:List V):Prop:=∃ t,v = .ref t/\H t=some (.tup m)
theorem Paired.mono {α β:Type}{R R':α->β->Prop}(h:∀ a b,R a b->R' a b):∀ {as:List α}{bs:List β},Paired R as bs->Paired R' as bs:=fun zS=>by
 induction zS with
 | nil=>exact .nil
 | cons x r ih=>exact .cons (h _ _ x) ih
theorem Paired.snoc {α β:Type}{R:α->β->Prop}{a:α}{b:β}(h:R a b):∀ {as:List α}{bs:List β},Paired R as bs->Paired R (as ++ [a]) (bs ++ [b]):=fun zS=>by
 induction zS with
 | nil=>exact .cons h .nil
 | cons x r ih=>exact .cons x ih
theorem Paired.at {α β:Type}{R:α->β->Prop}:∀ {as:List α}{bs:List β}{i:Nat}{a:α},Paired R as bs->as[i]? = some a->∃ b,bs[i]? = some b/\R a b:=by
 intro _ _ i _ zS
 induction zS generalizing i with
 | nil=>intro h;cases h
 | cons x r ih =>
  intro h
  cases i with
  | zero=>cases h;exact⟨_,rfl,x⟩
  | succ i=>exact ih (i:=i) h
theorem Paired.at2 {α β:Type}{R:α->β->Prop}:∀ {as:List α}{bs:List β}{i:Nat}{b:β},Paired R as bs->bs[i]? = some b->∃ a,as[i]? = some a/\R a b:=by
 intro _ _ i _ zS
 induction zS generalizing i with
 | nil=>intro h;cases h
 | cons x r ih =>
  intro h
  cases i with
  | zero=>cases h;exact⟨_,rfl,x⟩
  | succ i=>exact ih (i:=i) h
noncomputable def zW (ex:List Addr)(H H':Hp):Prop:=∀ b o,b ∉ ex->H b=some o->H' b=some o
theorem zO.Aq {ex:List Addr}{H H':Hp}(s:zO H H'):zW ex H H':=fun b o _ e=>s b o e
theorem zW.trans {ex:List Addr}{H H1 H2:Hp}(a:zW ex H H1)(b:zW ex H1 H2):zW ex H H2:=fun x o n e=>b x o n (a x o n e)
theorem Ak.Aq {ex:List Addr}{H H':Hp}(hx:∀ b ∈ ex,∃ xs,H b=some (.lst xs))(o:zW ex H H'){vs:List V}{ps:List (Int × Int)}(h:Ak H vs ps):Ak H' vs ps :=
 Ak.imp (fun _ _ zS=>by obtain⟨t,e,q⟩:=zS;exact⟨t,e,o _ _ (fun z=>by obtain⟨xs,hz⟩:=hx _ z;rw[q]at hz;cases hz) q⟩) h
theorem zW.GN {ex:List Addr}{H H':Hp}(hx:∀ b ∈ ex,∃ o,H b=some o/\¬ NL o)(o:zW ex H H'):Ap H H':=fun b u e n=>o b u (fun z=>by obtain⟨o',hz,hn⟩:=hx _ z;rw[e]at hz;cases hz;exact hn n) e
theorem zW.Ah {ex:List Addr}{H H':Hp}(hx:∀ b ∈ ex,∃ xs,H b=some (.lst xs))(o:zW ex H H'):Ap H H':=o.GN fun b hb=>let ⟨xs,hz⟩:=hx b hb; ⟨_,hz,id⟩
theorem BZ.Aq {ex:List Addr}{H H':Hp}{C:Addr}{v:V}{s:bS}(hx:∀ b ∈ ex,∃ xs,H b=some (.lst xs))(o:zW ex H H')(h:BZ H C ex v s):BZ H' C ex v s:=by
 obtain⟨x,dx,pa,Am,e,L,n⟩:=h
 have k:=o.Ah hx
 exact⟨x,dx,pa,Am,e,⟨k _ _ L.ins True.intro,o _ _ n L.lst,Ak.Aq hx o L.Bh⟩,n⟩
theorem C6.Aq {ex:List Addr}{H H':Hp}{C:Addr}{v:V}{s:aY}(hx:∀ b ∈ ex,∃ xs,H b=some (.lst xs))(o:zW ex H H')(h:C6 H C ex v s):C6 H' C ex v s:=by
 obtain⟨x,dx,wa,e,h1,h2,n⟩:=h
 exact⟨x,dx,wa,e,o.Ah hx _ _ h1 True.intro,o _ _ n h2,n⟩
theorem Bp.keep {H H':Hp}{v:V}{qs:List (Int × Int)}(k:Ap H H')(h:Bp H v qs):Bp H' v qs:=by
 obtain⟨t,vs,e,h1,h2⟩:=h
 exact⟨t,vs,e,k _ _ h1 True.intro,k.DD h2⟩
theorem Bw.keep {H H':Hp}{v:V}{m:List V}(k:Ap H H')(h:Bw H v m):Bw H' v m:=by
 obtain⟨t,e,h1⟩:=h
 exact⟨t,e,k _ _ h1 True.intro⟩
noncomputable def OX (tb ro la le li dn:Addr):Fs:=[("table", .ref tb),("rooms", .ref ro),("lanes", .ref la),("letters", .ref le),("lies", .ref li),("done", .ref dn)]
structure zX (K:Frag)(ys:Ys)(H:Hp)(y dy tb ro la le li dn:Addr)(s:YS):Prop where
 ins:H y=some (.ins ys.zR dy (OX tb ro la le li dn))
 J7:Ab K H ro s.rooms
 AW:∃ vs,H la=some (.lst vs)/\Paired (BZ H ys.An (la :: le :: li :: dn :: ys.ex)) vs s.lanes
 hle:∃ vs,H le=some (.lst vs)/\Paired (C6 H ys.zQ (la :: le :: li :: dn :: ys.ex)) vs s.U
 Cu:∃ vs,H li=some (.lst vs)/\Paired (Bp H) vs s.lies
 Ci:∃ vs,H dn=some (.lst vs)/\Paired (Bw H) vs s.done
 ne:[la,le,li,dn].Nodup
 hex:∀ b ∈ ys.ex,∃ xs,H b=some (.lst xs)
theorem zX.Bx {K:Frag}{ys:Ys}{H:Hp}{y dy tb ro la le li dn:Addr}{s:YS}(h:zX K ys H y dy tb ro la le li dn s):∀ b ∈ [la,le,li,dn],∃ xs,H b=some (.lst xs):=by
 intro b hb
 obtain⟨v1,h1,_⟩:=h.AW
 obtain⟨v2,h2,_⟩:=h.hle
 obtain⟨v3,h3,_⟩:=h.Cu
 obtain⟨v4,h4,_⟩:=h.Ci
 simp only[mem_cons,not_mem_nil,or_false]at hb
 rcases hb with rfl | rfl | rfl | rfl
 ·exact⟨_,h1⟩
 ·exact⟨_,h2⟩
 ·exact⟨_,h3⟩
 ·exact⟨_,h4⟩
theorem zX.DG {K:Frag}{ys:Ys}{H:Hp}{y dy tb ro la le li dn:Addr}{s:YS}(h:zX K ys H y dy tb ro la le li dn s):∀ b ∈ la :: le :: li :: dn :: ys.ex,∃ xs,H b=some (.lst xs):=by
 intro b hb
 have e:la :: le :: li :: dn :: ys.ex=[la,le,li,dn] ++ ys.ex:=rfl
 rw[e]at hb
 rcases mem_append.mp hb with hb | hb
 ·exact h.Bx b hb
 ·exact h.hex b hb
theorem zX.same {K:Frag}{ys:Ys}{H H':Hp}{y dy tb ro la le li dn:Addr}{s:YS}(h:zX K ys H y dy tb ro la le li dn s)(e:zO H H'):zX K ys H' y dy tb ro la le li dn s:=by
 have hx:=h.DG
 obtain⟨v1,h1,p1⟩:=h.AW
 obtain⟨v2,h2,p2⟩:=h.hle
 obtain⟨v3,h3,p3⟩:=h.Cu
 obtain⟨v4,h4,p4⟩:=h.Ci
 have o:zW (la :: le :: li :: dn :: ys.ex) H H':=zO.Aq e
 exact⟨e _ _ h.ins,b7 e h.J7,⟨v1,e _ _ h1,Paired.mono (fun _ _ z=>z.Aq hx o) p1⟩,⟨v2,e _ _ h2,Paired.mono (fun _ _ z=>z.Aq hx o) p2⟩,⟨v3,e _ _ h3,Paired.mono (fun _ _ z=>z.keep (zO.Ah e)) p3⟩,⟨v4,e _ _ h4,Paired.mono (fun _ _ z=>z.keep (zO.Ah e)) p4⟩,h.ne,fun b hb=>let ⟨xs,hz⟩:=h.hex b hb; ⟨xs,e _ _ hz⟩⟩
structure iD (K:Frag)(ys:Ys):Prop where
 cl:Cr K ys.zR
 n1:Ac K ys.zR "table"
 n2:Ac K ys.zR "rooms"
 n3:Ac K ys.zR "lanes"
 n4:Ac K ys.zR "letters"
 n5:Ac K ys.zR "lies"
 n6:Ac K ys.zR "done"
 ct:Cr K ys.zQ
 t1:Ac K ys.zQ "start"
 t2:Ac K ys.zQ "goal"
 t3:Ac K ys.zQ "length"
 t4:Ac K ys.zQ "word"
 t5:Ac K ys.zQ "gone"
 t6:Ac K ys.zQ "way"
 L:xB K ys.An
noncomputable def su (C:Addr):Sp:=fun vs H Q _=>∃ (x dx:Addr)(a b l u:Int),vs=[.ref x, .int a, .int b, .int l, .int u]/\H x=some (.ins C dx [])/\∀ (wa:Addr)(H':Hp),H wa=none->(∀ z o,z ≠ x->H z=some o->H' z=some o)->H' x=some (.ins C dx (oR ⟨a,b,l,u,0,[]⟩ wa))->H' wa=some (.lst (nV []))->Q .Af H'
theorem LI:ao ["self", "start", "goal", "length", "word"] ["self", "start", "goal", "length", "word"] (ah tw):=L2.Au
theorem yO {ys:Ys}{f:Addr}{fd:FuncData}(F:Al K "__init__" "Letter.__init__" tw f fd)(Y:iD K ys):zP P w K mg base aB 1 f fd ["self", "start", "goal", "length", "word"] (su ys.zQ):=by
 refine F.ok LI (fun _ _ _ _ h=>?_) (fun _ _ _ s H _ Q E hr h=>?_)
 ·obtain⟨x,dx,a,b,l,u,rfl,_⟩:=h
  rfl
 ·obtain⟨x,dx,a,b,l,u,rfl,hx,q⟩:=h
  refine⟨_,af (aU (pv 0) (pv 1) rfl) (af (aU (pv 0) (pv 2) rfl) (af (aU (pv 0) (pv 3) rfl) (af (aU (pv 0) (pv 4) rfl) (af (aU (pv 0) aj rfl) (ai (aU (pv 0) (aV ad) rfl)))))),?_⟩
  refine⟨_,rfl,_,rfl,x,ys.zQ,dx,_,rfl,hx,Y.ct,Y.t1,by show 0 < 1000;decide,?_⟩
  refine⟨_,rfl,_,rfl,x,ys.zQ,dx,_,rfl,ac,Y.ct,Y.t2,by show 1 < 1000;decide,?_⟩
  refine⟨_,rfl,_,rfl,x,ys.zQ,dx,_,rfl,ac,Y.ct,Y.t3,by show 2 < 1000;decide,?_⟩
  refine⟨_,rfl,_,rfl,x,ys.zQ,dx,_,rfl,ac,Y.ct,Y.t4,by show 3 < 1000;decide,?_⟩
  refine⟨_,rfl,x,ys.zQ,dx,_,rfl,ac,Y.ct,Y.t5,by show 4 < 1000;decide,?_⟩
  refine⟨zero_le _,fun wa DY=>?_⟩
  have F3:x ≠ wa:=ag ac DY
  refine⟨_,rfl,x,ys.zQ,dx,_,rfl,by rw[ae F3];exact ac,Y.ct,Y.t6,by show 5 < 1000;decide,?_⟩
  have LJ:H wa=none:=by
   rw[ae (Ne.symm F3),ae (Ne.symm F3),ae (Ne.symm F3),ae (Ne.symm F3),ae (Ne.symm F3)]at DY
   exact DY
  refine q wa _ LJ (fun z o nz e=>?_) ac (by rw[ae (Ne.symm F3)];exact ac)
  have nzw:z ≠ wa:=ag e LJ
  rw[ae nz,ae nzw,ae nz,ae nz,ae nz,ae nz,ae nz]
  exact e
noncomputable def vI:V->Int
 | .int i=>i
 | _=>0
noncomputable def nL (v:V):bS:=⟨vI v,0,none,[]⟩
noncomputable def Y0 (rooms:List V)(n:Nat):YS:=⟨rooms,rooms.map nL,[],List.replicate n [],[]⟩
noncomputable def BG (H0 H:Hp)(C:Addr)(v:V)(s:bS):Prop:=∃ x dx pa,v = .ref x/\Ai H C x dx pa s.r s.b s.h [] []/\s.qs=[]/\H0 x=none/\H0 pa=none
theorem BG.same {H0 H H':Hp}{C:Addr}{v:V}{s:bS}(h:BG H0 H C v s)(e:zO H H'):BG H0 H' C v s:=by
 obtain⟨x,dx,pa,h1,h2,h3⟩:=h
 exact⟨x,dx,pa,h1,h2.same e,h3⟩
noncomputable def AB (y:Addr)(ex:List Addr)(H:Hp)(C:Addr)(v:V)(s:bS):Prop:=∃ x dx pa,v = .ref x/\Ai H C x dx pa s.r s.b s.h [] []/\s.qs=[]/\x ≠ y/\pa ≠ y/\pa ∉ ex
theorem BG.LK {H0 H:Hp}{C y:Addr}{v:V}{s:bS}{u:HO}(h:BG H0 H C v s){ex:List Addr}(hy:H0 y=some u)(hx:∀ b ∈ ex,∃ o,H0 b=some o):AB y ex H C v s:=by
 obtain⟨x,dx,pa,h1,h2,h3,h4,h5⟩:=h
 exact⟨x,dx,pa,h1,h2,h3,(fun z=>by rw[z,hy]at h4;cases h4),(fun z=>by rw[z,hy]at h5;cases h5),fun z=>by obtain⟨o,ho⟩:=hx _ z;rw[h5]at ho;cases ho⟩
theorem AB.same {y:Addr}{ex:List Addr}{H H':Hp}{C:Addr}{v:V}{s:bS}(h:AB y ex H C v s)(e:zO H H'):AB y ex H' C v s:=by
 obtain⟨x,dx,pa,h1,h2,h3⟩:=h
 exact⟨x,dx,pa,h1,h2.same e,h3⟩
theorem AB.upd {y:Addr}{ex:List Addr}{H:Hp}{C:Addr}{v:V}{s:bS}{o:HO}(h:AB y ex H C v s):AB y ex (upd H y o) C v s:=by
 obtain⟨x,dx,pa,h1,h2,h3,h4,h5,h6⟩:=h
 exact⟨x,dx,pa,h1,⟨by rw[ae h4];exact h2.ins,by rw[ae h5];exact h2.lst, .nil⟩,h3,h4,h5,h6⟩
theorem AB.new {y a:Addr}{ex:List Addr}{H:Hp}{C:Addr}{v:V}{s:bS}{o:HO}(h:AB y ex H C v s)(ha:H a=none):AB y (a :: ex) (L2.upd H a o) C v s:=by
 obtain⟨x,dx,pa,h1,h2,h3,h4,h5,h6⟩:=h
 exact⟨x,dx,pa,h1,h2.same ((zO.refl H).new ha),h3,h4,h5,fun z=>(mem_cons.mp z).elim (fun z=>by rw[z]at h2;rw[h2.lst]at ha;cases ha) h6⟩
theorem AB.LL {y:Addr}{ex Jn:List Addr}{H:Hp}{C:Addr}{v:V}{s:bS}(h:AB y ex H C v s)(hs:∀ a ∈ Jn,a ∈ ex):BZ H C Jn v s:=by
 obtain⟨x,dx,pa,h1,h2,h3,h4,h5,h6⟩:=h
 exact⟨x,dx,pa,[],h1,by rw[h3];exact h2,fun z=>h6 (hs _ z)⟩
theorem pe {K:Frag}{ro C:Addr}{Ae:List V}{g:TG}{te:TE}{σ0:St}{H:Hp}{Q:VK}(hn:Ae.length < sizeLine)(ha:Ab K H ro Ae)(hint:∀ v ∈ Ae,∃ r,v = .int r)
  (hs:∀ (r:Int)(H1:Hp)(N:V->Hp->Prop),zO H H1->(∀ x dx pa H2,H1 x=none->H1 pa=none->zO H1 H2->Ai H2 C x dx pa r 0 none [] []->N (.ref x) H2)->g (.int r) σ0 H1 fun σ2 H2=>te σ2 H2 N)
  (hq:∀ D vs H1,zO H H1->H1 D=none->Paired (BG H H1 C) vs (Ae.map nL)->Q (.ref D) (upd H1 D (.lst vs))):du (O5 K ro) g nZ te σ0 Q H:=by
 refine bH Ae.length hn (fun i acc H'=>zO H H'/\Paired (BG H H' C) acc ((Ae.take i).map nL)) ⟨zO.refl _, .nil⟩ (fun i acc H' h=>by have:=Paired.length h.2;rw[this,length_map];exact length_take_le _ _) (fun i acc H' hi h=>?_) (fun acc H' h=>?_)
 ·obtain⟨s,hL⟩:=h
  refine⟨⟨Ae,Ae[i],b7 s ha,by simp[hi]⟩,fun v H2 y=>?_⟩
  obtain⟨e,y⟩:=y
  subst e
  have hv:=y _ (b7 s ha)
  obtain⟨r,rfl⟩:=hint v (mem_of_getElem? hv)
  refine hs r H2 (fun y H4=>zO H H4/\Paired (BG H H4 C) (acc ++ [y]) ((Ae.take (i + 1)).map nL)) s fun x dx pa H3 nx F4 s3 C5=>⟨s.trans s3,?_⟩
  rw[take_succ,hv,Option.toList_some,map_append]
  exact Paired.snoc (b:=nL (.int r)) ⟨x,dx,pa,rfl,C5,rfl,s.free nx,s.free F4⟩ (Paired.mono (fun _ _ z=>z.same s3) hL)
 ·obtain⟨s,hL⟩:=h
  rw[take_length]at hL
  exact⟨⟨Ae,b7 s ha,Nat.le_refl _⟩,fun D hD=>hq D acc H' s hD hL⟩
theorem rA {n:Nat}{g:TG}{te:TE}{σ0:St}{H:Hp}{Q:VK}(hn:n <= 1000)
  (hs:∀ (i:Nat)(H1:Hp)(N:V->Hp->Prop),zO H H1->(∀ t,H1 t=none->N (.ref t) (upd H1 t (.tup [])))->g (.int (0 + i)) σ0 H1 fun σ2 H2=>te σ2 H2 N)
  (hq:∀ D vs H1,zO H H1->H1 D=none->Paired (Bp H1) vs (List.replicate n [])->Q (.ref D) (upd H1 D (.lst vs))):du (vi 0 n) g nZ te σ0 Q H:=by
 refine bH n (by rw[sizeLine_eq];omega) (fun i acc H'=>zO H H'/\Paired (Bp H') acc (List.replicate i [])) ⟨zO.refl _, .nil⟩ (fun i acc H' h=>by have:=Paired.length h.2;rw[this,length_replicate];exact Nat.le_refl _) (fun i acc H' hi h=>?_) (fun acc H' h=>?_)
 ·obtain⟨s,hL⟩:=h
  refine⟨hi,fun v H2 y=>?_⟩
  obtain⟨e1,e2⟩:=y
  subst e1 e2
  refine hs i H2 (fun y H4=>zO H H4/\Paired (Bp H4) (acc ++ [y]) (List.replicate (i + 1) [])) s fun t ht=>⟨s.new ht,?_⟩
  rw[List.replicate_succ']
  exact Paired.snoc ⟨t,[],rfl,ac, .nil⟩ (Paired.mono (fun _ _ z=>z.keep (zO.Ah ((zO.refl H2).new ht))) hL)
 ·obtain⟨s,hL⟩:=h
  exact⟨Nat.le_refl n,fun D hD=>hq D acc H' s hD hL⟩
theorem fF {K:Frag}{H:Hp}{a y C d:Addr}{fs:Fs}{o:HO}{xs:List V}(hy:H y=some (.ins C d fs))(h:Ab K H a xs):Ab K (upd H y o) a xs:=by
 rcases h with h | h
 ·refine .inl ?_
  rcases h with h | ⟨u,h⟩
  ·exact .inl (by rw[ae (aR h hy (by intro z;cases z))];exact h)
  ·exact .inr ⟨u,by rw[ae (aR h hy (by intro z;cases z))];exact h⟩
 ·exact .inr h
theorem vw {K:Frag}{H:Hp}{a y C d:Addr}{fs:Fs}{o:HO}{xs:List V}(hy:H y=some (.ins C d fs))(h:zU K H a xs):zU K (upd H y o) a xs:=by
 rcases h with h | h
 ·refine .inl ?_
  rcases h with h | ⟨u,h⟩
  ·exact .inl (by rw[ae (aR h hy (by intro z;cases z))];exact h)
  ·exact .inr ⟨u,by rw[ae (aR h hy (by intro z;cases z))];exact h⟩
 ·exact .inr h
noncomputable def lO (K:Frag)(c:Cs)(TC:Addr)(J:TJ)(ys:Ys)(nr:Addr):Sp:=fun vs H Q E=>∃ (y dy tb lx Ao lt:Addr)(n:Nat)(Aa:List V)(ps:List (Int × Int))(wy:Wf)(rv:V)(Ae:List V),vs=[.ref y, .ref tb,rv]/\H y=some (.ins ys.zR dy [])/\AS c TC J H tb lx Ao lt n Aa ps wy/\(∀ b ∈ ys.ex,∃ xs,H b=some (.lst xs)) /\
 ((rv = .Af/\Ae=List.replicate ps.length (.int 1))∨(∃ ra,rv = .ref ra/\Sq K H ra Ae/\Ae.length <= 1000/\(∀ v ∈ Ae,rE v)/\(pS ps.length Ae=false->∀ H',zW [y] H H'->E (.ref nr) none H'))) /\
 (pS ps.length Ae=true->∀ (ro la le li dn:Addr)(H':Hp),zW [y] H H'->H la=none->H le=none->H li=none->H dn=none->zX K ys H' y dy tb ro la le li dn (Y0 Ae n)->Q .Af H')
noncomputable def LM (s:Stmt):Scope:=match s with
 | .Assign _ (.ListComp _ _ sc _) _=>sc
 | _=>zQ0
theorem iU {v:V}{a b:Int}(h:jZ v a b=true):∃ r,v = .int r:=by
 cases v<;>first | exact⟨_,rfl⟩ | cases h
theorem Rz:ao ["self", "table", "rooms"] ["self", "table", "rooms"] (ah ij):=L2.Au
theorem LN:Bk ["self", "table", "rooms"] (ah ij) (LM ((aF ij).getD 2 (.Pass ⟨0,0,0,0⟩))) [] []:=L2.Cg
theorem LO:Bk ["self", "table", "rooms"] (ah ij) (LM ((aF ij).getD 4 (.Pass ⟨0,0,0,0⟩))) [] []:=L2.Cg
theorem LP:(["place"]:List Str).Nodup:=by decide +kernel
theorem yE {c:Cs}{ys:Ys}{J:TJ}{TC f OY fr fl nr:Addr}{fd OZ dr dl:FuncData}(F:DW K "__init__" "Yard.__init__" ij f fd)(T:eO mg)(L:kL K c)(Y:iD K ys)(W:Wy K TC OY OZ J)
  (mr:mg "rooms_of" = some (.ref fr)) (kr:keepIn K (.ref fr)=true) (br:Binds K dr ["land", "rooms"] []) (Gr:zP P w K mg base (dS P w) 3 fr dr ["land", "rooms"] (p7 K c nr))
  (ml:mg "Lane" = some (.ref ys.An)) (Ml:Mk K ys.An fl) (bl:Binds K dl ["self", "room"] []) (Gl:zP P w K mg base aB 1 fl dl ["self", "room"] (sw ys.An)) :
  zP P w K mg base (dS P w) 4 f fd ["self", "table", "rooms"] (lO K c TC J ys nr):=by
 refine F.EY Rz (fun _ _ _ _ h=>?_) (fun _ _ _ s H _ Q E hr h=>?_)
 ·obtain⟨y,dy,tb,lx,Ao,lt,n,Aa,ps,wy,rv,Ae,rfl,_⟩:=h
  rfl
 ·obtain⟨y,dy,tb,lx,Ao,lt,n,Aa,ps,wy,rv,Ae,rfl,hy,hT,hex,hrv,q⟩:=h
  have GQ:∀ b ∈ ys.ex,b ∉ [y]:=fun b hb z=>by obtain⟨xs,hz⟩:=hex b hb;rw[mem_singleton.mp z,hy]at hz;cases hz
  have Be:zZ 2 _:=hr.mono (by decide)
  refine⟨_,af (aU (pv 0) (pv 1) rfl)
   (af (aU (pv 0) (ls (au Gr hr rfl mr kr br .nil (BD.passes aN rfl) (aa (al (pv 1) rfl) (aa (pv 2) ad)))) rfl)
   (af (aU (pv 0) (bv (own:=["room"]) (capN:=[]) (cap:=[]) LN rfl (lr (al (pv 0) rfl)) (fun C s' H' fp=>⟨ax (i:=0) LG rfl (Or.inl rfl),ci,cY Ml Gl Be rfl ml bl .nil ap (aa (pv 0) ad)⟩)) rfl)
   (af (aU (pv 0) (aV ad) rfl)
   (af (aU (pv 0) (bv (own:=["place"]) (capN:=[]) (cap:=[]) LO rfl (aL rfl T.range (aa (al (al (pv 1) rfl) rfl) ad)) (fun C s' H' fp=>⟨ax (i:=0) LP rfl (Or.inl rfl),ci,bK ad⟩)) rfl)
   (ai (aU (pv 0) (aV ad) rfl)))))),?_⟩
  have hm40:=hT.AN
  have LQ:=hT.OW
  obtain⟨Ca,fst,BF,As,_⟩:=hT.i
  have kp:∀ {H':Hp},zW [y] H H'->Ap H H':=fun o=>o.GN fun b hb=>by rw[mem_singleton.mp hb];exact⟨_,hy,id⟩
  have R0:tb ≠ y:=aR BF hy (fun z=>by injection z with _ _ z3;rw[z3]at As;cases As)
  refine⟨_,rfl,_,rfl,y,ys.zR,dy,_,rfl,hy,Y.cl,Y.n1,by show 0 < 1000;decide,?_⟩
  have o1:zW [y] H (upd H y (.ins ys.zR dy (aK "table" (.ref tb) []))):=fun b o nb e=>by rw[ae (fun z=>nb (by rw[z];exact mem_singleton.mpr rfl))];exact e
  have g1:(upd H y (.ins ys.zR dy (aK "table" (.ref tb) []))) y=some (.ins ys.zR dy [("table", .ref tb)]):=ac
  have Wt:∀ ra,Sq K H ra Ae->Sq K (upd H y (.ins ys.zR dy (aK "table" (.ref tb) []))) ra Ae:=fun ra h=>h.elim (fun h => .inl (vw hy h)) fun h => .inr (fF hy h)
  show _
  generalize upd H y (.ins ys.zR dy (aK "table" (.ref tb) []))=A1 at o1 g1 Wt ⊢
  have hT1:=hT.keep W (kp o1)
  have J8:∀ {Ha Hb:Hp}{o:HO},zW [y] Ha Hb->zW [y] Ha (upd Hb y o):=fun {Ha Hb o} h b u nb e=>by rw[ae (fun z=>nb (by rw[z];exact mem_singleton.mpr rfl))];exact h b u nb e
  refine⟨fun v A2=>∃ ro,v = .ref ro/\zO A1 A2/\Ab K A2 ro Ae/\pS ps.length Ae=true,?_,?_⟩
  ·refine⟨_,rfl,tb,TC,Ca,fst,_,rfl,o1 _ _ (fun z=>R0 (mem_singleton.mp z)) BF,W.cl,W.nl,As,_,rfl,lx,Ao,lt,(n:Int),Aa,ps,rv,rfl,hT1.l,by omega,?_⟩
   rcases hrv with ⟨rfl,rfl⟩ | ⟨ra,rfl,hR,D5,DF,qE⟩
   ·refine .inl ⟨rfl,fun t A2 s2 ht=>⟨t,rfl,s2,Ab.of ht,?_⟩⟩
    unfold pS
    rw[length_replicate,decide_eq_true rfl,Bool.true_and,all_eq_true]
    intro v hv
    rw[eq_of_mem_replicate hv];rfl
   ·have hR1:Sq K A1 ra Ae:=Wt ra hR
    exact .inr ⟨ra,Ae,rfl,hR1,D5,DF,fun zV A2 s2=>qE zV A2 (o1.trans (zO.Aq s2)),fun zV t A2 s2 ht=>⟨t,rfl,s2,ht,zV⟩⟩
  rintro v A2 ⟨ro,rfl,s2,J7,zV⟩
  have Bo:Ae.length=ps.length/\∀ v ∈ Ae,∃ r,v = .int r:=by
   unfold pS at zV
   rw[Bool.and_eq_true,decide_eq_true_eq,all_eq_true]at zV
   exact⟨zV.1,fun v hv=>iU (zV.2 v hv)⟩
  have o2:zW [y] H A2:=o1.trans (zO.Aq s2)
  have g2:=s2 _ _ g1
  refine⟨_,rfl,y,ys.zR,dy,_,rfl,g2,Y.cl,Y.n2,by show 1 < 1000;decide,?_⟩
  have o3:=J8 (o := .ins ys.zR dy (aK "rooms" (.ref ro) [("table", .ref tb)])) o2
  have g3:(upd A2 y (.ins ys.zR dy (aK "rooms" (.ref ro) [("table", .ref tb)]))) y=some (.ins ys.zR dy [("table", .ref tb),("rooms", .ref ro)]):=ac
  have F5:Ab K (upd A2 y (.ins ys.zR dy (aK "rooms" (.ref ro) [("table", .ref tb)]))) ro Ae:=fF g2 J7
  show _
  generalize upd A2 y (.ins ys.zR dy (aK "rooms" (.ref ro) [("table", .ref tb)]))=A3 at o3 g3 F5 ⊢
  have R1:∀ b ∈ ys.ex,∃ o,A3 b=some o:=fun b hb=>let ⟨xs,hz⟩:=hex b hb; ⟨_,o3 b _ (GQ b hb) hz⟩
  refine⟨_,rfl,y,ys.zR,dy,_,_,rfl,g3,Y.cl,Y.n2,rfl,ro,rfl,⟨_,F5⟩,?_⟩
  refine pe (C:=ys.An) (by rw[sizeLine_eq];omega) F5 Bo.2 (fun r B N sB hN=>?_) (fun la Ad A4 s4 AW F6=>?_)
  ·refine⟨_,rfl,fun x dx nx LR GQ=>⟨x,dx,r,rfl,ac,fun pa B2 DX off hL=>⟨rfl,?_⟩⟩⟩
   have Df:B pa=none:=by
    by_cases e1:pa=x
    ·rw[e1,ac]at DX;cases DX
    ·by_cases e2:pa=dx
     ·rw[e2,ae GQ,ac]at DX;cases DX
     ·rw[ae e1,ae e2]at DX;exact DX
   refine hN x dx pa B2 nx Df (fun b o e=>off b o (ag e nx) ?_) hL
   rw[ae (ag e nx),ae (ag e LR)]
   exact e
  have o4:zW [y] H A4:=o3.trans (zO.Aq s4)
  have g4:=s4 _ _ g3
  have GS:la ≠ y:=Ne.symm (ag g4 AW)
  have la0:H la=none:=by
   cases e:H la with
   | none=>rfl
   | some u=>rw[o4 _ _ (fun z=>GS (mem_singleton.mp z)) e]at AW;cases AW
  have Wu:Paired (AB y (la :: ys.ex) (upd A4 la (.lst Ad)) ys.An) Ad (Ae.map nL):=Paired.mono (fun _ _ z=>(z.LK g3 R1).new AW) F6
  have o5:zW [y] H (upd A4 la (.lst Ad)):=o4.trans (zO.Aq ((zO.refl A4).new AW))
  have g5:(upd A4 la (.lst Ad)) y=some (.ins ys.zR dy [("table", .ref tb),("rooms", .ref ro)]):=by rw[ae (Ne.symm GS)];exact g4
  have LS:(upd A4 la (.lst Ad)) la=some (.lst Ad):=ac
  have LU:Ab K (upd A4 la (.lst Ad)) ro Ae:=b7 ((zO.refl A4).new AW) (b7 s4 F5)
  refine⟨_,rfl,y,ys.zR,dy,_,rfl,g5,Y.cl,Y.n3,by show 2 < 1000;decide,?_⟩
  generalize upd A4 la (.lst Ad)=A5 at Wu o5 g5 LS LU ⊢
  have Wv:Paired (AB y (la :: ys.ex) (upd A5 y (.ins ys.zR dy (aK "lanes" (.ref la) [("table", .ref tb),("rooms", .ref ro)]))) ys.An) Ad (Ae.map nL):=Paired.mono (fun _ _ z=>z.upd) Wu
  have o6:=J8 (o := .ins ys.zR dy (aK "lanes" (.ref la) [("table", .ref tb),("rooms", .ref ro)])) o5
  have g6:(upd A5 y (.ins ys.zR dy (aK "lanes" (.ref la) [("table", .ref tb),("rooms", .ref ro)]))) y=some (.ins ys.zR dy [("table", .ref tb),("rooms", .ref ro),("lanes", .ref la)]):=ac
  have Iv:(upd A5 y (.ins ys.zR dy (aK "lanes" (.ref la) [("table", .ref tb),("rooms", .ref ro)]))) la=some (.lst Ad):=by rw[ae GS];exact LS
  have LV:=fF (o := .ins ys.zR dy (aK "lanes" (.ref la) [("table", .ref tb),("rooms", .ref ro)])) g5 LU
  generalize upd A5 y (.ins ys.zR dy (aK "lanes" (.ref la) [("table", .ref tb),("rooms", .ref ro)]))=A6 at Wv o6 g6 Iv LV ⊢
  refine⟨zero_le _,fun le hle=>?_⟩
  have Iw:le ≠ y:=Ne.symm (ag g6 hle)
  have GU:la ≠ le:=ag Iv hle
  have le0:H le=none:=by
   cases e:H le with
   | none=>rfl
   | some u=>rw[o6 _ _ (fun z=>Iw (mem_singleton.mp z)) e]at hle;cases hle
  have Ww:Paired (AB y (le :: la :: ys.ex) (upd A6 le (.lst [])) ys.An) Ad (Ae.map nL):=Paired.mono (fun _ _ z=>z.new hle) Wv
  have o7:zW [y] H (upd A6 le (.lst [])):=o6.trans (zO.Aq ((zO.refl A6).new hle))
  have g7:(upd A6 le (.lst [])) y=some (.ins ys.zR dy [("table", .ref tb),("rooms", .ref ro),("lanes", .ref la)]):=by rw[ae (Ne.symm Iw)];exact g6
  have LW:(upd A6 le (.lst [])) la=some (.lst Ad):=by rw[ae GU];exact Iv
  have LX:(upd A6 le (.lst [])) le=some (.lst []):=ac
  have LY:Ab K (upd A6 le (.lst [])) ro Ae:=b7 ((zO.refl A6).new hle) LV
  refine⟨_,rfl,y,ys.zR,dy,_,rfl,g7,Y.cl,Y.n4,by show 3 < 1000;decide,?_⟩
  generalize upd A6 le (.lst [])=A7 at Ww o7 g7 LW LX LY ⊢
  have Wx:Paired (AB y (le :: la :: ys.ex) (upd A7 y (.ins ys.zR dy (aK "letters" (.ref le) [("table", .ref tb),("rooms", .ref ro),("lanes", .ref la)]))) ys.An) Ad (Ae.map nL):=Paired.mono (fun _ _ z=>z.upd) Ww
  have o8:=J8 (o := .ins ys.zR dy (aK "letters" (.ref le) [("table", .ref tb),("rooms", .ref ro),("lanes", .ref la)])) o7
  have g8:(upd A7 y (.ins ys.zR dy (aK "letters" (.ref le) [("table", .ref tb),("rooms", .ref ro),("lanes", .ref la)]))) y=some (.ins ys.zR dy [("table", .ref tb),("rooms", .ref ro),("lanes", .ref la),("letters", .ref le)]):=ac
  have Iy:(upd A7 y (.ins ys.zR dy (aK "letters" (.ref le) [("table", .ref tb),("rooms", .ref ro),("lanes", .ref la)]))) la=some (.lst Ad):=by rw[ae GS];exact LW
  have Iz:(upd A7 y (.ins ys.zR dy (aK "letters" (.ref le) [("table", .ref tb),("rooms", .ref ro),("lanes", .ref la)]))) le=some (.lst []):=by rw[ae Iw];exact LX
  have LZ:=fF (o := .ins ys.zR dy (aK "letters" (.ref le) [("table", .ref tb),("rooms", .ref ro),("lanes", .ref la)])) g7 LY
  generalize upd A7 y (.ins ys.zR dy (aK "letters" (.ref le) [("table", .ref tb),("rooms", .ref ro),("lanes", .ref la)]))=A8 at Wx o8 g8 Iy Iz LZ ⊢
  have hT8:=hT.keep W (kp o8)
  refine⟨_,rfl,tb,TC,Ca,fst,_,rfl,o8 _ _ (fun z=>R0 (mem_singleton.mp z)) BF,W.cl,W.nl,As,lx,c.land,Ao,_,_,rfl,hT8.l.1,L.cl,L.np,rfl,(n:Int),rfl,by omega,by omega,?_⟩
  rw[toNat_natCast]
  refine rA (by omega) (fun i B N sB hN=>⟨zero_le _,fun t ht=>hN t ht⟩) (fun li EB A9 s9 Cu hLi=>?_)
  have g9:=s9 _ _ g8
  have o9:zW [y] H A9:=o8.trans (zO.Aq s9)
  have Mb:li ≠ y:=Ne.symm (ag g9 Cu)
  have Mc:la ≠ li:=ag (s9 _ _ Iy) Cu
  have Md:le ≠ li:=ag (s9 _ _ Iz) Cu
  have li0:H li=none:=by
   cases e:H li with
   | none=>rfl
   | some u=>rw[o9 _ _ (fun z=>Mb (mem_singleton.mp z)) e]at Cu;cases Cu
  have J9:=(zO.refl A9).new (o := .lst EB) Cu
  have Mf:Paired (AB y (li :: le :: la :: ys.ex) (upd A9 li (.lst EB)) ys.An) Ad (Ae.map nL):=Paired.mono (fun _ _ z=>(z.same s9).new Cu) Wx
  have GV:Paired (Bp (upd A9 li (.lst EB))) EB (List.replicate n []):=Paired.mono (fun _ _ z=>z.keep (zO.Ah J9)) hLi
  have GX:(upd A9 li (.lst EB)) li=some (.lst EB):=ac
  have Wz:zW [y] H (upd A9 li (.lst EB)):=o9.trans (zO.Aq J9)
  have Pa:=J9 _ _ g9
  have GZ:=J9 _ _ (s9 _ _ Iy)
  have Hj:=J9 _ _ (s9 _ _ Iz)
  have Hk:=b7 J9 (b7 s9 LZ)
  refine⟨_,rfl,y,ys.zR,dy,_,rfl,Pa,Y.cl,Y.n5,by show 4 < 1000;decide,?_⟩
  generalize upd A9 li (.lst EB)=I0 at Mf GV GX Wz Pa GZ Hj Hk ⊢
  have Mg:∀ {B:Hp}{o:HO}{C d:Addr}{fs:Fs}{v:V}{qs:List (Int × Int)},B y=some (.ins C d fs)->Bp B v qs->Bp (upd B y o) v qs:=fun {B o C d fs v qs} hB h=>by
   obtain⟨t,ws,e,h1,h2⟩:=h
   exact⟨t,ws,e,by rw[ae (aR h1 hB (by intro z;cases z))];exact h1,Ak.imp (fun _ _ zS=>by obtain⟨t',e',q'⟩:=zS;exact⟨t',e',by rw[ae (aR q' hB (by intro z;cases z))];exact q'⟩) h2⟩
  have Mj:Paired (AB y (li :: le :: la :: ys.ex) (upd I0 y (.ins ys.zR dy (aK "lies" (.ref li) [("table", .ref tb),("rooms", .ref ro),("lanes", .ref la),("letters", .ref le)]))) ys.An) Ad (Ae.map nL):=Paired.mono (fun _ _ z=>z.upd) Mf
  have Hl:Paired (Bp (upd I0 y (.ins ys.zR dy (aK "lies" (.ref li) [("table", .ref tb),("rooms", .ref ro),("lanes", .ref la),("letters", .ref le)])))) EB (List.replicate n []):=Paired.mono (fun _ _ z=>Mg Pa z) GV
  have Pb:=J8 (o := .ins ys.zR dy (aK "lies" (.ref li) [("table", .ref tb),("rooms", .ref ro),("lanes", .ref la),("letters", .ref le)])) Wz
  have R3:(upd I0 y (.ins ys.zR dy (aK "lies" (.ref li) [("table", .ref tb),("rooms", .ref ro),("lanes", .ref la),("letters", .ref le)]))) y=some (.ins ys.zR dy [("table", .ref tb),("rooms", .ref ro),("lanes", .ref la),("letters", .ref le),("lies", .ref li)]):=ac
  have EC:(upd I0 y (.ins ys.zR dy (aK "lies" (.ref li) [("table", .ref tb),("rooms", .ref ro),("lanes", .ref la),("letters", .ref le)]))) la=some (.lst Ad):=by rw[ae GS];exact GZ
  have ED:(upd I0 y (.ins ys.zR dy (aK "lies" (.ref li) [("table", .ref tb),("rooms", .ref ro),("lanes", .ref la),("letters", .ref le)]))) le=some (.lst []):=by rw[ae Iw];exact Hj
  have EE:(upd I0 y (.ins ys.zR dy (aK "lies" (.ref li) [("table", .ref tb),("rooms", .ref ro),("lanes", .ref la),("letters", .ref le)]))) li=some (.lst EB):=by rw[ae Mb];exact GX
  have Hm:=fF (o := .ins ys.zR dy (aK "lies" (.ref li) [("table", .ref tb),("rooms", .ref ro),("lanes", .ref la),("letters", .ref le)])) Pa Hk
  generalize upd I0 y (.ins ys.zR dy (aK "lies" (.ref li) [("table", .ref tb),("rooms", .ref ro),("lanes", .ref la),("letters", .ref le)]))=A11 at Mj Hl Pb R3 EC ED EE Hm ⊢
  refine⟨zero_le _,fun dn Ci=>?_⟩
  have Pe:dn ≠ y:=Ne.symm (ag R3 Ci)
  have Mo:la ≠ dn:=ag EC Ci
  have Mp:le ≠ dn:=ag ED Ci
  have Mq:li ≠ dn:=ag EE Ci
  have dn0:H dn=none:=by
   cases e:H dn with
   | none=>rfl
   | some u=>rw[Pb _ _ (fun z=>Pe (mem_singleton.mp z)) e]at Ci;cases Ci
  have Hn:=(zO.refl A11).new (o := .lst []) Ci
  have R4:=Hn _ _ R3
  refine⟨_,rfl,y,ys.zR,dy,_,rfl,R4,Y.cl,Y.n6,by show 5 < 1000;decide,?_⟩
  refine q zV ro la le li dn _ (J8 (Pb.trans (zO.Aq Hn))) la0 le0 li0 dn0 ⟨ac,fF R4 (b7 Hn Hm),⟨Ad,by rw[ae GS];exact Hn _ _ EC,?_⟩,⟨[],by rw[ae Iw];exact Hn _ _ ED, .nil⟩,⟨EB,by rw[ae Mb];exact Hn _ _ EE,Paired.mono (fun _ _ z=>Mg R4 (z.keep (zO.Ah Hn))) Hl⟩,⟨[],by rw[ae Pe];exact ac, .nil⟩,?_,(fun b hb=>let ⟨xs,hz⟩:=hex b hb; ⟨xs,(J8 (Pb.trans (zO.Aq Hn))) b _ (GQ b hb) hz⟩)⟩
  ·refine Paired.mono (fun _ _ z=>((z.new Ci).upd).LL fun a ha=>?_) Mj
   simp only[mem_cons]at ha ⊢
   rcases ha with rfl | rfl | rfl | rfl | h
   ·exact .inr (.inr (.inr (.inl rfl)))
   ·exact .inr (.inr (.inl rfl))
   ·exact .inr (.inl rfl)
   ·exact .inl rfl
   ·exact .inr (.inr (.inr (.inr h)))
  ·simp only[nodup_cons,mem_cons,not_mem_nil,or_false,not_or,not_false_eq_true,and_true,nodup_nil]
   exact⟨⟨GU,Mc,Mo⟩,⟨Md,Mp⟩,Mq⟩
theorem zX.off {K:Frag}{ys:Ys}{H H':Hp}{y dy tb ro la le li dn:Addr}{s:YS}(h:zX K ys H y dy tb ro la le li dn s)(o:zW (la :: le :: li :: dn :: ys.ex) H H'):H' y=some (.ins ys.zR dy (OX tb ro la le li dn))/\Ab K H' ro s.rooms/\(∀ vs ss,Paired (BZ H ys.An (la :: le :: li :: dn :: ys.ex)) vs ss->Paired (BZ H' ys.An (la :: le :: li :: dn :: ys.ex)) vs ss)/\(∀ vs ss,Paired (C6 H ys.zQ (la :: le :: li :: dn :: ys.ex)) vs ss->Paired (C6 H' ys.zQ (la :: le :: li :: dn :: ys.ex)) vs ss)/\(∀ vs ss,Paired (Bp H) vs ss->Paired (Bp H') vs ss)/\∀ vs ss,Paired (Bw H) vs ss->Paired (Bw H') vs ss:=by
 have hx:=h.DG
 have k:=o.Ah hx
 refine⟨k _ _ h.ins True.intro,?_,fun vs ss=>Paired.mono fun _ _ z=>z.Aq hx o,fun vs ss=>Paired.mono fun _ _ z=>z.Aq hx o,fun vs ss=>Paired.mono fun _ _ z=>z.keep k,fun vs ss=>Paired.mono fun _ _ z=>z.keep k⟩
 rcases h.J7 with r | r
 ·refine .inl ?_
  rcases r with r | ⟨u,r⟩
  ·exact .inl (k _ _ r True.intro)
  ·exact .inr ⟨u,k _ _ r True.intro⟩
 ·exact .inr r
theorem cn {ex:List Addr}{a:Addr}{H:Hp}{o:HO}(ha:a ∈ ex):zW ex H (upd H a o):=fun b u nb e=>by rw[ae (fun z=>nb (by rw[z];exact ha))];exact e
theorem qh {H:Hp}{x b:Addr}{zs:List V}(h:∃ xs,H b=some (.lst xs)):∃ xs,(upd H x (.lst zs)) b=some (.lst xs):=by
 by_cases e:b=x
 ·exact⟨zs,by rw[e,ac]⟩
 ·obtain⟨xs,hz⟩:=h
  exact⟨xs,by rw[ae e];exact hz⟩
theorem zX.Mr {K:Frag}{ys:Ys}{H:Hp}{y dy tb ro la le li dn:Addr}{s:YS}(h:zX K ys H y dy tb ro la le li dn s){vs:List V}{v:V}{t:aY}(hv:H le=some (.lst vs))(hL:C6 H ys.zQ (la :: le :: li :: dn :: ys.ex) v t):zX K ys (upd H le (.lst (vs ++ [v]))) y dy tb ro la le li dn { s with U:=s.U ++ [t] }:=by
 obtain⟨h1,h2,f1,f2,f3,f4⟩:=h.off (cn (a:=le) (o := .lst (vs ++ [v])) (by simp))
 obtain⟨v1,a1,p1⟩:=h.AW
 obtain⟨v2,a2,p2⟩:=h.hle
 obtain⟨v3,a3,p3⟩:=h.Cu
 obtain⟨v4,a4,p4⟩:=h.Ci
 rw[hv]at a2
 cases a2
 have ne:=h.ne
 simp only[nodup_cons,mem_cons,not_mem_nil,or_false,not_or,not_false_eq_true,and_true,nodup_nil]at ne
 have R5:Paired (C6 (upd H le (.lst (vs ++ [v]))) ys.zQ (la :: le :: li :: dn :: ys.ex)) [v] [t]:=f2 [v] [t] (.cons hL .nil)
 exact⟨h1,h2,⟨v1,by rw[ae ne.1.1];exact a1,f1 _ _ p1⟩,⟨vs ++ [v],ac,Paired.snoc (by cases R5 with | cons z _=>exact z) (f2 _ _ p2)⟩,⟨v3,by rw[ae (Ne.symm ne.2.1.1)];exact a3,f3 _ _ p3⟩,⟨v4,by rw[ae (Ne.symm ne.2.1.2)];exact a4,f4 _ _ p4⟩,h.ne,fun b hb=>qh (h.hex b hb)⟩
theorem zX.Ho {K:Frag}{ys:Ys}{H:Hp}{y dy tb ro la le li dn:Addr}{s:YS}(h:zX K ys H y dy tb ro la le li dn s){vs:List V}{v:V}{t:List V}(hv:H dn=some (.lst vs))(hL:Bw H v t):zX K ys (upd H dn (.lst (vs ++ [v]))) y dy tb ro la le li dn { s with done:=s.done ++ [t] }:=by
 obtain⟨h1,h2,f1,f2,f3,f4⟩:=h.off (cn (a:=dn) (o := .lst (vs ++ [v])) (by simp))
 obtain⟨v1,a1,p1⟩:=h.AW
 obtain⟨v2,a2,p2⟩:=h.hle
 obtain⟨v3,a3,p3⟩:=h.Cu
 obtain⟨v4,a4,p4⟩:=h.Ci
 rw[hv]at a4
 cases a4
 have ne:=h.ne
 simp only[nodup_cons,mem_cons,not_mem_nil,or_false,not_or,not_false_eq_true,and_true,nodup_nil]at ne
 have R5:Paired (Bw (upd H dn (.lst (vs ++ [v])))) [v] [t]:=f4 [v] [t] (.cons hL .nil)
 exact⟨h1,h2,⟨v1,by rw[ae ne.1.2.2];exact a1,f1 _ _ p1⟩,⟨v2,by rw[ae ne.2.1.2];exact a2,f2 _ _ p2⟩,⟨v3,by rw[ae ne.2.2];exact a3,f3 _ _ p3⟩,⟨vs ++ [v],ac,Paired.snoc (by cases R5 with | cons z _=>exact z) (f4 _ _ p4)⟩,h.ne,fun b hb=>qh (h.hex b hb)⟩
inductive Pd
 | place | length | word | way | full | good
noncomputable def lu (n:Nat)(wy:Wf)(m:Nat)(sv gv lv wv:V):Pd :=
 if (jZ sv 0 ((n:Int) - 1) && jZ gv 0 ((n:Int) - 1))=false then .place else if jZ lv 1 60=false then .length else if J6 wv=false then .word
 else if vI sv=vI gv∨wy (vI sv).toNat (vI gv).toNat none=[] then .way else if 60 <= m then .full else .good
structure Xs where
 place:Addr
 length:Addr
 word:Addr
 way:Addr
 full:Addr
noncomputable def dN (s:YS)(a b l u:Int):YS:={ s with U:=s.U ++ [⟨a,b,l,u,0,[]⟩],done:=s.done ++ [[.str "post", .int a, .int b, .int l, .int u]] }
noncomputable def oj (K:Frag)(c:Cs)(TC:Addr)(J:TJ)(ys:Ys)(x:Xs):Sp:=fun vs H Q E=>∃ (y dy tb ro la le li dn lx Ao lt:Addr)(n:Nat)(Aa:List V)(ps:List (Int × Int))(wy:Wf)(s:YS)(sv gv lv wv:V),vs=[.ref y,sv,gv,lv,wv]/\zX K ys H y dy tb ro la le li dn s/\AS c TC J H tb lx Ao lt n Aa ps wy/\rE sv/\rE gv/\rE lv/\rE wv/\s.U.length <= 900/\s.done.length <= 10000 /\
 (lu n wy s.U.length sv gv lv wv = .place->∀ H',zO H H'->E (.ref x.place) none H') /\
 (lu n wy s.U.length sv gv lv wv = .length->∀ H',zO H H'->E (.ref x.length) none H') /\
 (lu n wy s.U.length sv gv lv wv = .word->∀ H',zO H H'->E (.ref x.word) none H') /\
 (lu n wy s.U.length sv gv lv wv = .way->∀ H' d,zO H H'->H' d=some (.xd [("start",sv),("goal",gv)])->E (.ref x.way) (some d) H') /\
 (lu n wy s.U.length sv gv lv wv = .full->∀ H',zO H H'->E (.ref x.full) none H') /\
 (lu n wy s.U.length sv gv lv wv = .good->∀ H',zW [le,dn] H H'->zX K ys H' y dy tb ro la le li dn (dN s (vI sv) (vI gv) (vI lv) (vI wv))->Q (.int s.U.length) H')
structure W0 (K:Frag)(mg:Str->Option Value)(C f:Addr)(d:FuncData):Prop where
 m:mg "NoWay" = some (.ref C)
 x:bq K C (some (.ref f))=true
 k:keepIn K (.ref C)=true
 c:gi K C
 n1:findIn K (.ref C) "start" = some none
 n2:findIn K (.ref C) "goal" = some none
 i:isFn K (.ref f)=true
 F:Al K "__init__" "NoWay.__init__" v9 f d
 b:Binds K d ["self", "start", "goal"] []
noncomputable abbrev NPo:List Str:=["self", "start", "goal", "length", "word", "last_place"]
abbrev Ms:List Str:=["self", "start", "goal", "length", "word"]
theorem Mu:ao NPo Ms (ah gF):=L2.Au
theorem wc {c:Cs}{ys:Ys}{x:Xs}{J:TJ}{TC f OY fw R6 fl W2:Addr}{fd OZ dw W3 dl W4:FuncData}{t1 t2:Tok}(F:DW K "post" "Yard.post" gF f fd)(T:eO mg)(L:kL K c)(Y:iD K ys)(W:Wy K TC OY OZ J)(IA:zP P w K mg base aB 3 OY OZ ["self", "place", "goal", "came"] (dY J))
  (mw:mg "is_within" = some (.ref fw)) (kw:keepIn K (.ref fw)=true) (bw:Binds K dw ["value", "least", "most"] []) (Gw:zP P w K mg base aB 2 fw dw ["value", "least", "most"] fG)
  (mwo:mg "is_word" = some (.ref R6)) (kwo:keepIn K (.ref R6)=true) (bwo:Binds K W3 ["word"] []) (R7:zP P w K mg base aB 2 R6 W3 ["word"] rV)
  (ml:mg "Letter" = some (.ref ys.zQ)) (Ml:Mk K ys.zQ fl) (bl:Binds K dl ["self", "start", "goal", "length", "word"] []) (Gl:zP P w K mg base aB 1 fl dl ["self", "start", "goal", "length", "word"] (su ys.zQ))
  (mL:mg "MOST_LENGTH" = some (.int 60 t1)) (mM:mg "MOST_LETTERS" = some (.int 60 t2)) (X1:vk K mg "NoPlace" x.place) (X2:vk K mg "NoLength" x.length) (X3:vk K mg "NoWord" x.word) (X4:W0 K mg x.way W2 W4) (X5:vk K mg "Full" x.full) :
  zP P w K mg base (dS P w) 4 f fd Ms (oj K c TC J ys x):=by
 have Gnw:zP P w K mg base aB 1 W2 W4 ["self", "start", "goal"] (xo K "start" "goal"):=LH X4.F
 refine F.EY Mu (fun _ _ _ _ h=>?_) (fun _ _ _ s H _ Q E hr h=>?_)
 ·obtain⟨y,dy,tb,ro,la,le,li,dn,lx,Ao,lt,n,Aa,ps,wy,s,sv,gv,lv,wv,rfl,_⟩:=h
  rfl
 ·obtain⟨y,dy,tb,ro,la,le,li,dn,lx,Ao,lt,n,Aa,ps,wy,st,sv,gv,lv,wv,rfl,hY,hT,cs,cg,cl,cw,hl9,hd9,e1,e2,e3,e4,e5,q⟩:=h
  have Be:zZ 2 _:=hr.mono (by decide)
  refine⟨_,af (aC (i:=5) Mu.nd rfl (Or.inl rfl) (az dB (al (al (al (pv 0) rfl) rfl) rfl) aj))
   (af (aQ (PW.pt (gL (ca (bJ (au Gw Be rfl mw kw bw .nil ap (aa (pv 1) (aa aj (aa (pv 5) ad)))))) (dZ (ca (bJ (au Gw Be rfl mw kw bw .nil ap (aa (pv 2) (aa aj (aa (pv 5) ad)))))))))
    (ai (b9 rfl X1.x aN (bZ X1.x X1.k rfl rfl X1.m (aa b0 ad)))) aH)
   (af (aQ (ca (bJ (au Gw Be rfl mw kw bw .nil ap (aa (pv 3) (aa aj (aa (eA (v := .int 60) rfl mL ⟨_,rfl⟩) ad))))))
    (ai (b9 rfl X2.x aN (bZ X2.x X2.k rfl rfl X2.m (aa b0 ad)))) aH)
   (af (aQ (ca (bJ (au R7 Be rfl mwo kwo bwo .nil ap (aa (pv 4) ad))))
    (ai (b9 rfl X3.x aN (bZ X3.x X3.k rfl rfl X3.m (aa b0 ad)))) aH)
   (af (aQ (iR (PW.pt (gL (aw bB (pv 1) (pv 2) (aA _)) (dZ (ca (gN (aD (al (pv 0) rfl) W.cl W.m IA hr W.b .nil ap (aa (pv 1) (aa (pv 2) (aa cu ad)))) (fun _=>rfl)))))))
    (ai (b9 rfl X4.x aN (iP X4.x X4.i X4.k Gnw Be X4.b rfl X4.m (aa (pv 1) (aa (pv 2) ad))))) aH)
   (af (aQ (aw x5 (av aq rfl T.len PySem.boot_len (aa (al (pv 0) rfl) ad)) (eA (v := .int 60) rfl mM ⟨_,rfl⟩) (aA _))
    (ai (b9 rfl X5.x aN (bZ X5.x X5.k rfl rfl X5.m (aa b0 ad)))) aH)
   (af (aM (cp plainAttrs_list PySem.F.slot_list_append PySem.F.type_list_append bE (al (pv 0) rfl) (aa (cY Ml Gl Be rfl ml bl .nil ap (aa (pv 1) (aa (pv 2) (aa (pv 3) (aa (pv 4) ad))))) ad)))
   (af (aM (cp plainAttrs_list PySem.F.slot_list_append PySem.F.type_list_append bE (al (pv 0) rfl) (aa (bK (aa b0 (aa (pv 1) (aa (pv 2) (aa (pv 3) (aa (pv 4) ad)))))) ad)))
   (ai (ar (az dB (av aq rfl T.len PySem.boot_len (aa (al (pv 0) rfl) ad)) aj)))))))))),?_⟩
  obtain⟨Ca,fst,BF,As,Bi⟩:=hT.i
  unfold lu at e1 e2 e3 e4 e5 q
  refine⟨_,rfl,y,ys.zR,dy,_,_,rfl,hY.ins,Y.cl,Y.n1,rfl,tb,TC,Ca,fst,_,rfl,BF,W.cl,W.nl,As,lx,c.land,Ao,_,_,rfl,hT.l.1,L.cl,L.np,rfl,_,_,rfl,rfl,?_⟩
  refine⟨_,rfl,_,rfl,sv,0,(n:Int) - 1,rfl,cs,_,rfl,?_⟩
  cases h1:jZ sv 0 ((n:Int) - 1) with
  | false =>
   refine aJ (aJ ⟨by show 1 <= sizeLine;decide,?_⟩)
   exact e1 (by rw[h1,Bool.false_and,if_pos rfl]) H (zO.refl H)
  | true =>
  refine aI ⟨_,rfl,_,rfl,gv,0,(n:Int) - 1,rfl,cg,_,rfl,?_⟩
  cases h2:jZ gv 0 ((n:Int) - 1) with
  | false =>
   refine aJ ⟨by show 1 <= sizeLine;decide,?_⟩
   exact e1 (by rw[h1,h2,Bool.and_false,if_pos rfl]) H (zO.refl H)
  | true =>
  rw[h1,h2,Bool.true_and,if_neg (by decide)]at e2 e3 e4 e5 q
  refine aI ⟨_,rfl,lv,1,60,rfl,cl,_,rfl,?_⟩
  cases h3:jZ lv 1 60 with
  | false =>
   refine aJ ⟨by show 1 <= sizeLine;decide,?_⟩
   exact e2 (by rw[h3,if_pos rfl]) H (zO.refl H)
  | true =>
  rw[h3,if_neg (by decide)]at e3 e4 e5 q
  refine aI ⟨_,rfl,wv,rfl,cw,_,rfl,?_⟩
  cases h4:J6 wv with
  | false =>
   refine aJ ⟨by show 1 <= sizeLine;decide,?_⟩
   exact e3 (by rw[h4,if_pos rfl]) H (zO.refl H)
  | true =>
  rw[h4,if_neg (by decide)]at e4 e5 q
  refine aI ?_
  obtain⟨a,rfl⟩:=iU h1
  obtain⟨b,rfl⟩:=iU h2
  obtain⟨l,rfl⟩:=iU h3
  obtain⟨u,rfl⟩:∃ u,wv = .int u:=by
   cases wv<;>first | exact⟨_,rfl⟩ | cases h4
  have ha:0 <= a/\a <= (n:Int) - 1:=of_decide_eq_true h1
  have hb:0 <= b/\b <= (n:Int) - 1:=of_decide_eq_true h2
  obtain⟨a',rfl⟩:∃ a':Nat,a=(a':Int):=⟨a.toNat,by omega⟩
  obtain⟨b',rfl⟩:∃ b':Nat,b=(b':Int):=⟨b.toNat,by omega⟩
  have ev:∀ z:Int,vI (.int z)=z:=fun _=>rfl
  rw[ev,ev,toNat_natCast,toNat_natCast]at e4 e5 q
  refine⟨fun k H1=>zO H H1/\k=decide ((a':Int)=(b':Int)∨wy a' b' none=[]),?_,?_⟩
  ·refine⟨_,rfl,_,rfl,rfl,_,rfl,?_⟩
   rw[bN]
   by_cases Hq:(a':Int)=(b':Int)
   ·rw[decide_eq_true Hq]
    exact aJ ⟨zO.refl H,by rw[decide_eq_true (Or.inl Hq)]⟩
   ·rw[decide_eq_false Hq]
    refine aI ⟨_,rfl,y,ys.zR,dy,_,_,rfl,hY.ins,Y.cl,Y.n1,rfl,tb,Ca,fst,rfl,BF,Bi,_,rfl,_,rfl,tb,n,wy,a',b',none,rfl,hT.j,by omega,by omega,fun D H1 s1 hD gD=>⟨_, .inl ⟨_,zU.of gD,rfl⟩,s1,?_⟩⟩
    cases hw:wy a' b' none with
    | nil=>rw[decide_eq_true (Or.inr rfl)];rfl
    | cons z zs=>rw[decide_eq_false (fun z=>z.elim Hq fun z=>by cases z)];rfl
  rintro k H1 ⟨s1,rfl⟩
  have Bs:=hY.same s1
  by_cases F7:(a':Int)=(b':Int)∨wy a' b' none=[]
  ·rw[decide_eq_true F7]
   refine aJ ⟨_,rfl,_,rfl,by show 2 <= sizeLine;decide,fun e tt he=>⟨e,_,tt,_,_,rfl,ac,X4.c,X4.n1,X4.n2,fun d H2 hd off EZ hd2=>⟨rfl,some d,EZ,?_⟩⟩⟩
   have Fe:d ≠ e:=fun z=>by rw[z,ac]at hd;cases hd
   refine e4 (by rw[if_pos F7]) _ d (fun z o ez=>?_) (by rw[dE Fe];exact hd2)
   have R8:z ≠ e:=ag (s1 _ _ ez) he
   rw[dE R8]
   exact off z o R8 (by rw[ae R8];exact s1 _ _ ez)
  rw[decide_eq_false F7]
  rw[if_neg F7]at e5 q
  refine aI ?_
  obtain⟨DZ,Bn,pl⟩:=Bs.hle
  have El:DZ.length=st.U.length:=Paired.length pl
  refine⟨_,rfl,y,ys.zR,dy,_,_,rfl,Bs.ins,Y.cl,Y.n4,rfl,le,_,rfl, .inl (zU.of Bn),_,_,rfl,rfl,_,rfl,?_⟩
  by_cases Hr:60 <= st.U.length
  ·rw[decide_eq_true (show (60:Int) <= (DZ.length:Nat) by omega)]
   refine aJ ⟨by show 1 <= sizeLine;decide,?_⟩
   exact e5 (by rw[if_pos Hr]) H1 s1
  rw[decide_eq_false (show ¬ (60:Int) <= (DZ.length:Nat) by omega)]
  rw[if_neg Hr]at q
  refine aI ?_
  refine⟨_,rfl,y,ys.zR,dy,_,_,rfl,Bs.ins,Y.cl,Y.n4,rfl, .inl ⟨rfl,_,zU.of Bn⟩,_,rfl,_,rfl,_,rfl,_,rfl,fun xl BL nx LR GQ=>⟨xl,BL,(a':Int),(b':Int),l,u,rfl,ac,fun wa H2 DY off Fc Hs=>⟨rfl,?_⟩⟩⟩
  have JA:zO H1 H2:=fun z o ez=>off z o (ag ez nx) (by rw[ae (ag ez nx),ae (ag ez LR)];exact ez)
  have R9:H1 wa=none:=by
   by_cases z1:wa=xl
   ·rw[z1,ac]at DY;cases DY
   ·by_cases z2:wa=BL
    ·rw[z2,ae GQ,ac]at DY;cases DY
    ·rw[ae z1,ae z2]at DY;exact DY
  have CN:=Bs.same JA
  have Mw:=JA _ _ Bn
  have hlv:C6 H2 ys.zQ (la :: le :: li :: dn :: ys.ex) (.ref xl) ⟨(a':Int),(b':Int),l,u,0,[]⟩:=⟨xl,BL,wa,rfl,Fc,Hs,fun z=>by obtain⟨xs,hz⟩:=Bs.DG wa z;rw[R9]at hz;cases hz⟩
  refine⟨le,_,_,rfl,rfl,Mw,by rw[sizeLine_eq];omega,?_⟩
  have B9:=CN.Mr Mw hlv
  have o3:zW [le,dn] H (upd H2 le (.lst (DZ ++ [.ref xl]))):=(zO.Aq (s1.trans JA)).trans (cn (by simp))
  generalize upd H2 le (.lst (DZ ++ [.ref xl]))=H3 at B9 o3 ⊢
  obtain⟨Aw,JB,pd⟩:=B9.Ci
  have E5:Aw.length=st.done.length:=Paired.length pd
  refine⟨_,rfl,y,ys.zR,dy,_,_,rfl,B9.ins,Y.cl,Y.n6,rfl, .inl ⟨rfl,_,zU.of JB⟩,_,rfl,_,rfl,_,rfl,_,rfl,by show 5 <= sizeLine;decide,fun t ht=>?_⟩
  have Pf:=(zO.refl H3).new (o := .tup [.str "post", .int (a':Int), .int (b':Int), .int l, .int u]) ht
  have W5:(upd H3 t (.tup [.str "post", .int (a':Int), .int (b':Int), .int l, .int u])) t=some (.tup [.str "post", .int (a':Int), .int (b':Int), .int l, .int u]):=ac
  generalize upd H3 t (.tup [.str "post", .int (a':Int), .int (b':Int), .int l, .int u])=H4 at Pf W5 ⊢
  have Ht:=B9.same Pf
  have Mx:=Pf _ _ JB
  refine⟨dn,_,_,rfl,rfl,Mx,by rw[sizeLine_eq];omega,?_⟩
  have Ff:=Ht.Ho Mx ⟨t,rfl,W5⟩
  have o5:zW [le,dn] H (upd H4 dn (.lst (Aw ++ [.ref t]))):=(o3.trans (zO.Aq Pf)).trans (cn (by simp))
  generalize upd H4 dn (.lst (Aw ++ [.ref t]))=H5 at Ff o5 ⊢
  obtain⟨W6,RA,pl5⟩:=Ff.hle
  have hl5:W6.length=st.U.length + 1:=by rw[Paired.length pl5,length_append];rfl
  refine⟨_,rfl,y,ys.zR,dy,_,_,rfl,Ff.ins,Y.cl,Y.n4,rfl,le,_,rfl, .inl (zU.of RA),_,_,rfl,rfl,?_⟩
  have er:((W6.length:Nat):Int) - 1=(st.U.length:Int):=by omega
  dsimp only
  rw[er]
  exact q rfl H5 o5 Ff
noncomputable def kW (K:Frag)(ys:Ys):Sp:=fun vs H Q _=>∃ (y dy tb ro la le li dn:Addr)(s:YS)(k:Nat)(lt:aY),vs=[.ref y, .int k]/\zX K ys H y dy tb ro la le li dn s/\s.U[k]? = some lt/\∀ (t:Addr)(H':Hp),zO H H'->H' t=some (.tup [.int lt.start, .int lt.goal, .int lt.len, .int lt.word])->Q (.ref t) H'
noncomputable def gB (K:Frag)(ys:Ys):Sp:=fun vs H Q _=>∃ (y dy tb ro la le li dn:Addr)(s:YS),vs=[.ref y]/\zX K ys H y dy tb ro la le li dn s/\Q (.int s.U.length) H
theorem Mz:ao ["self", "number", "letter"] ["self", "number"] (ah tu):=L2.Au
theorem ww {ys:Ys}{f:Addr}{fd:FuncData}(F:Al K "letter_told" "Yard.letter_told" tu f fd)(Y:iD K ys):zP P w K mg base aB 1 f fd ["self", "number"] (kW K ys):=by
 refine F.ok Mz (fun _ _ _ _ h=>?_) (fun _ _ _ s H _ Q E hr h=>?_)
 ·obtain⟨y,dy,tb,ro,la,le,li,dn,st,k,ln,rfl,_⟩:=h
  rfl
 ·obtain⟨y,dy,tb,ro,la,le,li,dn,st,k,lt,rfl,hY,hk,q⟩:=h
  refine⟨_,af (aC (i:=2) Mz.nd rfl (Or.inl rfl) (ay aT (al (pv 0) rfl) (pv 1) (fun _ _=>rfl))) (ai (ar (bK (aa (al (pv 2) rfl) (aa (al (pv 2) rfl) (aa (al (pv 2) rfl) (aa (al (pv 2) rfl) ad))))))),?_⟩
  obtain⟨Aa,Bn,pl⟩:=hY.hle
  obtain⟨v,hv,x,dx,wa,rfl,hx,_⟩:=Paired.at2 pl hk
  refine⟨_,rfl,y,ys.zR,dy,_,_,rfl,hY.ins,Y.cl,Y.n4,rfl,_,rfl,le,Aa,(k:Int),_,rfl,rfl,zU.of Bn,ak hv,?_⟩
  refine⟨_,rfl,x,ys.zQ,dx,_,_,rfl,hx,Y.ct,Y.t1,rfl,_,rfl,x,ys.zQ,dx,_,_,rfl,hx,Y.ct,Y.t2,rfl,_,rfl,x,ys.zQ,dx,_,_,rfl,hx,Y.ct,Y.t3,rfl,_,rfl,x,ys.zQ,dx,_,_,rfl,hx,Y.ct,Y.t4,rfl,by show 4 <= sizeLine;decide,fun t ht=>?_⟩
  exact q t _ ((zO.refl H).new ht) ac
theorem RB:ao ["self"] ["self"] (ah ld):=L2.Au
theorem qQ {ys:Ys}{f:Addr}{fd:FuncData}(F:Al K "posted" "Yard.posted" ld f fd)(T:eO mg)(Y:iD K ys):zP P w K mg base aB 1 f fd ["self"] (gB K ys):=by
 refine F.ok RB (fun _ _ _ _ h=>?_) (fun _ _ _ s H _ Q E hr h=>?_)
 ·obtain⟨y,dy,tb,ro,la,le,li,dn,st,rfl,_⟩:=h
  rfl
 ·obtain⟨y,dy,tb,ro,la,le,li,dn,st,rfl,hY,q⟩:=h
  refine⟨_,ai (ar (av aq rfl T.len PySem.boot_len (aa (al (pv 0) rfl) ad))),?_⟩
  obtain⟨Aa,Bn,pl⟩:=hY.hle
  refine⟨_,rfl,y,ys.zR,dy,_,_,rfl,hY.ins,Y.cl,Y.n4,rfl,le,_,rfl, .inl (zU.of Bn),?_⟩
  rw[Paired.length pl]
  exact q
theorem pi {K:Frag}{T:Addr}{o:Obj}{n:Nat}{kV doc pm cdv ct:Value}{an:Option Addr}(ho:K.lookup T=some o)(hs:o.data = .seq #[Value.none] n) :
  Binds K (fnOf "__init__" "Yard.__init__" (aZ ij) (aF ij) (ah ij) (.ref T) kV doc pm an cdv ct) ["self", "table", "rooms"] []:=fun s us CH hl=>by
 have hl:us.length=3:=by rw[append_nil]at hl;exact hl
 obtain⟨a,us0,rfl,Pg⟩:=L2.FW hl
 obtain⟨b,us1,rfl,M0⟩:=L2.FW Pg
 obtain⟨c,us2,rfl,Fp⟩:=L2.FW M0
 obtain rfl:=List.eq_nil_of_length_eq_zero Fp
 exact BindsTo.of_defaults rfl (CH _ _ ho) hs rfl rfl
theorem n9 {K:Frag}{T:Addr}{o:Obj}{n:Nat}{tk:Tok}{kV doc pm cdv ct:Value}{an:Option Addr}(ho:K.lookup T=some o)(hs:o.data = .seq #[Value.int 0 tk] n) :
  Binds K (fnOf "post" "Yard.post" (aZ gF) (aF gF) (ah gF) (.ref T) kV doc pm an cdv ct) Ms []:=fun s us CH hl=>by
 have hl:us.length=5:=by rw[append_nil]at hl;exact hl
 obtain⟨a,us0,rfl,Pg⟩:=L2.FW hl
 obtain⟨b,us1,rfl,M0⟩:=L2.FW Pg
 obtain⟨c,us2,rfl,Fp⟩:=L2.FW M0
 obtain⟨d,us3,rfl,hl3⟩:=L2.FW Fp
 obtain⟨e,us4,rfl,Ph⟩:=L2.FW hl3
 obtain rfl:=List.eq_nil_of_length_eq_zero Ph
 exact BindsTo.of_defaults rfl (CH _ _ ho) hs rfl rfl
noncomputable def xv (C:Addr):Sp:=fun vs H Q _=>∃ (x dx pa:Addr)(r b:Int)(h:Option Int)(Am:List V)(qs:List (Int × Int)),vs=[.ref x]/\Ai H C x dx pa r b h Am qs/\∀ (x' DR Em:Addr)(H':Hp),zO H H'->H x' = none->H Em = none->Ai H' C x' DR Em r b h Am qs->Q (.ref x') H'
noncomputable def xt (C:Addr):Sp:=fun vs H Q _=>∃ (x dx wa:Addr)(s:aY),vs=[.ref x]/\H x=some (.ins C dx (oR s wa))/\H wa=some (.lst (nV s.way))/\∀ (x' DR DH:Addr)(H':Hp),zO H H'->H x' = none->H DH = none->H' x' = some (.ins C DR (oR s DH))->H' DH = some (.lst (nV s.way))->Q (.ref x') H'
theorem Hu:ao ["self", "other"] ["self"] (ah yp):=L2.Au
theorem yP {C f fl:Addr}{fd dl:FuncData}(F:Al K "twin" "Lane.twin" yp f fd)(T:eO mg)(L:xB K C)(ml:mg "Lane" = some (.ref C))(Ml:Mk K C fl)(bl:Binds K dl ["self", "room"] [])(Gl:zP P w K mg base aB 1 fl dl ["self", "room"] (sw C)) :
  zP P w K mg base aB 3 f fd ["self"] (xv C):=by
 refine F.ok Hu (fun _ _ _ _ h=>?_) (fun _ _ _ s H _ Q E hr h=>?_)
 ·obtain⟨x,dx,pa,r,b,h,Am,qs,rfl,_⟩:=h
  rfl
 ·obtain⟨x,dx,pa,r,b,h,Am,qs,rfl,hL,q⟩:=h
  refine⟨_,af (aC (i:=1) Hu.nd rfl (Or.inl rfl) (cY Ml Gl hr rfl ml bl .nil ap (aa (al (pv 0) rfl) ad)))
   (af (aU (pv 1) (al (pv 0) rfl) rfl)
   (af (aU (pv 1) (al (pv 0) rfl) rfl)
   (af (aU (pv 1) (bU c4 rfl T.list PySem.Pv.boot_list (aa (al (pv 0) rfl) ad)) rfl)
   (ai (ar (pv 1)))))),?_⟩
  refine⟨_,rfl,x,C,dx,_,_,rfl,hL.ins,L.cl,L.n1,rfl,fun x' d' nx nd ne=>⟨x',d',r,rfl,ac,fun IB H1 F2 off IC=>⟨rfl,?_⟩⟩⟩
  have s1:zO H H1:=fun z o ez=>off z o (ag ez nx) (by rw[ae (ag ez nx),ae (ag ez nd)];exact ez)
  have hi1:=IC.ins
  clear F2 off IC
  refine⟨_,rfl,x,C,dx,_,_,rfl,s1 _ _ hL.ins,L.cl,L.n2,rfl,_,rfl,x',C,d',_,rfl,hi1,L.cl,L.n2,by show 4 < 1000;decide,?_⟩
  have o2:∀ o',zO H (upd H1 x' o'):=fun o' z o ez=>by rw[ae (ag ez nx)];exact s1 _ _ ez
  refine⟨_,rfl,x,C,dx,_,_,rfl,o2 _ _ _ hL.ins,L.cl,L.n3,rfl,_,rfl,x',C,d',_,rfl,ac,L.cl,L.n3,by show 4 < 1000;decide,?_⟩
  have o3:∀ o' W7,zO H (upd (upd H1 x' o') x' W7):=fun o' W7 z o ez=>by rw[ae (ag ez nx)];exact o2 _ _ _ ez
  have s3:=o3 (.ins C d' (aK "returning" (.int b) (iB r 0 (hV none) IB))) (.ins C d' (aK "holder" (hV h) (aK "returning" (.int b) (iB r 0 (hV none) IB))))
  have ID:(upd (upd H1 x' (.ins C d' (aK "returning" (.int b) (iB r 0 (hV none) IB)))) x' (.ins C d' (aK "holder" (hV h) (aK "returning" (.int b) (iB r 0 (hV none) IB))))) x' = some (.ins C d' (iB r b (hV h) IB)):=ac
  generalize upd (upd H1 x' (.ins C d' (aK "returning" (.int b) (iB r 0 (hV none) IB)))) x' (.ins C d' (aK "holder" (hV h) (aK "returning" (.int b) (iB r 0 (hV none) IB))))=H3 at s3 ID ⊢
  refine⟨_,rfl,x,C,dx,_,_,rfl,s3 _ _ hL.ins,L.cl,L.n4,rfl,pa,_,rfl, .inl (zU.of (s3 _ _ hL.lst)),fun Em IE=>?_⟩
  have DX:H Em = none:=by
   cases e:H Em with
   | none=>rfl
   | some o=>rw[s3 _ _ e]at IE;cases IE
  have M3:x' ≠ Em:=ag ID IE
  refine⟨_,rfl,x',C,d',_,rfl,by rw[ae M3];exact ID,L.cl,L.n4,by show 4 < 1000;decide,_,rfl,?_⟩
  have s4:∀ o',zO H (upd (upd H3 Em (.lst Am)) x' o'):=fun o' z o ez=>by rw[ae (ag ez nx),ae (ag ez DX)];exact s3 _ _ ez
  exact q x' d' Em _ (s4 _) nx DX ⟨ac,by rw[ae (Ne.symm M3)];exact ac,Ak.same (s4 _) hL.Bh⟩
theorem Hv:ao ["self", "other"] ["self"] (ah tj):=L2.Au
theorem yN {ys:Ys}{f fl:Addr}{fd dl:FuncData}(F:Al K "twin" "Letter.twin" tj f fd)(T:eO mg)(Y:iD K ys)(ml:mg "Letter" = some (.ref ys.zQ))(Ml:Mk K ys.zQ fl)(bl:Binds K dl ["self", "start", "goal", "length", "word"] [])(Gl:zP P w K mg base aB 1 fl dl ["self", "start", "goal", "length", "word"] (su ys.zQ)) :
  zP P w K mg base aB 3 f fd ["self"] (xt ys.zQ):=by
 refine F.ok Hv (fun _ _ _ _ h=>?_) (fun _ _ _ s H _ Q E hr h=>?_)
 ·obtain⟨x,dx,wa,s,rfl,_⟩:=h
  rfl
 ·obtain⟨x,dx,wa,t,rfl,hx,hw,q⟩:=h
  refine⟨_,af (aC (i:=1) Hv.nd rfl (Or.inl rfl) (cY Ml Gl hr rfl ml bl .nil ap (aa (al (pv 0) rfl) (aa (al (pv 0) rfl) (aa (al (pv 0) rfl) (aa (al (pv 0) rfl) ad))))))
   (af (aU (pv 1) (al (pv 0) rfl) rfl)
   (af (aU (pv 1) (bU c4 rfl T.list PySem.Pv.boot_list (aa (al (pv 0) rfl) ad)) rfl)
   (ai (ar (pv 1))))),?_⟩
  refine⟨_,rfl,x,ys.zQ,dx,_,_,rfl,hx,Y.ct,Y.t1,rfl,_,rfl,x,ys.zQ,dx,_,_,rfl,hx,Y.ct,Y.t2,rfl,_,rfl,x,ys.zQ,dx,_,_,rfl,hx,Y.ct,Y.t3,rfl,_,rfl,x,ys.zQ,dx,_,_,rfl,hx,Y.ct,Y.t4,rfl,fun x' d' nx nd ne=>⟨x',d',t.start,t.goal,t.len,t.word,rfl,ac,fun w0 H1 hw0 off B1 Fg=>⟨rfl,?_⟩⟩⟩
  have s1:zO H H1:=fun z o ez=>off z o (ag ez nx) (by rw[ae (ag ez nx),ae (ag ez nd)];exact ez)
  clear hw0 off Fg
  refine⟨_,rfl,x,ys.zQ,dx,_,_,rfl,s1 _ _ hx,Y.ct,Y.t5,rfl,_,rfl,x',ys.zQ,d',_,rfl,B1,Y.ct,Y.t5,by show 6 < 1000;decide,?_⟩
  have s3:zO H (upd H1 x' (.ins ys.zQ d' (aK "gone" (.int t.gone) (oR ⟨t.start,t.goal,t.len,t.word,0,[]⟩ w0)))):=fun z o ez=>by rw[ae (ag ez nx)];exact s1 _ _ ez
  have ID:(upd H1 x' (.ins ys.zQ d' (aK "gone" (.int t.gone) (oR ⟨t.start,t.goal,t.len,t.word,0,[]⟩ w0)))) x' = some (.ins ys.zQ d' (oR ⟨t.start,t.goal,t.len,t.word,t.gone,[]⟩ w0)):=ac
  show _
  generalize upd H1 x' (.ins ys.zQ d' (aK "gone" (.int t.gone) (oR ⟨t.start,t.goal,t.len,t.word,0,[]⟩ w0)))=H3 at s3 ID ⊢
  refine⟨_,rfl,x,ys.zQ,dx,_,_,rfl,s3 _ _ hx,Y.ct,Y.t6,rfl,wa,_,rfl, .inl (zU.of (s3 _ _ hw)),fun DH IF=>?_⟩
  have DY:H DH = none:=by
   cases e:H DH with
   | none=>rfl
   | some o=>rw[s3 _ _ e]at IF;cases IF
  have M3:x' ≠ DH:=ag ID IF
  refine⟨_,rfl,x',ys.zQ,d',_,rfl,by rw[ae M3];exact ID,Y.ct,Y.t6,by show 6 < 1000;decide,_,rfl,?_⟩
  have s4:∀ o',zO H (upd (upd H3 DH (.lst (nV t.way))) x' o'):=fun o' z o ez=>by rw[ae (ag ez nx),ae (ag ez DY)];exact s3 _ _ ez
  exact q x' d' DH _ (s4 _) nx DY ac (by rw[ae (Ne.symm M3)];exact ac)
structure YA where
 y:Addr
 dy:Addr
 tb:Addr
 ro:Addr
 la:Addr
 le:Addr
 li:Addr
 dn:Addr
 lx:Addr
 Ao:Addr
 lt:Addr
 n:Nat
 Aa:List V
 ps:List (Int × Int)
 wy:Wf
abbrev AE (K:Frag)(ys:Ys)(H:Hp)(a:YA)(s:YS):Prop:=zX K ys H a.y a.dy a.tb a.ro a.la a.le a.li a.dn s
abbrev xc (c:Cs)(TC:Addr)(J:TJ)(H:Hp)(a:YA):Prop:=AS c TC J H a.tb a.lx a.Ao a.lt a.n a.Aa a.ps a.wy
abbrev YA.four (a:YA):List Addr:=[a.la,a.le,a.li,a.dn]
theorem Paired.set {α β:Type}{R:α->β->Prop}{v:α}{r:β}(h:R v r):∀ {vs:List α}{rs:List β}(i:Nat),Paired R vs rs->Paired R (vs.set i v) (rs.set i r)
 | _,_,_, .nil => .nil
 | _,_,0, .cons _ t => .cons h t
 | _,_,i + 1, .cons x t => .cons x (Paired.set h i t)
theorem zW.mono {ex Jn:List Addr}{H H':Hp}(h:∀ b ∈ ex,b ∈ Jn)(o:zW ex H H'):zW Jn H H':=fun b u nb e=>o b u (fun z=>nb (h b z)) e
theorem kg {K:Frag}{ys:Ys}{H:Hp}{a:YA}{s:YS}(h:AE K ys H a s){p:Addr}(hp:H p=none):p ∉ a.la :: a.le :: a.li :: a.dn :: ys.ex:=fun z=>by obtain⟨xs,hz⟩:=zX.DG h p z;rw[hp]at hz;cases hz
theorem lB {H H2:Hp}{x b:Addr}{zs:List V}(o:zW [x] H H2)(hx:H2 x=some (.lst zs))(h:∃ xs,H b=some (.lst xs)):∃ xs,H2 b=some (.lst xs):=by
 by_cases e:b=x
 ·exact⟨zs,by rw[e];exact hx⟩
 ·obtain⟨xs,hz⟩:=h
  exact⟨xs,o _ _ (by simpa using e) hz⟩
theorem AE.C7 {K:Frag}{ys:Ys}{H H2:Hp}{a:YA}{s:YS}(h:AE K ys H a s){vs:List V}(hv:H a.la=some (.lst vs))(o:zW [a.la] H H2){k:Nat}{x dx pa:Addr}(hl:H2 a.la=some (.lst (vs.set k (.ref x)))){ln:bS}{Am:List V}
  (L:Ai H2 ys.An x dx pa ln.r ln.b ln.h Am ln.qs) (np:H pa=none):AE K ys H2 a { s with lanes:=s.lanes.set k ln }:=by
 obtain⟨h1,h2,f1,f2,f3,f4⟩:=zX.off h (o.mono (by simp))
 obtain⟨v1,a1,p1⟩:=h.AW
 obtain⟨v2,a2,p2⟩:=h.hle
 obtain⟨v3,a3,p3⟩:=h.Cu
 obtain⟨v4,a4,p4⟩:=h.Ci
 rw[hv]at a1
 cases a1
 have ne:=h.ne
 simp only[nodup_cons,mem_cons,not_mem_nil,or_false,not_or,not_false_eq_true,and_true,nodup_nil]at ne
 exact⟨h1,h2,⟨_,hl,Paired.set ⟨x,dx,pa,Am,rfl,L,kg h np⟩ k (f1 _ _ p1)⟩,⟨v2,o _ _ (by simp;exact Ne.symm ne.1.1) a2,f2 _ _ p2⟩,⟨v3,o _ _ (by simp;exact Ne.symm ne.1.2.1) a3,f3 _ _ p3⟩,⟨v4,o _ _ (by simp;exact Ne.symm ne.1.2.2) a4,f4 _ _ p4⟩,h.ne,fun b hb=>lB o hl (h.hex b hb)⟩
theorem AE.EF {K:Frag}{ys:Ys}{H H2:Hp}{a:YA}{s:YS}(h:AE K ys H a s){vs:List V}(hv:H a.le=some (.lst vs))(o:zW [a.le] H H2){k:Nat}{x dx wa:Addr}(hl:H2 a.le=some (.lst (vs.set k (.ref x)))){t:aY}
  (hx:H2 x=some (.ins ys.zQ dx (oR t wa))) (hw:H2 wa=some (.lst (nV t.way))) (np:H wa=none):AE K ys H2 a { s with U:=s.U.set k t }:=by
 obtain⟨h1,h2,f1,f2,f3,f4⟩:=zX.off h (o.mono (by simp))
 obtain⟨v1,a1,p1⟩:=h.AW
 obtain⟨v2,a2,p2⟩:=h.hle
 obtain⟨v3,a3,p3⟩:=h.Cu
 obtain⟨v4,a4,p4⟩:=h.Ci
 rw[hv]at a2
 cases a2
 have ne:=h.ne
 simp only[nodup_cons,mem_cons,not_mem_nil,or_false,not_or,not_false_eq_true,and_true,nodup_nil]at ne
 exact⟨h1,h2,⟨v1,o _ _ (by simp;exact ne.1.1) a1,f1 _ _ p1⟩,⟨_,hl,Paired.set ⟨x,dx,wa,rfl,hx,hw,kg h np⟩ k (f2 _ _ p2)⟩,⟨v3,o _ _ (by simp;exact Ne.symm ne.2.1.1) a3,f3 _ _ p3⟩,⟨v4,o _ _ (by simp;exact Ne.symm ne.2.1.2) a4,f4 _ _ p4⟩,h.ne,fun b hb=>lB o hl (h.hex b hb)⟩
theorem AE.IG {K:Frag}{ys:Ys}{H H2:Hp}{a:YA}{s:YS}(h:AE K ys H a s){vs:List V}(hv:H a.li=some (.lst vs))(o:zW [a.li] H H2){k:Nat}{v:V}(hl:H2 a.li=some (.lst (vs.set k v))){qs:List (Int × Int)}
  (L:Bp H2 v qs):AE K ys H2 a { s with lies:=s.lies.set k qs }:=by
 obtain⟨h1,h2,f1,f2,f3,f4⟩:=zX.off h (o.mono (by simp))
 obtain⟨v1,a1,p1⟩:=h.AW
 obtain⟨v2,a2,p2⟩:=h.hle
 obtain⟨v3,a3,p3⟩:=h.Cu
 obtain⟨v4,a4,p4⟩:=h.Ci
 rw[hv]at a3
 cases a3
 have ne:=h.ne
 simp only[nodup_cons,mem_cons,not_mem_nil,or_false,not_or,not_false_eq_true,and_true,nodup_nil]at ne
 exact⟨h1,h2,⟨v1,o _ _ (by simp;exact ne.1.2.1) a1,f1 _ _ p1⟩,⟨v2,o _ _ (by simp;exact ne.2.1.1) a2,f2 _ _ p2⟩,⟨_,hl,Paired.set L k (f3 _ _ p3)⟩,⟨v4,o _ _ (by simp;exact Ne.symm ne.2.2) a4,f4 _ _ p4⟩,h.ne,fun b hb=>lB o hl (h.hex b hb)⟩
noncomputable def sk (K:Frag)(ys:Ys):Sp:=fun vs H Q _=>∃ (a:YA)(s:YS)(k:Nat)(ln:bS)(Ad:List V),vs=[.ref a.y, .int k]/\AE K ys H a s/\s.lanes[k]? = some ln/\H a.la=some (.lst Ad) /\
 ∀ (x dx pa:Addr)(Am:List V)(H':Hp),zW [a.la] H H'->H x=none->H pa=none->H' a.la=some (.lst (Ad.set k (.ref x)))->Ai H' ys.An x dx pa ln.r ln.b ln.h Am ln.qs->Q (.ref x) H'
noncomputable def sj (K:Frag)(ys:Ys):Sp:=fun vs H Q _=>∃ (a:YA)(s:YS)(k:Nat)(t:aY)(Aa:List V),vs=[.ref a.y, .int k]/\AE K ys H a s/\s.U[k]? = some t/\H a.le=some (.lst Aa) /\
 ∀ (x dx wa:Addr)(H':Hp),zW [a.le] H H'->H x=none->H wa=none->H' a.le=some (.lst (Aa.set k (.ref x)))->H' x=some (.ins ys.zQ dx (oR t wa))->H' wa=some (.lst (nV t.way))->Q (.ref x) H'
noncomputable def xw (K:Frag)(ys:Ys):Sp:=fun vs H Q _=>∃ (a:YA)(s:YS)(v:V)(q:Int × Int)(p:Nat)(qs:List (Int × Int)),vs=[.ref a.y,v, .int p]/\AE K ys H a s/\xi H v q/\s.lies[p]? = some qs/\qs.length <= 100000 /\
 ∀ H',zW [a.li] H H'->AE K ys H' a { s with lies:=s.lies.set p (qs ++ [q]) }->Q .Af H'
noncomputable def pA (K:Frag)(ys:Ys):Sp:=fun vs H Q _=>∃ (a:YA)(s:YS)(p:Nat)(qs:List (Int × Int)),vs=[.ref a.y, .int p]/\AE K ys H a s/\s.lies[p]? = some qs /\
 ∀ (D:Addr)(Am:List V)(H':Hp),zO H H'->H D=none->H' D=some (.lst Am)->Ak H' Am qs->Q (.ref D) H'
theorem ye:ao ["self", "lane"] ["self", "lane"] (ah sU):=L2.Au
theorem wg {ys:Ys}{f ft:Addr}{fd dt:FuncData}(F:Al K "own_lane" "Yard.own_lane" sU f fd)(Y:iD K ys)(mt:bu K ys.An "twin" ft)(bt:Binds K dt ["self"] [])(Gt:zP P w K mg base aB 3 ft dt ["self"] (xv ys.An)) :
  zP P w K mg base aB 4 f fd ["self", "lane"] (sk K ys):=by
 refine F.ok ye (fun _ _ _ _ h=>?_) (fun _ _ _ s H _ Q E hr h=>?_)
 ·obtain⟨a,s,k,ln,Ad,rfl,_⟩:=h
  rfl
 ·obtain⟨a,st,k,ln,Ad,rfl,hY,hk,AJ,q⟩:=h
  refine⟨_,af (lp (bA (ay aT (al (pv 0) rfl) (pv 1) (fun _ _=>rfl)) Y.L.cl mt Gt hr bt .nil ap) (oH (al (pv 0) rfl) (pv 1) jl))
   (ai (ar (ay aT (al (pv 0) rfl) (pv 1) (fun _ _=>rfl)))),?_⟩
  obtain⟨lvs',Ea,pl⟩:=hY.AW
  rw[AJ]at Ea
  cases Ea
  obtain⟨v,hv,x,dx,pa,Am,rfl,hL,_⟩:=Paired.at2 pl hk
  have BM:k < Ad.length:=(gQ0 hv)
  refine⟨_,rfl,a.y,ys.zR,a.dy,_,_,rfl,hY.ins,Y.cl,Y.n3,rfl,_,rfl,a.la,Ad,(k:Int),_,rfl,rfl,zU.of AJ,ak hv,x,dx,_,rfl,hL.ins,rfl,?_⟩
  refine⟨x,dx,pa,ln.r,ln.b,ln.h,Am,ln.qs,rfl,hL,fun x' DR Em H1 s1 nx F4 IC=>?_⟩
  refine⟨_,rfl,a.y,ys.zR,a.dy,_,_,rfl,s1 _ _ hY.ins,Y.cl,Y.n3,rfl,_,rfl,a.la,Ad,(k:Int),k,rfl,rfl,s1 _ _ AJ,iW BM,?_⟩
  have o1:zW [a.la] H (upd H1 a.la (.lst (Ad.set k (.ref x')))):=(zO.Aq s1).trans (cn (by simp))
  have g1:(upd H1 a.la (.lst (Ad.set k (.ref x')))) a.la=some (.lst (Ad.set k (.ref x'))):=ac
  have Cb:Ai (upd H1 a.la (.lst (Ad.set k (.ref x')))) ys.An x' DR Em ln.r ln.b ln.h Am ln.qs:=by
   have n1:x' ≠ a.la:=aR IC.ins (s1 _ _ AJ) (by intro z;cases z)
   have n2:Em ≠ a.la:=fun z=>by rw[z,AJ]at F4;cases F4
   exact⟨by rw[ae n1];exact IC.ins,by rw[ae n2];exact IC.lst,Ak.Aq (ex:=[a.la]) (fun b hb=>by simp at hb;subst hb;exact⟨_,s1 _ _ AJ⟩) (cn (by simp)) IC.Bh⟩
  generalize upd H1 a.la (.lst (Ad.set k (.ref x')))=H2 at o1 g1 Cb ⊢
  have RC:H2 a.y=some (.ins ys.zR a.dy (OX a.tb a.ro a.la a.le a.li a.dn)):=o1 _ _ (by simp;exact aR hY.ins AJ (by intro z;cases z)) hY.ins
  exact⟨_,rfl,a.y,ys.zR,a.dy,_,_,rfl,RC,Y.cl,Y.n3,rfl,_,rfl,a.la,_,(k:Int), .ref x',rfl,rfl,zU.of g1,ak (by simp[BM]),q x' DR Em Am H2 o1 nx F4 g1 Cb⟩
theorem yd:ao ["self", "number"] ["self", "number"] (ah sS):=L2.Au
theorem wf {ys:Ys}{f ft:Addr}{fd dt:FuncData}(F:Al K "own_letter" "Yard.own_letter" sS f fd)(Y:iD K ys)(mt:bu K ys.zQ "twin" ft)(bt:Binds K dt ["self"] [])(Gt:zP P w K mg base aB 3 ft dt ["self"] (xt ys.zQ)) :
  zP P w K mg base aB 4 f fd ["self", "number"] (sj K ys):=by
 refine F.ok yd (fun _ _ _ _ h=>?_) (fun _ _ _ s H _ Q E hr h=>?_)
 ·obtain⟨a,s,k,ln,Ad,rfl,_⟩:=h
  rfl
 ·obtain⟨a,st,k,t,Aa,rfl,hY,hk,Bn,q⟩:=h
  refine⟨_,af (lp (bA (ay aT (al (pv 0) rfl) (pv 1) (fun _ _=>rfl)) Y.ct mt Gt hr bt .nil ap) (oH (al (pv 0) rfl) (pv 1) jl))
   (ai (ar (ay aT (al (pv 0) rfl) (pv 1) (fun _ _=>rfl)))),?_⟩
  obtain⟨DZ,M4,pl⟩:=hY.hle
  rw[Bn]at M4
  cases M4
  obtain⟨v,hv,x,dx,wa,rfl,hx,hw,_⟩:=Paired.at2 pl hk
  have BM:k < Aa.length:=(gQ0 hv)
  refine⟨_,rfl,a.y,ys.zR,a.dy,_,_,rfl,hY.ins,Y.cl,Y.n4,rfl,_,rfl,a.le,Aa,(k:Int),_,rfl,rfl,zU.of Bn,ak hv,x,dx,_,rfl,hx,rfl,?_⟩
  refine⟨x,dx,wa,t,rfl,hx,hw,fun x' DR DH H1 s1 nx F4 B1 Fg=>?_⟩
  refine⟨_,rfl,a.y,ys.zR,a.dy,_,_,rfl,s1 _ _ hY.ins,Y.cl,Y.n4,rfl,_,rfl,a.le,Aa,(k:Int),k,rfl,rfl,s1 _ _ Bn,iW BM,?_⟩
  have o1:zW [a.le] H (upd H1 a.le (.lst (Aa.set k (.ref x')))):=(zO.Aq s1).trans (cn (by simp))
  have g1:(upd H1 a.le (.lst (Aa.set k (.ref x')))) a.le=some (.lst (Aa.set k (.ref x'))):=ac
  have n1:x' ≠ a.le:=aR B1 (s1 _ _ Bn) (by intro z;cases z)
  have n2:DH ≠ a.le:=fun z=>by rw[z,Bn]at F4;cases F4
  have Fc:(upd H1 a.le (.lst (Aa.set k (.ref x')))) x' = some (.ins ys.zQ DR (oR t DH)):=by rw[ae n1];exact B1
  have Hs:(upd H1 a.le (.lst (Aa.set k (.ref x')))) DH = some (.lst (nV t.way)):=by rw[ae n2];exact Fg
  generalize upd H1 a.le (.lst (Aa.set k (.ref x')))=H2 at o1 g1 Fc Hs ⊢
  have RC:H2 a.y=some (.ins ys.zR a.dy (OX a.tb a.ro a.la a.le a.li a.dn)):=o1 _ _ (by simp;exact aR hY.ins Bn (by intro z;cases z)) hY.ins
  exact⟨_,rfl,a.y,ys.zR,a.dy,_,_,rfl,RC,Y.cl,Y.n4,rfl,_,rfl,a.le,_,(k:Int), .ref x',rfl,rfl,zU.of g1,ak (by simp[BM]),q x' DR DH H2 o1 nx F4 g1 Fc Hs⟩
theorem M5:ao ["self", "piece", "place"] ["self", "piece", "place"] (ah yr):=L2.Au
theorem yR {ys:Ys}{f:Addr}{fd:FuncData}(F:Al K "lay" "Yard.lay" yr f fd)(Y:iD K ys):zP P w K mg base aB 1 f fd ["self", "piece", "place"] (xw K ys):=by
 refine F.ok M5 (fun _ _ _ _ h=>?_) (fun _ _ _ s H _ Q E hr h=>?_)
 ·obtain⟨a,s,v,q,p,qs,rfl,_⟩:=h
  rfl
 ·obtain⟨a,st,v,qp,p,qs,rfl,hY,hv,hp,hlen,q⟩:=h
  refine⟨_,ai (lp (az vU (ay aT (al (pv 0) rfl) (pv 2) (fun _ _=>rfl)) (bK (aa (pv 1) ad))) (oH (al (pv 0) rfl) (pv 2) jl)),?_⟩
  obtain⟨Ad,Hw,pl⟩:=hY.Cu
  obtain⟨v0,hv0,t0,Ej,rfl,Hy,M6⟩:=Paired.at2 pl hp
  have BM:p < Ad.length:=(gQ0 hv0)
  have Pg:Ej.length=qs.length:=Paired.length M6
  refine⟨_,rfl,a.y,ys.zR,a.dy,_,_,rfl,hY.ins,Y.cl,Y.n5,rfl,_,rfl,a.li,Ad,(p:Int),_,rfl,rfl,zU.of Hw,ak hv0,_,rfl,by show 1 <= sizeLine;decide,fun t ht=>?_⟩
  have s1:=(zO.refl H).new (o := .tup [v]) ht
  have g1:(upd H t (.tup [v])) t=some (.tup [v]):=ac
  generalize upd H t (.tup [v])=H1 at s1 g1 ⊢
  have fin:∀ (z:Addr)(H2:Hp),zO H H2->Bp H2 (.ref z) (qs ++ [qp])->Q .Af (upd H2 a.li (.lst (Ad.set p (.ref z)))):=fun z H2 s2 hz=>by
   have o2:zW [a.li] H (upd H2 a.li (.lst (Ad.set p (.ref z)))):=(zO.Aq s2).trans (cn (by simp))
   refine q _ o2 (AE.IG hY Hw o2 ac ?_)
   obtain⟨tz,vz,ez,W8,hz2⟩:=hz
   cases ez
   have nz:z ≠ a.li:=aR W8 (s2 _ _ Hw) (by intro y;cases y)
   exact⟨z,vz,rfl,by rw[ae nz];exact W8,Ak.Aq (ex:=[a.li]) (fun b hb=>by simp at hb;subst hb;exact⟨_,s2 _ _ Hw⟩) (cn (by simp)) hz2⟩
  refine⟨t0,t,Ej,[v],rfl,rfl,Ab.of (s1 _ _ Hy),Ab.of g1,by simp,by rw[sizeLine_eq];simp;omega,fun e0=>?_,fun e0 p2 GC=>?_⟩
  ·subst e0
   cases M6
   refine⟨_,rfl,a.y,ys.zR,a.dy,_,_,rfl,s1 _ _ hY.ins,Y.cl,Y.n5,rfl,_,rfl,a.li,Ad,(p:Int),p,rfl,rfl,s1 _ _ Hw,iW BM,?_⟩
   exact fin t H1 s1 ⟨t,[v],rfl,g1, .cons (let ⟨u,e,hu⟩:=hv; ⟨u,e,s1 _ _ hu⟩) .nil⟩
  ·have s2:=s1.new (o := .tup (Ej ++ [v])) GC
   have g2:(upd H1 p2 (.tup (Ej ++ [v]))) p2=some (.tup (Ej ++ [v])):=ac
   generalize upd H1 p2 (.tup (Ej ++ [v]))=H2 at s2 g2 ⊢
   refine⟨_,rfl,a.y,ys.zR,a.dy,_,_,rfl,s2 _ _ hY.ins,Y.cl,Y.n5,rfl,_,rfl,a.li,Ad,(p:Int),p,rfl,rfl,s2 _ _ Hw,iW BM,?_⟩
   exact fin p2 H2 s2 ⟨p2,_,rfl,g2,Ak.snoc (let ⟨u,e,hu⟩:=hv; ⟨u,e,s2 _ _ hu⟩) (Ak.same s2 M6)⟩
theorem M7:ao ["self", "place"] ["self", "place"] (ah o0):=L2.Au
theorem ui {ys:Ys}{f:Addr}{fd:FuncData}(F:Al K "lying" "Yard.lying" o0 f fd)(T:eO mg)(Y:iD K ys):zP P w K mg base aB 1 f fd ["self", "place"] (pA K ys):=by
 refine F.ok M7 (fun _ _ _ _ h=>?_) (fun _ _ _ s H _ Q E hr h=>?_)
 ·obtain⟨a,s,p,qs,rfl,_⟩:=h
  rfl
 ·obtain⟨a,st,p,qs,rfl,hY,hp,q⟩:=h
  refine⟨_,ai (ar (bU c4 rfl T.list PySem.Pv.boot_list (aa (ay aT (al (pv 0) rfl) (pv 1) (fun _ _=>rfl)) ad))),?_⟩
  obtain⟨Ad,Hw,pl⟩:=hY.Cu
  obtain⟨v0,hv0,t0,Ej,rfl,Hy,M6⟩:=Paired.at2 pl hp
  refine⟨_,rfl,a.y,ys.zR,a.dy,_,_,rfl,hY.ins,Y.cl,Y.n5,rfl,_,rfl,a.li,Ad,(p:Int),_,rfl,rfl,zU.of Hw,ak hv0,t0,_,rfl, .inr (Ab.of Hy),fun D hD=>?_⟩
  have s1:=(zO.refl H).new (o := .lst Ej) hD
  exact q D Ej _ s1 hD ac (Ak.same s1 M6)
noncomputable def eD (ln:bS)(m c len:Int):bS:={ ln with r:=ln.r - 1,h:=if decide (c=len - 1)=true then none else some m,qs:=ln.qs ++ [(m,c)] }
noncomputable def bV (s:YS)(m:Nat)(c:Int)(l:Nat)(t:aY)(ln:bS):YS:={ s with U:=if c=0 then s.U.set m { t with way:=t.way ++ [l] } else s.U,lanes:=s.lanes.set l (eD ln m c t.len) }
noncomputable def kX (K:Frag)(ys:Ys):Sp:=fun vs H Q _=>∃ (a:YA)(s:YS)(v:V)(m:Nat)(c:Int)(l:Nat)(t:aY)(ln:bS),vs=[.ref a.y,v, .int l]/\AE K ys H a s/\xi H v ((m:Int),c)/\s.U[m]? = some t/\s.lanes[l]? = some ln/\ce ln.r ln.h m c=true/\t.way.length <= 1000/\ln.qs.length < 100000 /\
 ∀ H',zW [a.la,a.le] H H'->AE K ys H' a (bV s m c l t ln)->Q .Af H'
noncomputable def cz (s:YS)(m:Nat)(t:aY):YS:={ s with U:=s.U.set m { t with gone:=t.gone + 1 } }
noncomputable def sI (K:Frag)(ys:Ys):Sp:=fun vs H Q _=>∃ (a:YA)(s:YS)(m l:Nat)(t:aY)(ln:bS),vs=[.ref a.y, .int m, .int l]/\AE K ys H a s/\s.U[m]? = some t/\s.lanes[l]? = some ln/\ce ln.r ln.h m t.gone=true/\t.way.length <= 1000/\ln.qs.length < 100000 /\
 ∀ H',zW [a.la,a.le] H H'->AE K ys H' a (bV (cz s m t) m t.gone l { t with gone:=t.gone + 1 } ln)->Q .Af H'
structure Own (P:Program)(w:World)(K:Frag)(mg:Str->Option Value)(base:Heap)(ys:Ys)(nm:Addr)(fl ft fp:Addr)(dl dt dp:FuncData):Prop where
 ml:bu K ys.zR "own_lane" fl
 bl:Binds K dl ["self", "lane"] []
 Gl:zP P w K mg base aB 4 fl dl ["self", "lane"] (sk K ys)
 mt:bu K ys.zR "own_letter" ft
 bt:Binds K dt ["self", "number"] []
 Gt:zP P w K mg base aB 4 ft dt ["self", "number"] (sj K ys)
 mp:bu K ys.An "put" fp
 bp:Binds K dp ["self", "letter", "count", "last"] []
 Gp:zP P w K mg base (dS P w) 2 fp dp ["self", "letter", "count", "last"] (xp ys.An nm)
abbrev W9:List Str:=["self", "piece", "lane", "last"]
abbrev NGi:List Str:=["self", "number", "lane", "letter"]
theorem M9:ao W9 ["self", "piece", "lane"] (ah oC):=L2.Au
theorem ul {ys:Ys}{nm f fl ft fp:Addr}{fd dl dt dp:FuncData}(F:Al K "enter" "Yard.enter" oC f fd)(Y:iD K ys)(O:Own P w K mg base ys nm fl ft fp dl dt dp) :
  zP P w K mg base aB 5 f fd ["self", "piece", "lane"] (kX K ys):=by
 refine F.ok M9 (fun _ _ _ _ h=>?_) (fun _ _ _ s H _ Q E hr h=>?_)
 ·obtain⟨a,s,v,m,c,l,t,ln,rfl,_⟩:=h
  rfl
 ·obtain⟨a,st,v,m,c,l,t,ln,rfl,hY,⟨pt,rfl,Dg⟩,hm,hl,CP,EW,WA,q⟩:=h
  have Be:zZ 2 _:=hr.mono (by decide)
  refine⟨_,af (pH (aQ (aw bB (ay aE (pv 1) aj (fun _ _=>rfl)) aj (aA _))
    (ai (aM (cp plainAttrs_list PySem.F.slot_list_append PySem.F.type_list_append bE (al (aD (pv 0) Y.cl O.mt O.Gt hr O.bt .nil ap (aa (ay aE (pv 1) aj (fun _ _=>rfl)) ad)) rfl) (aa (pv 2) ad)))) aH))
   (af (aC (i:=3) M9.nd rfl (Or.inl rfl) (dj bB (ay aE (pv 1) aj (fun _ _=>rfl)) (az dB (al (ay aT (al (pv 0) rfl) (ay aE (pv 1) aj (fun _ _=>rfl)) (fun _ _=>rfl)) rfl) aj) (aA _)))
   (ai (aM (aD (aD (pv 0) Y.cl O.ml O.Gl hr O.bl .nil ap (aa (pv 2) ad)) Y.L.cl O.mp O.Gp Be O.bp .nil im (aa (ay aE (pv 1) aj (fun _ _=>rfl)) (aa (ay aE (pv 1) aj (fun _ _=>rfl)) (aa (pv 3) ad))))))),?_⟩
  refine⟨fun σ' H'=>σ' = start W9 [.ref a.y, .ref pt, .int l]/\zW [a.le] H H'/\∃ t1:aY,t1.len=t.len/\AE K ys H' a { st with U:=if c=0 then st.U.set m { t with way:=t.way ++ [l] } else st.U }/\(if c=0 then st.U.set m { t with way:=t.way ++ [l] } else st.U)[m]? = some t1,?_,?_⟩
  ·refine⟨_,rfl,pt,_,1,_,rfl,rfl,Ab.of Dg,ak (j:=1) rfl,rfl,_,rfl,?_⟩
   rw[bN]
   by_cases hc:c=0
   ·rw[decide_eq_true hc]
    obtain⟨Aa,Bn,pl⟩:=hY.hle
    refine aJ ⟨_,rfl,a.y,a.dy,_,rfl,hY.ins,rfl,_,rfl,pt,_,0,_,rfl,rfl,Ab.of Dg,ak (j:=0) rfl,a,st,m,t,Aa,rfl,hY,hm,Bn,fun x dx wa H1 o1 nx nw g1 B1 Fg=>?_⟩
    refine⟨x,ys.zQ,dx,_,_,rfl,B1,Y.ct,Y.t6,rfl, .inl ⟨rfl,_,zU.of Fg⟩,_,rfl,wa,_,_,rfl,rfl,Fg,by rw[dC,sizeLine_eq];omega,?_⟩
    have nxw:x ≠ wa:=aR B1 Fg (by intro z;cases z)
    have nlw:a.le ≠ wa:=ag Bn nw
    have o2:zW [a.le] H (upd H1 wa (.lst (nV t.way ++ [.int l]))):=fun b o nb e=>by rw[ae (ag e nw)];exact o1 b o nb e
    have CN:=AE.EF hY Bn o2 (k:=m) (x:=x) (dx:=dx) (wa:=wa) (by rw[ae nlw];exact g1) (t:={ t with way:=t.way ++ [l] }) (by rw[ae nxw];exact B1) (by rw[ac,uw];rfl) nw
    have JC:m < st.U.length:=(gQ0 hm)
    refine⟨rfl,o2,{ t with way:=t.way ++ [l] },rfl,?_,?_⟩
    ·rw[if_pos hc];exact CN
    ·rw[if_pos hc];simp[JC]
   ·rw[decide_eq_false hc]
    refine aI ⟨rfl,zO.Aq (zO.refl H),t,rfl,?_,?_⟩
    ·rw[if_neg hc];exact hY
    ·rw[if_neg hc];exact hm
  ·rintro σ' H1 ⟨rfl,o1,t1,hlen,Bs,hm1⟩
   have F8:H1 pt=some (.tup [.int m, .int c]):=by
    obtain⟨Aa,Bn,_⟩:=hY.hle
    exact o1 _ _ (by simp;exact aR Dg Bn (by intro z;cases z)) Dg
   obtain⟨RD,RE,RF⟩:=Bs.hle
   obtain⟨v1,hv1,x1,dx1,wa1,rfl,B1,_⟩:=Paired.at2 RF hm1
   refine⟨_,rfl,pt,_,1,_,rfl,rfl,Ab.of F8,ak (j:=1) rfl,_,rfl,a.y,ys.zR,a.dy,_,_,rfl,Bs.ins,Y.cl,Y.n4,rfl,_,rfl,pt,_,0,_,rfl,rfl,Ab.of F8,ak (j:=0) rfl,a.le,RD,(m:Int),_,rfl,rfl,zU.of RE,ak hv1,x1,ys.zQ,dx1,_,_,rfl,B1,Y.ct,Y.t3,rfl,_,_,rfl,rfl,rfl,?_⟩
   obtain⟨Ad,AJ,En⟩:=Bs.AW
   refine⟨_,rfl,a.y,a.dy,_,rfl,Bs.ins,rfl,_,rfl,a,_,l,ln,Ad,rfl,Bs,hl,AJ,fun x dx pa Am H2 o2 nx np g2 Cb=>?_⟩
   have EG:H2 pt=some (.tup [.int m, .int c]):=o2 _ _ (by simp;exact aR F8 AJ (by intro z;cases z)) F8
   have Br:Am.length=ln.qs.length:=Paired.length Cb.Bh
   refine⟨x,dx,_,rfl,Cb.ins,rfl,_,rfl,pt,_,0,_,rfl,rfl,Ab.of EG,ak (j:=0) rfl,_,rfl,pt,_,1,_,rfl,rfl,Ab.of EG,ak (j:=1) rfl,_,rfl,x,dx,pa,ln.r,ln.b,ln.h,Am,ln.qs,(m:Int),c,decide (c=t.len - 1),?_,Cb,by omega,(fun ho=>by rw[CP]at ho;cases ho),fun _ t3 H3 o3 C5=>?_⟩
   ·rw[bN,hlen];rfl
   have nxl:a.la ≠ x:=ag AJ nx
   have WB:a.la ≠ pa:=ag AJ np
   have o4:zW [a.la] H1 H3:=fun b o nb e=>o3 b o (ag e nx) (ag e np) (o2 b o nb e)
   have B9:=AE.C7 Bs AJ o4 (k:=l) (x:=x) (dx:=dx) (pa:=pa) (o3 _ _ nxl WB g2) (ln:=eD ln m c t.len) C5 np
   exact q H3 ((o1.mono (by simp)).trans (o4.mono (by simp))) B9
theorem MA:ao NGi ["self", "number", "lane"] (ah t8):=L2.Au
theorem w6 {ys:Ys}{nm f fl ft fp fe:Addr}{fd dl dt dp de:FuncData}(F:Al K "go_in" "Yard.go_in" t8 f fd)(Y:iD K ys)(O:Own P w K mg base ys nm fl ft fp dl dt dp)(me:bu K ys.zR "enter" fe)(be:Binds K de ["self", "piece", "lane"] [])(Ge:zP P w K mg base aB 5 fe de ["self", "piece", "lane"] (kX K ys)) :
  zP P w K mg base aB 6 f fd ["self", "number", "lane"] (sI K ys):=by
 refine F.ok MA (fun _ _ _ _ h=>?_) (fun _ _ _ s H _ Q E hr h=>?_)
 ·obtain⟨a,s,m,l,t,ln,rfl,_⟩:=h
  rfl
 ·obtain⟨a,st,m,l,t,ln,rfl,hY,hm,hl,CP,EW,WA,q⟩:=h
  have CL:zZ 4 _:=hr.mono (by decide)
  refine⟨_,af (aC (i:=3) MA.nd rfl (Or.inl rfl) (aD (pv 0) Y.cl O.mt O.Gt CL O.bt .nil ap (aa (pv 1) ad)))
   (af (dM (pv 3) aj l8)
   (ai (aM (aD (pv 0) Y.cl me Ge hr be .nil ap (aa (bK (aa (pv 1) (aa (az dB (al (pv 3) rfl) aj) ad))) (aa (pv 2) ad)))))),?_⟩
  obtain⟨Aa,Bn,pl⟩:=hY.hle
  refine⟨_,rfl,a.y,a.dy,_,rfl,hY.ins,rfl,_,rfl,a,st,m,t,Aa,rfl,hY,hm,Bn,fun x dx wa H1 o1 nx nw g1 B1 Fg=>?_⟩
  refine⟨_,rfl,x,ys.zQ,dx,_,_,rfl,B1,Y.ct,Y.t5,rfl,_,_,rfl,rfl,dx,_,B1,by show 6 < 1000;decide,?_⟩
  have nlx:a.le ≠ x:=ag Bn nx
  have F3:wa ≠ x:=aR Fg B1 (by intro z;cases z)
  have o2:zW [a.le] H (upd H1 x (.ins ys.zQ dx (aK "gone" (.int (t.gone + 1)) (oR t wa)))):=fun b o nb e=>by rw[ae (ag e nx)];exact o1 b o nb e
  have Fc:(upd H1 x (.ins ys.zQ dx (aK "gone" (.int (t.gone + 1)) (oR t wa)))) x=some (.ins ys.zQ dx (oR { t with gone:=t.gone + 1 } wa)):=ac
  have CN:=AE.EF hY Bn o2 (k:=m) (x:=x) (dx:=dx) (wa:=wa) (by rw[ae nlx];exact g1) (t:={ t with gone:=t.gone + 1 }) Fc (by rw[ae F3];exact Fg) nw
  show _
  generalize upd H1 x (.ins ys.zQ dx (aK "gone" (.int (t.gone + 1)) (oR t wa)))=H2 at o2 Fc CN ⊢
  refine⟨_,rfl,a.y,a.dy,_,rfl,CN.ins,rfl,_,rfl,_,rfl,x,ys.zQ,dx,_,_,rfl,Fc,Y.ct,Y.t5,rfl,_,_,rfl,rfl,by show 2 <= sizeLine;decide,fun pt Dg=>?_⟩
  have eg:t.gone + 1 - 1=t.gone:=by omega
  have s3:=(zO.refl H2).new (o := .tup [.int m, .int t.gone]) Dg
  have g3:(upd H2 pt (.tup [.int m, .int t.gone])) pt=some (.tup [.int m, .int t.gone]):=ac
  dsimp only
  rw[eg]
  generalize upd H2 pt (.tup [.int m, .int t.gone])=H3 at s3 g3 ⊢
  have JC:m < st.U.length:=(gQ0 hm)
  refine⟨_,rfl,a,cz st m t,_,m,t.gone,l,{ t with gone:=t.gone + 1 },ln,rfl,zX.same CN s3,⟨pt,rfl,g3⟩,by unfold cz;simp[JC],hl,CP,EW,WA,fun H' o' IH=>?_⟩
  exact q H' ((o2.mono (by simp)).trans ((zO.Aq s3).trans o')) IH
theorem zx (us:List Nat)(i:Nat):hW (nV us) none (some (i:Int))=nV (us.take i):=by
 unfold hW
 have e0:HT.BY (nV us).length 0 none=0:=rfl
 rw[e0,show HT.BY (nV us).length (nV us).length (some (i:Int))=min i (nV us).length from HT.BQ _ _ i,List.drop_zero,sub_zero]
 unfold nV
 rw[map_take,length_map]
 refine List.ext_getElem? fun j=>?_
 simp only[List.getElem?_take,getElem?_map]
 by_cases h1:j < i
 ·by_cases h2:j < us.length
  ·rw[if_pos (by omega),if_pos h1]
  ·rw[if_neg (by omega),if_pos h1,List.getElem?_eq_none (by omega)];rfl
 ·rw[if_neg (by omega),if_neg h1]
theorem wW (us:List Nat)(i:Nat):hW (nV us) (some (i:Int)) (some ((i:Int) + 1))=nV ((us.drop i).take 1):=by
 unfold hW
 rw[show HT.BY (nV us).length 0 (some (i:Int))=min i (nV us).length from HT.BQ _ _ i,show((i:Int) + 1)=((i + 1:Nat):Int) by omega,show HT.BY (nV us).length (nV us).length (some ((i + 1:Nat):Int))=min (i + 1) (nV us).length from HT.BQ _ _ (i + 1),dC]
 by_cases h:i < us.length
 ·rw[min_eq_left (by omega),min_eq_left (by omega),show i + 1 - i=1 by omega]
  unfold nV
  rw[map_take,List.map_drop]
 ·rw[min_eq_right (by omega),min_eq_right (by omega),Nat.sub_self,List.take_zero,List.drop_eq_nil_of_le (by omega)];rfl
theorem pW (us:List Nat):nV us=(iz us).map V.int:=(wK us).symm
theorem uC (k:Nat):∀ us:List Nat,(iz us).idxOf (k:Int)=us.idxOf k
 | []=>rfl
 | u :: us=>by
  have ih:=uC k us
  unfold iz at ih ⊢
  rw[map_cons,List.idxOf_cons,List.idxOf_cons,ih]
  by_cases h:u=k
  ·subst h;simp
  ·have h':((u:Int) == (k:Int))=false:=by simp;omega
   have h2:(u == k)=false:=by simp;exact h
   rw[h',h2]
inductive Mv
 | B3 (k l:Nat) | on (k l:Nat) | By (k:Nat) | back (k:Nat)
noncomputable def fP:Mv->List V
 | .B3 k l=>[.str "in", .int k, .int l]
 | .on k l=>[.str "on", .int k, .int l]
 | .By k=>[.str "lie", .int k]
 | .back k=>[.str "back", .int k]
noncomputable def fS (s:YS)(l:Nat)(m c:Int):Bool:=match s.lanes[l]? with
 | some ln=>ce ln.r ln.h m c
 | none=>false
noncomputable def bL (s:YS)(k:Nat):Option (Int × Int):=match s.lanes[k]? with
 | some ln=>ln.qs.head?
 | none=>none
noncomputable def pP (a:YA)(l g:Nat):List Nat:=if (a.ps.getD l (0,0)).2=(g:Int) then [] else a.wy (a.ps.getD l (0,0)).2.toNat g (some l)
noncomputable def cy (a:YA)(s:YS)(k:Nat):List Nat:=match bL s k with
 | none=>[]
 | some q=>match s.U[q.1.toNat]? with
  | none=>[]
  | some t=>if q.2=0 then (pP a k t.goal.toNat).filter fun l=>!decide (l ∈ t.way) else (t.way.drop (t.way.idxOf k + 1)).take 1
noncomputable def cv (a:YA)(t:aY):List Nat:=if t.gone=0 then a.wy t.start.toNat t.goal.toNat none else t.way.take 1
noncomputable def iq (a:YA)(s:YS)(k:Nat):List Mv:=match s.U[k]? with
 | none=>[]
 | some t=>if t.gone=t.len then [] else ((cv a t).filter fun l=>fS s l k t.gone).map (Mv.B3 k)
noncomputable def iG (a:YA)(s:YS)(k:Nat):List Mv:=match bL s k with
 | none=>[]
 | some q=>((cy a s k).filter fun l=>fS s l q.1 q.2).map (Mv.on k)
noncomputable def fq (a:YA)(s:YS)(k:Nat):List Mv:=match bL s k with
 | none=>[]
 | some q=>match s.U[q.1.toNat]? with
  | none=>[]
  | some t=>if t.goal=(a.ps.getD k (0,0)).2 then [.By k] else []
noncomputable def dD (s:YS)(k:Nat):List Mv:=match s.lanes[k]? with
 | some ln=>if 0 < ln.b then [.back k] else []
 | none=>[]
structure MB (a:YA):Prop where
 ends:∀ (l:Nat)(pr:Int × Int),a.ps[l]? = some pr->∃ e:Nat,pr.2=(e:Int)/\e < a.n
 AN:∀ p g k,(a.wy p g k).length <= 400
structure RG (a:YA)(s:YS):Prop where
 lanes:s.lanes.length=a.ps.length
 lies:s.lies.length=a.n
 lets:∀ (m:Nat)(t:aY),s.U[m]? = some t->∃ x y:Nat,t.start=(x:Int)/\t.goal=(y:Int)/\x < a.n/\y < a.n
 AU:∀ (m:Nat)(t:aY),s.U[m]? = some t->(∀ l ∈ t.way,l < a.ps.length)/\t.way.length <= 1000
 Bh:∀ (k:Nat)(ln:bS),s.lanes[k]? = some ln->∀ q ∈ ln.qs,∃ (m:Nat)(t:aY),q.1=(m:Int)/\s.U[m]? = some t/\k ∈ t.way
 AN:s.U.length <= 60
structure C8 (K:Frag)(c:Cs)(TC:Addr)(J:TJ)(ys:Ys)(H:Hp)(a:YA)(s:YS):Prop where
 Y:AE K ys H a s
 T:xc c TC J H a
 O:MB a
 G:RG a s
theorem C8.same {K:Frag}{c:Cs}{TC fw:Addr}{dw:FuncData}{J:TJ}{ys:Ys}{H H':Hp}{a:YA}{s:YS}(W:Wy K TC fw dw J)(h:C8 K c TC J ys H a s)(e:zO H H'):C8 K c TC J ys H' a s:=⟨zX.same h.Y e,AS.keep W h.T (zO.Ah e),h.O,h.G⟩
abbrev p8 (K:Frag)(c:Cs)(TC:Addr)(J:TJ)(ys:Ys)(f:YA->YS->Nat->List Mv)(len:YS->Nat):Sp:=fun vs H Q _=>∃ (a:YA)(s:YS)(k:Nat),vs=[.ref a.y, .int k]/\C8 K c TC J ys H a s/\k < len s /\
 ∀ (D:Addr)(Aj:List V)(H':Hp),zO H H'->H D=none->H' D=some (.lst Aj)->Paired (Bw H') Aj ((f a s k).map fP)->Q (.ref D) H'
noncomputable def oq (K:Frag)(c:Cs)(TC:Addr)(J:TJ)(ys:Ys):Sp:=p8 K c TC J ys iq (fun s=>s.U.length)
noncomputable def om (K:Frag)(c:Cs)(TC:Addr)(J:TJ)(ys:Ys):Sp:=p8 K c TC J ys iG (fun s=>s.lanes.length)
noncomputable def p9 (K:Frag)(c:Cs)(TC:Addr)(J:TJ)(ys:Ys):Sp:=p8 K c TC J ys fq (fun s=>s.lanes.length)
noncomputable def jh (K:Frag)(c:Cs)(TC:Addr)(J:TJ)(ys:Ys):Sp:=p8 K c TC J ys (fun _ s k=>dD s k) (fun s=>s.lanes.length)
noncomputable def jg (K:Frag)(c:Cs)(TC:Addr)(J:TJ)(ys:Ys):Sp:=fun vs H Q _=>∃ (a:YA)(s:YS)(k:Nat),vs=[.ref a.y, .int k]/\C8 K c TC J ys H a s/\k < s.lanes.length /\
 ∀ (D:Addr)(H':Hp),zO H H'->H D=none->H' D=some (.lst (nV (cy a s k)))->Q (.ref D) H'
noncomputable def xr (c:Cs)(C:Addr)(J:TJ):Sp:=fun vs H Q _=>∃ (a:YA)(l g:Nat),vs=[.ref a.tb, .int l, .int g]/\xc c C J H a/\MB a/\l < a.ps.length/\g < a.n /\
 ∀ (D:Addr)(H':Hp),zO H H'->H D=none->H' D=some (.lst (nV (pP a l g)))->Q (.ref D) H'
theorem lH {K:Frag}{p:Addr}{us:List Nat}{g:TG}{tt:TT}{te:TE}{σ0:St}{H:Hp}{Q:VK}(b:Nat->Bool)(f:Nat->Mv)(hn:us.length < sizeLine)(ha:H p=some (.lst (nV us)))
  (hs:∀ (u:Nat)(H1:Hp)(acc:List V)(N:List V->Hp->Prop),u ∈ us->zO H H1->(b u=true->∀ v H2,zO H1 H2->Bw H2 v (fP (f u))->N (acc ++ [v]) H2)->(b u=false->N acc H1) ->
   g (.int u) σ0 H1 fun σ2 H2=>tt σ2 H2 fun b H3=>if b=true then te σ2 H3 fun y H4=>N (acc ++ [y]) H4 else N acc H3)
  (hq:∀ D vs H1,zO H H1->H1 D=none->Paired (Bw H1) vs (((us.filter b).map f).map fP)->Q (.ref D) (upd H1 D (.lst vs))):du (vj K p) g tt te σ0 Q H:=by
 refine bH us.length hn (fun i acc H'=>zO H H'/\Paired (Bw H') acc ((((us.take i).filter b).map f).map fP)) ⟨zO.refl _, .nil⟩ (fun i acc H' h=>by
   rw[Paired.length h.2,length_map,length_map]
   have h1:=length_filter_le b (us.take i)
   have h2:=length_take_le i us
   omega) (fun i acc H' hi h=>?_) (fun acc H' h=>?_)
 ·obtain⟨s,hL⟩:=h
  have hu:us[i]? = some us[i]:=getElem?_eq_getElem hi
  refine⟨⟨_,_,zU.of (s _ _ ha),l4 hu⟩,fun v H2 y=>?_⟩
  obtain⟨rfl,y⟩:=y
  have hv:=y _ (zU.of (s _ _ ha))
  rw[l4 hu]at hv
  cases hv
  refine hs us[i] H2 acc (fun AL H4=>zO H H4/\Paired (Bw H4) AL ((((us.take (i + 1)).filter b).map f).map fP)) (getElem_mem hi) s (fun hb v H3 s3 hv=>⟨s.trans s3,?_⟩) (fun hb=>⟨s,?_⟩)
  ·rw[take_succ,hu,filter_append]
   have e:(some us[i]).toList.filter b=[us[i]]:=by simp[hb]
   rw[e,map_append,map_append]
   exact Paired.snoc hv (Paired.mono (fun _ _ z=>z.keep (zO.Ah s3)) hL)
  ·rw[take_succ,hu,filter_append]
   have e:(some us[i]).toList.filter b=[]:=by simp[hb]
   rw[e,append_nil]
   exact hL
 ·obtain⟨s,hL⟩:=h
  rw[take_length]at hL
  exact⟨⟨_,zU.of (s _ _ ha),by rw[dC];exact Nat.le_refl _⟩,fun D hD=>hq D acc H' s hD hL⟩
noncomputable def vD (s:Stmt):Scope:=match s with
 | .Return (some (.ListComp _ _ sc _)) _=>sc
 | _=>zQ0
noncomputable def zj (s:Stmt):Scope:=match s with
 | .If _ [s'] _ _=>vD s'
 | _=>zQ0
abbrev WC:List Str:=["self", "number", "letter", "wanted"]
noncomputable abbrev WD:List Str:=["self", "lane", "piece", "letter", "behind"]
abbrev WE:List Str:=["self", "lane", "piece", "wanted"]
theorem II:ao WC ["self", "number"] (ah lT):=L2.Au
theorem RH:Bk WC (ah lT) (vD ((aF lT).getD 3 (.Pass ⟨0,0,0,0⟩))) ["self", "number", "letter"] [0,1,2]:=L2.Cg
theorem RI:(["lane", "self", "number", "letter"]:List Str).Nodup:=by decide +kernel
theorem wn {c:Cs}{ys:Ys}{J:TJ}{TC f fw fo:Addr}{fd dw CM:FuncData}(F:Al K "moves_in" "Yard.moves_in" lT f fd)(Y:iD K ys)(W:Wy K TC fw dw J)(IA:zP P w K mg base aB 3 fw dw ["self", "place", "goal", "came"] (dY J))
  (mo:bu K ys.An "open_to" fo) (bo:Binds K CM ["self", "letter", "count"] []) (Go:zP P w K mg base aB 1 fo CM ["self", "letter", "count"] (kT ys.An)) :
  zP P w K mg base aB 4 f fd ["self", "number"] (oq K c TC J ys):=by
 refine F.ok II (fun _ _ _ _ h=>?_) (fun _ _ _ s H _ Q E hr h=>?_)
 ·obtain⟨a,s,k,rfl,_⟩:=h
  rfl
 ·obtain⟨a,st,k,rfl,hI,hk,q⟩:=h
  have AM:zZ 1 _:=hr.mono (by decide)
  refine⟨_,af (aC (i:=2) II.nd rfl (Or.inr rfl) (ay aT (al (pv 0) rfl) (pv 1) (fun _ _=>rfl)))
   (af (aQ (aw bB (al (pv 2) rfl) (al (pv 2) rfl) (aA _)) (ai (ar (aV ad))) aH)
   (af (aC (i:=3) II.nd rfl (Or.inl rfl) (ls (c9 (aw bB (al (pv 2) rfl) aj (aA _)) (aD (al (pv 0) rfl) W.cl W.m IA hr W.b .nil ap (aa (al (pv 2) rfl) (aa (al (pv 2) rfl) (aa cu ad)))) (gR iL (al (pv 2) rfl) lq (gQ aj)))))
   (ai (ar (bv (own:=["lane"]) (capN:=["self", "number", "letter"]) (cap:=[0,1,2]) RH rfl (bT (pv 3)) (fun C s' H' fp=>⟨ax (i:=0) RI rfl (Or.inl rfl),cf (bJ (aD (ay (show nH _ (tK K) from aT) (show PE _ _ (rS K (q5 1) "lanes") from al (pv 1) rfl) (pv 0) (fun _ _=>rfl)) Y.L.cl mo Go AM bo .nil ap (aa (pv 2) (aa (show PE _ _ (rS K (q5 3) "gone") from al (pv 3) rfl) ad)))),bK (aa b0 (aa (pv 2) (aa (pv 0) ad)))⟩)))))),?_⟩
  have hY:=hI.Y
  obtain⟨Aa,Bn,pl⟩:=hY.hle
  obtain⟨t,ht⟩:∃ t,st.U[k]? = some t:=⟨_,getElem?_eq_getElem hk⟩
  obtain⟨v,hv,x,dx,wa,rfl,hx,hw,_⟩:=Paired.at2 pl ht
  obtain⟨x0,y0,e1,e2,Pj,JD⟩:=hI.G.lets k t ht
  obtain⟨EW,hw9⟩:=hI.G.AU k t ht
  unfold iq at q
  rw[ht]at q
  refine⟨_,rfl,a.y,ys.zR,a.dy,_,_,rfl,hY.ins,Y.cl,Y.n4,rfl,_,rfl,a.le,Aa,(k:Int),_,rfl,rfl,zU.of Bn,ak hv,?_⟩
  refine⟨_,rfl,x,ys.zQ,dx,_,_,rfl,hx,Y.ct,Y.t5,rfl,_,rfl,x,ys.zQ,dx,_,_,rfl,hx,Y.ct,Y.t3,rfl,rfl,_,rfl,?_⟩
  rw[bN]
  by_cases hg:t.gone=t.len
  ·rw[decide_eq_true hg]
   dsimp only at q
   rw[if_pos hg]at q
   exact aJ ⟨zero_le _,fun D hD=>q D [] _ ((zO.refl H).new hD) hD ac .nil⟩
  rw[decide_eq_false hg]
  dsimp only at q
  rw[if_neg hg]at q
  refine aI ⟨fun v H1=>∃ D,v = .ref D/\zO H H1/\H1 D=some (.lst (nV (cv a t))),?_,?_⟩
  ·refine⟨_,rfl,x,ys.zQ,dx,_,_,rfl,hx,Y.ct,Y.t5,rfl,rfl,_,rfl,?_⟩
   rw[bN]
   unfold cv
   by_cases h0:t.gone=0
   ·rw[decide_eq_true h0,if_pos h0]
    obtain⟨Ca,fst,BF,As,Bi⟩:=hI.T.i
    refine aJ ⟨_,rfl,a.y,ys.zR,a.dy,_,_,rfl,hY.ins,Y.cl,Y.n1,rfl,a.tb,Ca,fst,rfl,BF,Bi,_,rfl,x,ys.zQ,dx,_,_,rfl,hx,Y.ct,Y.t1,rfl,_,rfl,x,ys.zQ,dx,_,_,rfl,hx,Y.ct,Y.t2,rfl,?_⟩
    rw[e1,e2,toNat_natCast,toNat_natCast]
    exact⟨a.tb,a.n,a.wy,x0,y0,none,rfl,hI.T.j,Pj,JD,fun D H1 s1 hD gD=>⟨D,rfl,s1,gD⟩⟩
   ·rw[decide_eq_false h0,if_neg h0]
    refine aI ⟨_,rfl,x,ys.zQ,dx,_,_,rfl,hx,Y.ct,Y.t6,rfl,_,rfl,wa,_,rfl,zU.of hw,fun D hD=>⟨D,rfl,(zO.refl H).new hD,?_⟩⟩
    rw[ac,show((1:Int))=((1:Nat):Int) from rfl,zx]
  rintro v H1 ⟨D,rfl,s1,gD⟩
  have D6:=hI.same W s1
  have Bs:=D6.Y
  have B1:=s1 _ _ hx
  obtain⟨Ad,AJ,En⟩:=Bs.AW
  have VQ:(cv a t).length <= 1000:=by
   unfold cv
   by_cases h0:t.gone=0
   ·rw[if_pos h0];exact le_trans (hI.O.AN _ _ _) (by decide)
   ·rw[if_neg h0];rw[length_take];omega
  have IJ:∀ u ∈ cv a t,u < a.ps.length:=fun u hu=>by
   unfold cv at hu
   by_cases h0:t.gone=0
   ·rw[if_pos h0,e1,e2,toNat_natCast,toNat_natCast]at hu;exact hI.T.ok _ _ _ Pj JD u hu
   ·rw[if_neg h0]at hu;exact EW u (mem_of_mem_take hu)
  refine⟨_,rfl,D,rfl,⟨_,zU.of gD⟩,?_⟩
  refine lH (fun l=>fS st l k t.gone) (Mv.B3 k) (by rw[sizeLine_eq];omega) gD (fun u H2 acc N hu s2 F9 GG=>?_) (fun D2 IK H2 s2 BU hp=>?_)
  ·have BV:=D6.same W s2
   obtain⟨IL,IM,IP⟩:=BV.Y.AW
   have RJ:u < st.lanes.length:=by rw[hI.G.lanes];exact IJ u hu
   obtain⟨ln,Ar⟩:∃ ln,st.lanes[u]? = some ln:=⟨_,getElem?_eq_getElem RJ⟩
   obtain⟨vl,FA,xl,BL,Hz,IQ,rfl,hL,_⟩:=Paired.at2 IP Ar
   refine⟨_,rfl,a.y,ys.zR,a.dy,_,_,rfl,BV.Y.ins,Y.cl,Y.n3,rfl,_,rfl,a.la,IL,(u:Int),_,rfl,rfl,zU.of IM,ak FA,xl,BL,_,rfl,hL.ins,rfl,_,rfl,_,rfl,x,ys.zQ,dx,_,_,rfl,s2 _ _ B1,Y.ct,Y.t5,rfl,xl,BL,Hz,ln.r,ln.b,ln.h,(k:Int),t.gone,rfl,hL.ins,_,rfl,?_⟩
   have eo:fS st u k t.gone=ce ln.r ln.h k t.gone:=by unfold fS;rw[Ar]
   cases ho:ce ln.r ln.h k t.gone with
   | false=>exact aI (GG (by rw[eo,ho]))
   | true=>exact aJ ⟨_,rfl,_,rfl,by show 3 <= sizeLine;decide,fun z hz=>F9 (by rw[eo,ho]) _ _ ((zO.refl H2).new hz) ⟨z,rfl,ac⟩⟩
  ·exact q D2 IK _ ((s1.trans s2).new BU) (s1.free (s2.free BU)) ac (Paired.mono (fun _ _ z=>z.keep (zO.Ah ((zO.refl H2).new BU))) hp)
theorem j9 {H:Hp}{Am:List V}{qs:List (Int × Int)}(h:Ak H Am qs):(qs.head? = none/\oZ Am = .Af)∨∃ q pt,qs.head? = some q/\oZ Am = .ref pt/\H pt=some (.tup [.int q.1, .int q.2]):=by
 cases h with
 | nil=>exact .inl ⟨rfl,rfl⟩
 | cons x r=>obtain⟨t,rfl,ht⟩:=x;exact .inr ⟨_,t,rfl,rfl,ht⟩
theorem MC:ao ["table", "lane", "goal", "end"] ["table", "lane", "goal"] (ah Rf):=L2.Au
theorem yL {c:Cs}{J:TJ}{C f fw fe:Addr}{fd dw de:FuncData}(F:Al K "onward" "onward" Rf f fd)(L:kL K c)(W:Wy K C fw dw J)(Gw:zP P w K mg base aB 3 fw dw ["self", "place", "goal", "came"] (dY J))
  (M:xj K c fe de) (Ge:zP P w K mg base aB 1 fe de ["self", "lane"] (ot c Prod.snd)):zP P w K mg base aB 4 f fd ["table", "lane", "goal"] (xr c C J):=by
 refine F.ok MC (fun _ _ _ _ h=>?_) (fun _ _ _ s H _ Q E hr h=>?_)
 ·obtain⟨a,l,g,rfl,_⟩:=h
  rfl
 ·obtain⟨a,l,g,rfl,hT,hO,hl,hg,q⟩:=h
  have AM:zZ 1 _:=hr.mono (by decide)
  refine⟨_,af (aC (i:=3) MC.nd rfl (Or.inl rfl) (aD (al (pv 0) rfl) L.cl M.m Ge AM M.b .nil ap (aa (pv 1) ad)))
   (ai (ar (c9 (aw bB (pv 3) (pv 2) (aA _)) (aV ad) (aD (pv 0) W.cl W.m Gw hr W.b .nil ap (aa (pv 3) (aa (pv 2) (aa (pv 1) ad))))))),?_⟩
  obtain⟨dx,fs,hx,hf,HA⟩:=hT.i
  have he:=getElem?_eq_getElem hl
  have HB:a.ps.getD l (0,0)=a.ps[l]:=by rw[getD_eq_getElem?_getD,he];rfl
  unfold pP at q
  rw[HB]at q
  obtain⟨e,ee,MD⟩:=hO.ends l _ he
  refine⟨_,rfl,a.tb,C,dx,fs,_,rfl,hx,W.cl,W.nl,hf,a.lx,a.Ao,_,rfl,hT.l.1,rfl,_,rfl,a.lx,a.Ao,a.lt,(a.n:Int),a.Aa,a.ps,l,_,rfl,hT.l,he,?_⟩
  rw[ee]at q ⊢
  rw[toNat_natCast]at q
  refine⟨_,rfl,_,rfl,rfl,_,rfl,?_⟩
  rw[bN]
  by_cases h1:(e:Int)=(g:Int)
  ·rw[decide_eq_true h1]
   rw[if_pos h1]at q
   exact aJ ⟨zero_le _,fun D hD=>q D _ ((zO.refl H).new hD) hD ac⟩
  ·rw[decide_eq_false h1]
   rw[if_neg h1]at q
   exact aI ⟨_,rfl,a.tb,dx,fs,rfl,hx,HA,_,rfl,_,rfl,_,rfl,a.tb,a.n,a.wy,e,g,some l,rfl,hT.j,MD,hg,fun D H' s' hD gD=>q D _ s' hD gD⟩
theorem FC:ao WD ["self", "lane"] (ah gE):=L2.Au
theorem RK:Bk WD (ah gE) (zj ((aF gE).getD 3 (.Pass ⟨0,0,0,0⟩))) ["letter"] [3]:=L2.Cg
theorem RL:(["way", "letter"]:List Str).Nodup:=by decide +kernel
theorem qP {c:Cs}{ys:Ys}{J:TJ}{TC f fw ff fo:Addr}{fd dw df CM:FuncData}(F:Al K "wanted" "Yard.wanted" gE f fd)(Y:iD K ys)(W:Wy K TC fw dw J)
  (mf:bu K ys.An "front" ff) (bf:Binds K df ["self"] []) (Gf:zP P w K mg base aB 1 ff df ["self"] (iK ys.An))
  (mo:mg "onward" = some (.ref fo)) (ko:keepIn K (.ref fo)=true) (bo:Binds K CM ["table", "lane", "goal"] []) (Go:zP P w K mg base aB 4 fo CM ["table", "lane", "goal"] (xr c TC J)) :
  zP P w K mg base aB 5 f fd ["self", "lane"] (jg K c TC J ys):=by
 refine F.ok FC (fun _ _ _ _ h=>?_) (fun _ _ _ s H _ Q E hr h=>?_)
 ·obtain⟨a,s,k,rfl,_⟩:=h
  rfl
 ·obtain⟨a,st,k,rfl,hI,hk,q⟩:=h
  have AM:zZ 1 _:=hr.mono (by decide)
  refine⟨_,af (aC (i:=2) FC.nd rfl (Or.inl rfl) (bA (ay aT (al (pv 0) rfl) (pv 1) (fun _ _=>rfl)) Y.L.cl mf Gf AM bf .nil ap))
   (af (aQ (aw lz (pv 2) cu (aA _)) (ai (ar (aV ad))) aH)
   (af (aC (i:=3) FC.nd rfl (Or.inr rfl) (ay aT (al (pv 0) rfl) (ay aE (pv 2) aj (fun _ _=>rfl)) (fun _ _=>rfl)))
   (af (aQ (aw bB (ay aE (pv 2) aj (fun _ _=>rfl)) aj (aA _))
    (ai (ar (bv (own:=["way"]) (capN:=["letter"]) (cap:=[3]) RK rfl (bT (au Go hr rfl mo ko bo .nil ap (aa (al (pv 0) rfl) (aa (pv 1) (aa (al (pv 3) rfl) ad))))) (fun C s' H' fp=>⟨ax (i:=0) RL rfl (Or.inl rfl),cf (aw (show eP _ (compareOp .NotIn) (Q4 K true) from ly) (pv 0) (show PE _ _ (rS K (q5 1) "way") from al (pv 1) rfl) (by with_unfolding_all rfl)),pv 0⟩)))) aH)
   (af (aC (i:=4) FC.nd rfl (Or.inl rfl) (az bP (cp plainAttrs_list PySem.F.slot_list_index PySem.F.type_list_index qW (al (pv 3) rfl) (aa (pv 1) ad)) aj))
   (ai (ar (gR iL (al (pv 3) rfl) (gQ (pv 4)) (gQ (az bP (pv 4) aj))))))))),?_⟩
  have hY:=hI.Y
  obtain⟨Ad,AJ,En⟩:=hY.AW
  obtain⟨ln,Ar⟩:∃ ln,st.lanes[k]? = some ln:=⟨_,getElem?_eq_getElem hk⟩
  obtain⟨vl,FA,xl,BL,Hz,IQ,rfl,hL,_⟩:=Paired.at2 En Ar
  refine⟨_,rfl,a.y,ys.zR,a.dy,_,_,rfl,hY.ins,Y.cl,Y.n3,rfl,_,rfl,a.la,Ad,(k:Int),_,rfl,rfl,zU.of AJ,ak FA,xl,BL,_,rfl,hL.ins,rfl,xl,BL,Hz,ln.r,ln.b,ln.h,IQ,ln.qs,rfl,hL,?_⟩
  unfold cy bL at q
  rw[Ar]at q
  dsimp only at q
  rcases j9 hL.Bh with ⟨hf,ef⟩ | ⟨pq,pt,hf,ef,Dg⟩
  ·rw[hf]at q
   rw[ef]
   exact⟨_,rfl,rfl,_,rfl,aJ ⟨zero_le _,fun D hD=>q D _ ((zO.refl H).new hD) hD ac⟩⟩
  rw[hf]at q
  rw[ef]
  have hqm:pq ∈ ln.qs:=mem_of_head? hf
  obtain⟨m,t,em,hm,FD⟩:=hI.G.Bh k ln Ar pq hqm
  obtain⟨x0,y0,e1,e2,Pj,JD⟩:=hI.G.lets m t hm
  obtain⟨EW,hw9⟩:=hI.G.AU m t hm
  rw[em]at Dg
  dsimp only at q
  rw[em,toNat_natCast,hm]at q
  dsimp only at q
  refine⟨_,rfl,rfl,_,rfl,aI ?_⟩
  obtain⟨Aa,Bn,pl⟩:=hY.hle
  obtain⟨v,hv,x,dx,wa,rfl,hx,hw,_⟩:=Paired.at2 pl hm
  refine⟨_,rfl,a.y,ys.zR,a.dy,_,_,rfl,hY.ins,Y.cl,Y.n4,rfl,_,rfl,pt,_,0,_,rfl,rfl,Ab.of Dg,ak (j:=0) rfl,a.le,Aa,(m:Int),_,rfl,rfl,zU.of Bn,ak hv,?_⟩
  refine⟨_,rfl,pt,_,1,_,rfl,rfl,Ab.of Dg,ak (j:=1) rfl,rfl,_,rfl,?_⟩
  rw[bN]
  by_cases h0:pq.2=0
  ·rw[decide_eq_true h0]
   rw[if_pos h0,e2,toNat_natCast]at q
   refine aJ ⟨_,rfl,a.y,ys.zR,a.dy,_,_,rfl,hY.ins,Y.cl,Y.n1,rfl,_,rfl,_,rfl,x,ys.zQ,dx,_,_,rfl,hx,Y.ct,Y.t2,rfl,?_⟩
   rw[e2]
   refine⟨a,k,y0,rfl,hI.T,hI.O,by rw[← hI.G.lanes];exact hk,JD,fun D H1 s1 hD gD=>⟨D,rfl,⟨_,zU.of gD⟩,?_⟩⟩
   have Ii:(pP a k y0).length <= 400:=by
    unfold pP
    by_cases z:(a.ps.getD k (0,0)).2=(y0:Int)
    ·rw[if_pos z];exact zero_le _
    ·rw[if_neg z];exact hI.O.AN _ _ _
   refine fE (fun v=>match v with | .int i=>!decide (i ∈ iz t.way) | _=>false) (fun v=>v) (by rw[dC,sizeLine_eq];omega) (zU.of gD) (fun y acc N hy h=>?_) (fun D2 BU=>?_)
   ·obtain⟨u,hu,rfl⟩:=uu hy
    refine⟨_,rfl,_,rfl,x,ys.zQ,dx,_,_,rfl,s1 _ _ hx,Y.ct,Y.t6,rfl,wa,_,rfl, .inl (zU.of (s1 _ _ hw)),rfl,by rw[pW];exact i3 _,_,rfl,?_⟩
    rw[pW,lA]
    have h:N (if (!decide ((u:Int) ∈ iz t.way))=true then acc ++ [V.int u] else acc) H1:=h
    cases hb:decide ((u:Int) ∈ iz t.way) with
    | true =>
     rw[hb]at h
     exact aI h
    | false =>
     rw[hb]at h
     exact aJ ⟨_,rfl,h⟩
   ·have e:((nV (pP a k y0)).filter (fun v=>match v with | .int i=>!decide (i ∈ iz t.way) | _=>false)).map (fun v=>v)=nV ((pP a k y0).filter fun l=>!decide (l ∈ t.way)):=by
     rw[List.map_id']
     unfold nV
     rw[List.filter_map]
     congr 1
     refine filter_congr fun u _=>?_
     show(!decide ((u:Int) ∈ iz t.way))=_
     rw[oV]
    rw[e]
    exact q D2 _ (s1.new BU) (s1.free BU) ac
  ·rw[decide_eq_false h0]
   rw[if_neg h0]at q
   refine aI ⟨_,rfl,x,ys.zQ,dx,_,_,rfl,hx,Y.ct,Y.t6,rfl, .inl ⟨rfl,_,zU.of hw⟩,_,rfl,wa,iz t.way,(k:Int),rfl,rfl,by rw[← pW];exact hw,Bf.mpr ⟨k,FD,rfl⟩,by unfold iz;rw[length_map];omega,_,_,rfl,rfl,?_⟩
   rw[uC]
   refine⟨_,rfl,x,ys.zQ,dx,_,_,rfl,hx,Y.ct,Y.t6,rfl,_,rfl,_,rfl,_,rfl,_,_,rfl,rfl,_,rfl,wa,_,rfl,zU.of hw,fun D hD=>?_⟩
   have e:hW (nV t.way) (some (((t.way.idxOf k:Nat):Int) + 1)) (some (((t.way.idxOf k:Nat):Int) + 1 + 1))=nV ((t.way.drop (t.way.idxOf k + 1)).take 1):=by
    have:=wW t.way (t.way.idxOf k + 1)
    rw[← this]
    rfl
   dsimp only
   rw[e]
   exact q D _ ((zO.refl H).new hD) hD ac
theorem IS:ao WE ["self", "lane"] (ah lS):=L2.Au
theorem RM:Bk WE (ah lS) (vD ((aF lS).getD 2 (.Pass ⟨0,0,0,0⟩))) ["self", "lane", "piece"] [0,1,2]:=L2.Cg
theorem RN:(["other", "self", "lane", "piece"]:List Str).Nodup:=by decide +kernel
theorem wm {c:Cs}{ys:Ys}{J:TJ}{TC f fw ff fa fo:Addr}{fd dw df da CM:FuncData}(F:Al K "moves_on" "Yard.moves_on" lS f fd)(Y:iD K ys)(W:Wy K TC fw dw J)
  (mf:bu K ys.An "front" ff) (bf:Binds K df ["self"] []) (Gf:zP P w K mg base aB 1 ff df ["self"] (iK ys.An))
  (ma:bu K ys.zR "wanted" fa) (ba:Binds K da ["self", "lane"] []) (Ga:zP P w K mg base aB 5 fa da ["self", "lane"] (jg K c TC J ys))
  (mo:bu K ys.An "open_to" fo) (bo:Binds K CM ["self", "letter", "count"] []) (Go:zP P w K mg base aB 1 fo CM ["self", "letter", "count"] (kT ys.An)) :
  zP P w K mg base aB 6 f fd ["self", "lane"] (om K c TC J ys):=by
 refine F.ok IS (fun _ _ _ _ h=>?_) (fun _ _ _ s H _ Q E hr h=>?_)
 ·obtain⟨a,s,k,rfl,_⟩:=h
  rfl
 ·obtain⟨a,st,k,rfl,hI,hk,q⟩:=h
  have AM:zZ 1 _:=hr.mono (by decide)
  refine⟨_,af (aC (i:=2) IS.nd rfl (Or.inr rfl) (bA (ay aT (al (pv 0) rfl) (pv 1) (fun _ _=>rfl)) Y.L.cl mf Gf AM bf .nil ap))
   (af (aC (i:=3) IS.nd rfl (Or.inl rfl) (aD (pv 0) Y.cl ma Ga hr ba .nil ap (aa (pv 1) ad)))
   (ai (ar (bv (own:=["other"]) (capN:=["self", "lane", "piece"]) (cap:=[0,1,2]) RM rfl (bT (pv 3)) (fun C s' H' fp=>⟨ax (i:=0) RN rfl (Or.inl rfl),cf (bJ (aD (ay (show nH _ (tK K) from aT) (show PE _ _ (rS K (q5 1) "lanes") from al (pv 1) rfl) (pv 0) (fun _ _=>rfl)) Y.L.cl mo Go AM bo .nil ap (aa (ay (show nH _ (js K) from aE) (pv 3) aj (fun _ _=>rfl)) (aa (ay (show nH _ (js K) from aE) (pv 3) aj (fun _ _=>rfl)) ad)))),bK (aa b0 (aa (pv 2) (aa (pv 0) ad)))⟩))))),?_⟩
  have hY:=hI.Y
  obtain⟨Ad,AJ,En⟩:=hY.AW
  obtain⟨ln,Ar⟩:∃ ln,st.lanes[k]? = some ln:=⟨_,getElem?_eq_getElem hk⟩
  obtain⟨vl,FA,xl,BL,Hz,IQ,rfl,hL,_⟩:=Paired.at2 En Ar
  refine⟨_,rfl,a.y,ys.zR,a.dy,_,_,rfl,hY.ins,Y.cl,Y.n3,rfl,_,rfl,a.la,Ad,(k:Int),_,rfl,rfl,zU.of AJ,ak FA,xl,BL,_,rfl,hL.ins,rfl,xl,BL,Hz,ln.r,ln.b,ln.h,IQ,ln.qs,rfl,hL,?_⟩
  refine⟨_,rfl,a.y,a.dy,_,rfl,hY.ins,rfl,_,rfl,a,st,k,rfl,hI,hk,fun D H1 s1 hD gD=>?_⟩
  refine⟨_,rfl,D,rfl,⟨_,zU.of gD⟩,?_⟩
  have D6:=hI.same W s1
  have eF:bL st k=ln.qs.head?:=by unfold bL;rw[Ar]
  have IJ:∀ u ∈ cy a st k,u < a.ps.length:=fun u hu=>by
   unfold cy at hu
   rw[eF]at hu
   cases hq:ln.qs.head? with
   | none=>rw[hq]at hu;cases hu
   | some pq =>
    rw[hq]at hu
    obtain⟨m,t,em,hm,FD⟩:=hI.G.Bh k ln Ar pq (mem_of_head? hq)
    obtain⟨x0,y0,e1,e2,Pj,JD⟩:=hI.G.lets m t hm
    dsimp only at hu
    rw[em,toNat_natCast,hm]at hu
    dsimp only at hu
    by_cases h0:pq.2=0
    ·rw[if_pos h0,e2,toNat_natCast]at hu
     have hu:=(mem_filter.mp hu).1
     unfold pP at hu
     by_cases z:(a.ps.getD k (0,0)).2=(y0:Int)
     ·rw[if_pos z]at hu;cases hu
     ·rw[if_neg z]at hu
      have JE:k < a.ps.length:=by rw[← hI.G.lanes];exact hk
      obtain⟨e,ee,MD⟩:=hI.O.ends k _ (getElem?_eq_getElem JE)
      have HB:a.ps.getD k (0,0)=a.ps[k]:=by rw[getD_eq_getElem?_getD,getElem?_eq_getElem JE];rfl
      rw[HB,ee,toNat_natCast]at hu
      exact hI.T.ok _ _ _ MD JD u hu
    ·rw[if_neg h0]at hu
     exact(hI.G.AU m t hm).1 u (List.mem_of_mem_drop (mem_of_mem_take hu))
  have EW:(cy a st k).length <= 1000:=by
   unfold cy
   cases bL st k with
   | none=>exact zero_le _
   | some pq =>
    dsimp only
    cases st.U[pq.1.toNat]? with
    | none=>exact zero_le _
    | some t =>
     dsimp only
     by_cases h0:pq.2=0
     ·rw[if_pos h0]
      refine le_trans (length_filter_le _ _) ?_
      unfold pP
      by_cases z:(a.ps.getD k (0,0)).2=((t.goal.toNat:Nat):Int)
      ·rw[if_pos z];exact zero_le _
      ·rw[if_neg z];exact le_trans (hI.O.AN _ _ _) (by decide)
     ·rw[if_neg h0,length_take];omega
  unfold iG at q
  rw[eF]at q
  rcases j9 hL.Bh with ⟨hf,ef⟩ | ⟨pq,pt,hf,ef,Dg⟩
  ·have e0:cy a st k=[]:=by unfold cy;rw[eF,hf]
   rw[hf]at q
   rw[e0]at gD
   refine lH (fun l=>false) (Mv.on k) (by rw[sizeLine_eq];decide) gD (fun u H2 acc N hu s2 F9 GG=>by cases hu) (fun D2 IK H2 s2 BU hp=>?_)
   exact q D2 IK _ ((s1.trans s2).new BU) (s1.free (s2.free BU)) ac (Paired.mono (fun _ _ z=>z.keep (zO.Ah ((zO.refl H2).new BU))) hp)
  rw[hf]at q
  dsimp only at q
  rw[ef]
  refine lH (fun l=>fS st l pq.1 pq.2) (Mv.on k) (by rw[sizeLine_eq];omega) gD (fun u H2 acc N hu s2 F9 GG=>?_) (fun D2 IK H2 s2 BU hp=>?_)
  ·have BV:=D6.same W s2
   obtain⟨IL,IM,IP⟩:=BV.Y.AW
   have RJ:u < st.lanes.length:=by rw[hI.G.lanes];exact IJ u hu
   obtain⟨AF,Bq⟩:∃ ln,st.lanes[u]? = some ln:=⟨_,getElem?_eq_getElem RJ⟩
   obtain⟨vu,hvu,xu,WH,pau,pvu,rfl,WI,_⟩:=Paired.at2 IP Bq
   have EG:=s2 _ _ (s1 _ _ Dg)
   refine⟨_,rfl,a.y,ys.zR,a.dy,_,_,rfl,BV.Y.ins,Y.cl,Y.n3,rfl,_,rfl,a.la,IL,(u:Int),_,rfl,rfl,zU.of IM,ak hvu,xu,WH,_,rfl,WI.ins,rfl,_,rfl,pt,_,0,_,rfl,rfl,Ab.of EG,ak (j:=0) rfl,_,rfl,pt,_,1,_,rfl,rfl,Ab.of EG,ak (j:=1) rfl,xu,WH,pau,AF.r,AF.b,AF.h,pq.1,pq.2,rfl,WI.ins,_,rfl,?_⟩
   have eo:fS st u pq.1 pq.2=ce AF.r AF.h pq.1 pq.2:=by unfold fS;rw[Bq]
   cases ho:ce AF.r AF.h pq.1 pq.2 with
   | false=>exact aI (GG (by rw[eo,ho]))
   | true=>exact aJ ⟨_,rfl,_,rfl,by show 3 <= sizeLine;decide,fun z hz=>F9 (by rw[eo,ho]) _ _ ((zO.refl H2).new hz) ⟨z,rfl,ac⟩⟩
  ·exact q D2 IK _ ((s1.trans s2).new BU) (s1.free (s2.free BU)) ac (Paired.mono (fun _ _ z=>z.keep (zO.Ah ((zO.refl H2).new BU))) hp)
theorem MF:ao ["self", "lane", "piece"] ["self", "lane"] (ah oy):=L2.Au
theorem uf {c:Cs}{ys:Ys}{J:TJ}{TC f fw ff fe:Addr}{fd dw df de:FuncData}(F:Al K "moves_lie" "Yard.moves_lie" oy f fd)(Y:iD K ys)(L:kL K c)(W:Wy K TC fw dw J)
  (mf:bu K ys.An "front" ff) (bf:Binds K df ["self"] []) (Gf:zP P w K mg base aB 1 ff df ["self"] (iK ys.An)) (M:xj K c fe de) (Ge:zP P w K mg base aB 1 fe de ["self", "lane"] (ot c Prod.snd)) :
  zP P w K mg base aB 2 f fd ["self", "lane"] (p9 K c TC J ys):=by
 refine F.ok MF (fun _ _ _ _ h=>?_) (fun _ _ _ s H _ Q E hr h=>?_)
 ·obtain⟨a,s,k,rfl,_⟩:=h
  rfl
 ·obtain⟨a,st,k,rfl,hI,hk,q⟩:=h
  refine⟨_,af (aC (i:=2) MF.nd rfl (Or.inl rfl) (bA (ay aT (al (pv 0) rfl) (pv 1) (fun _ _=>rfl)) Y.L.cl mf Gf hr bf .nil ap))
   (af (aQ (PW.pt (gL (aw lz (pv 2) cu (aA _)) (dZ (aw jw (al (ay aT (al (pv 0) rfl) (ay aE (pv 2) aj (fun _ _=>rfl)) (fun _ _=>rfl)) rfl) (aD (al (al (pv 0) rfl) rfl) L.cl M.m Ge hr M.b .nil ap (aa (pv 1) ad)) (aA _))))) (ai (ar (aV ad))) aH)
   (ai (ar (aV (aa (bK (aa b0 (aa (pv 1) ad))) ad))))),?_⟩
  have hY:=hI.Y
  obtain⟨Ad,AJ,En⟩:=hY.AW
  obtain⟨ln,Ar⟩:∃ ln,st.lanes[k]? = some ln:=⟨_,getElem?_eq_getElem hk⟩
  obtain⟨vl,FA,xl,BL,Hz,IQ,rfl,hL,_⟩:=Paired.at2 En Ar
  refine⟨_,rfl,a.y,ys.zR,a.dy,_,_,rfl,hY.ins,Y.cl,Y.n3,rfl,_,rfl,a.la,Ad,(k:Int),_,rfl,rfl,zU.of AJ,ak FA,xl,BL,_,rfl,hL.ins,rfl,xl,BL,Hz,ln.r,ln.b,ln.h,IQ,ln.qs,rfl,hL,?_⟩
  have eF:bL st k=ln.qs.head?:=by unfold bL;rw[Ar]
  unfold fq at q
  rw[eF]at q
  rcases j9 hL.Bh with ⟨hf,ef⟩ | ⟨pq,pt,hf,ef,Dg⟩
  ·rw[hf]at q
   rw[ef]
   exact⟨_,rfl,rfl,_,rfl,aJ (aJ ⟨zero_le _,fun D hD=>q D [] _ ((zO.refl H).new hD) hD ac .nil⟩)⟩
  rw[hf]at q
  rw[ef]
  obtain⟨m,t,em,hm,FD⟩:=hI.G.Bh k ln Ar pq (mem_of_head? hf)
  rw[em]at Dg
  dsimp only at q
  rw[em,toNat_natCast,hm]at q
  dsimp only at q
  obtain⟨Aa,Bn,pl⟩:=hY.hle
  obtain⟨v,hv,x,dx,wa,rfl,hx,hw,_⟩:=Paired.at2 pl hm
  obtain⟨Ca,fst,BF,As,Bi⟩:=hI.T.i
  have JE:k < a.ps.length:=by rw[← hI.G.lanes];exact hk
  have he:=getElem?_eq_getElem JE
  have HB:a.ps.getD k (0,0)=a.ps[k]:=by rw[getD_eq_getElem?_getD,he];rfl
  rw[HB]at q
  refine⟨_,rfl,rfl,_,rfl,aI ⟨_,rfl,a.y,ys.zR,a.dy,_,_,rfl,hY.ins,Y.cl,Y.n4,rfl,_,rfl,pt,_,0,_,rfl,rfl,Ab.of Dg,ak (j:=0) rfl,a.le,Aa,(m:Int),_,rfl,rfl,zU.of Bn,ak hv,x,ys.zQ,dx,_,_,rfl,hx,Y.ct,Y.t2,rfl,_,rfl,a.y,ys.zR,a.dy,_,_,rfl,hY.ins,Y.cl,Y.n1,rfl,a.tb,TC,Ca,fst,_,rfl,BF,W.cl,W.nl,As,a.lx,a.Ao,_,rfl,hI.T.l.1,rfl,_,rfl,a.lx,a.Ao,a.lt,(a.n:Int),a.Aa,a.ps,k,_,rfl,hI.T.l,he,rfl,_,rfl,?_⟩⟩
  rw[bN]
  by_cases hg:t.goal=a.ps[k].2
  ·rw[decide_eq_true hg]
   rw[if_pos hg]at q
   refine aI ⟨_,rfl,by show 2 <= sizeLine;decide,fun z hz=>⟨by show 1 <= sizeLine;decide,fun D hD=>?_⟩⟩
   have s2:=(zO.refl H).new (o := .tup [.str "lie", .int k]) hz
   have gz:(upd H z (.tup [.str "lie", .int k])) z=some (.tup [.str "lie", .int k]):=ac
   exact q D [.ref z] _ (s2.new hD) (s2.free hD) ac (.cons ⟨z,rfl,by rw[ae (ag gz hD)];exact gz⟩ .nil)
  ·rw[decide_eq_false hg]
   rw[if_neg hg]at q
   exact aJ ⟨zero_le _,fun D hD=>q D [] _ ((zO.refl H).new hD) hD ac .nil⟩
theorem RO:ao ["self", "lane"] ["self", "lane"] (ah lf):=L2.Au
theorem qR {c:Cs}{ys:Ys}{J:TJ}{TC f:Addr}{fd:FuncData}(F:Al K "moves_back" "Yard.moves_back" lf f fd)(Y:iD K ys):zP P w K mg base aB 1 f fd ["self", "lane"] (jh K c TC J ys):=by
 refine F.ok RO (fun _ _ _ _ h=>?_) (fun _ _ _ s H _ Q E hr h=>?_)
 ·obtain⟨a,s,k,rfl,_⟩:=h
  rfl
 ·obtain⟨a,st,k,rfl,hI,hk,q⟩:=h
  refine⟨_,ai (ar (c9 (aw tX (al (ay aT (al (pv 0) rfl) (pv 1) (fun _ _=>rfl)) rfl) aj (aA _)) (aV (aa (bK (aa b0 (aa (pv 1) ad))) ad)) (aV ad))),?_⟩
  have hY:=hI.Y
  obtain⟨Ad,AJ,En⟩:=hY.AW
  obtain⟨ln,Ar⟩:∃ ln,st.lanes[k]? = some ln:=⟨_,getElem?_eq_getElem hk⟩
  obtain⟨vl,FA,xl,BL,Hz,IQ,rfl,hL,_⟩:=Paired.at2 En Ar
  unfold dD at q
  dsimp only at q
  rw[Ar]at q
  dsimp only at q
  refine⟨_,rfl,a.y,ys.zR,a.dy,_,_,rfl,hY.ins,Y.cl,Y.n3,rfl,_,rfl,a.la,Ad,(k:Int),_,rfl,rfl,zU.of AJ,ak FA,xl,ys.An,BL,_,_,rfl,hL.ins,Y.L.cl,Y.L.n2,rfl,_,_,rfl,rfl,_,rfl,?_⟩
  by_cases hb:0 < ln.b
  ·rw[decide_eq_true hb]
   rw[if_pos hb]at q
   refine aJ ⟨_,rfl,by show 2 <= sizeLine;decide,fun z hz=>⟨by show 1 <= sizeLine;decide,fun D hD=>?_⟩⟩
   have s2:=(zO.refl H).new (o := .tup [.str "back", .int k]) hz
   have gz:(upd H z (.tup [.str "back", .int k])) z=some (.tup [.str "back", .int k]):=ac
   exact q D [.ref z] _ (s2.new hD) (s2.free hD) ac (.cons ⟨z,rfl,by rw[ae (ag gz hD)];exact gz⟩ .nil)
  ·rw[decide_eq_false hb]
   rw[if_neg hb]at q
   exact aI ⟨zero_le _,fun D hD=>q D [] _ ((zO.refl H).new hD) hD ac .nil⟩
theorem mO {H:Hp}{F:Addr}{xs:List V}{o:HO}(h:H F=some (.lst xs)):Ap H (upd H F o):=fun b u e n=>by
 have nb:b ≠ F:=fun z=>by rw[z,h]at e;cases e;exact n
 rw[ae nb];exact e
theorem dR {α:Type}(f:Nat->List α)(i:Nat):(List.range (i + 1)).flatMap f=(List.range i).flatMap f ++ f i:=by
 rw[range_succ,List.flatMap_append];simp
theorem aX {α:Type}{f:Nat->List α}(h:∀ i,(f i).length <= 1000):∀ i,((List.range i).flatMap f).length <= 1000 * i
 | 0=>by simp
 | i + 1=>by rw[dR,length_append];have:=aX h i;have:=h i;omega
theorem dP {a:YA}{s:YS}(O:MB a)(G:RG a s)(k:Nat):(iq a s k).length <= 1000:=by
 unfold iq
 cases ht:s.U[k]? with
 | none=>exact zero_le _
 | some t =>
  dsimp only
  by_cases hg:t.gone=t.len
  ·rw[if_pos hg];exact zero_le _
  rw[if_neg hg,length_map]
  refine le_trans (length_filter_le _ _) ?_
  unfold cv
  by_cases h0:t.gone=0
  ·rw[if_pos h0];exact le_trans (O.AN _ _ _) (by decide)
  ·rw[if_neg h0,length_take];omega
theorem dO {a:YA}{s:YS}(O:MB a)(k:Nat):(iG a s k).length <= 1000:=by
 unfold iG
 cases hq:bL s k with
 | none=>exact zero_le _
 | some pq =>
  dsimp only
  rw[length_map]
  refine le_trans (length_filter_le _ _) ?_
  unfold cy
  rw[hq]
  dsimp only
  cases s.U[pq.1.toNat]? with
  | none=>exact zero_le _
  | some t =>
   dsimp only
   by_cases h0:pq.2=0
   ·rw[if_pos h0]
    refine le_trans (length_filter_le _ _) ?_
    unfold pP
    by_cases z:(a.ps.getD k (0,0)).2=((t.goal.toNat:Nat):Int)
    ·rw[if_pos z];exact zero_le _
    ·rw[if_neg z];exact le_trans (O.AN _ _ _) (by decide)
   ·rw[if_neg h0,length_take];omega
theorem c7 (a:YA)(s:YS)(k:Nat):(fq a s k).length <= 1000:=by
 unfold fq
 cases bL s k with
 | none=>exact zero_le _
 | some pq =>
  dsimp only
  cases s.U[pq.1.toNat]? with
  | none=>exact zero_le _
  | some t =>
   dsimp only
   by_cases h0:t.goal=(a.ps.getD k (0,0)).2
   ·rw[if_pos h0];show 1 <= 1000;decide
   ·rw[if_neg h0];exact zero_le _
theorem jz (s:YS)(k:Nat):(dD s k).length <= 1000:=by
 unfold dD
 cases s.lanes[k]? with
 | none=>exact zero_le _
 | some ln =>
  dsimp only
  by_cases h0:0 < ln.b
  ·rw[if_pos h0];show 1 <= 1000;decide
  ·rw[if_neg h0];exact zero_le _
noncomputable def cj (a:YA)(s:YS):List Mv:=(List.range s.U.length).flatMap (iq a s) ++ (List.range s.lanes.length).flatMap (iG a s) ++ (List.range s.lanes.length).flatMap (fq a s) ++ (List.range s.lanes.length).flatMap (dD s)
noncomputable def kU (K:Frag)(c:Cs)(TC:Addr)(J:TJ)(ys:Ys):Sp:=fun vs H Q _=>∃ (a:YA)(s:YS),vs=[.ref a.y]/\C8 K c TC J ys H a s /\
 ∀ (D:Addr)(Aj:List V)(H':Hp),zO H H'->H D=none->H' D=some (.lst Aj)->Paired (Bw H') Aj ((cj a s).map fP)->Q (.ref D) H'
theorem Paired.app {α β:Type}{R:α->β->Prop}{cs:List α}{ds:List β}(h:Paired R cs ds):∀ {as:List α}{bs:List β},Paired R as bs->Paired R (as ++ cs) (bs ++ ds):=fun zS=>by
 induction zS with
 | nil=>exact h
 | cons x r ih=>exact .cons x ih
theorem iV {H H2 H3:Hp}{F:Addr}{vs Aj:List V}{xs ys:List Mv}(nF:H F=none)(s2:zO H H2)(g2:H2 F=some (.lst vs))(p2:Paired (Bw H2) vs (xs.map fP))(s3:zO H2 H3)(p3:Paired (Bw H3) Aj (ys.map fP)) :
  zO H (upd H3 F (.lst (vs ++ Aj)))/\(upd H3 F (.lst (vs ++ Aj))) F=some (.lst (vs ++ Aj))/\Paired (Bw (upd H3 F (.lst (vs ++ Aj)))) (vs ++ Aj) ((xs ++ ys).map fP):=by
 refine⟨fun b o e=>by rw[ae (ag e nF)];exact s3 _ _ (s2 _ _ e),ac,?_⟩
 have kk:Ap H3 (upd H3 F (.lst (vs ++ Aj))):=mO (s3 _ _ g2)
 rw[map_append]
 have q2:=Paired.mono (fun _ _ z=>z.keep (Ap.trans (zO.Ah s3) kk)) p2
 have q3:=Paired.mono (fun _ _ z=>z.keep kk) p3
 exact Paired.app q3 q2
abbrev NMs:List Str:=["self", "found", "number", "lane"]
theorem Eb:ao NMs ["self"] (ah oz):=L2.Au
structure RP (P:Program)(w:World)(K:Frag)(mg:Str->Option Value)(base:Heap)(c:Cs)(TC:Addr)(J:TJ)(ys:Ys)(fi fo fl fb:Addr)(di CM dl db:FuncData):Prop where
 mi:bu K ys.zR "moves_in" fi
 bi:Binds K di ["self", "number"] []
 Gi:zP P w K mg base aB 4 fi di ["self", "number"] (oq K c TC J ys)
 mo:bu K ys.zR "moves_on" fo
 bo:Binds K CM ["self", "lane"] []
 Go:zP P w K mg base aB 6 fo CM ["self", "lane"] (om K c TC J ys)
 ml:bu K ys.zR "moves_lie" fl
 bl:Binds K dl ["self", "lane"] []
 Gl:zP P w K mg base aB 2 fl dl ["self", "lane"] (p9 K c TC J ys)
 mb:bu K ys.zR "moves_back" fb
 bb:Binds K db ["self", "lane"] []
 Gb:zP P w K mg base aB 1 fb db ["self", "lane"] (jh K c TC J ys)
theorem ug {c:Cs}{ys:Ys}{J:TJ}{TC f fw fi fo fl fb:Addr}{fd dw di CM dl db:FuncData}(F:Al K "moves" "Yard.moves" oz f fd)(T:eO mg)(Y:iD K ys)(W:Wy K TC fw dw J)(M:RP P w K mg base c TC J ys fi fo fl fb di CM dl db) :
  zP P w K mg base aB 7 f fd ["self"] (kU K c TC J ys):=by
 refine F.ok Eb (fun _ _ _ _ h=>?_) (fun _ _ _ s H _ Q E hr h=>?_)
 ·obtain⟨a,s,rfl,_⟩:=h
  rfl
 ·obtain⟨a,st,rfl,hI,q⟩:=h
  have AM:zZ 1 _:=hr.mono (by decide)
  have Be:zZ 2 _:=hr.mono (by decide)
  have CL:zZ 4 _:=hr.mono (by decide)
  refine⟨_,af (aC (i:=1) Eb.nd rfl (Or.inl rfl) (aV ad))
   (af (bF PassesOwn.never rfl (aL rfl T.range (aa (av aq rfl T.len PySem.boot_len (aa (al (pv 0) rfl) ad)) ad)) (ax (i:=2) Eb.nd rfl (Or.inl rfl)) (ai (aM (cp plainAttrs_list slot_list_extend type_list_extend fL (pv 1) (aa (aD (pv 0) Y.cl M.mi M.Gi CL M.bi .nil ap (aa (pv 2) ad)) ad)))))
   (af (bF PassesOwn.never rfl (aL rfl T.range (aa (av aq rfl T.len PySem.boot_len (aa (al (pv 0) rfl) ad)) ad)) (ax (i:=3) Eb.nd rfl (Or.inl rfl)) (ai (aM (cp plainAttrs_list slot_list_extend type_list_extend fL (pv 1) (aa (aD (pv 0) Y.cl M.mo M.Go hr M.bo .nil ap (aa (pv 3) ad)) ad)))))
   (af (bF PassesOwn.never rfl (aL rfl T.range (aa (av aq rfl T.len PySem.boot_len (aa (al (pv 0) rfl) ad)) ad)) (ax (i:=3) Eb.nd rfl (Or.inl rfl)) (ai (aM (cp plainAttrs_list slot_list_extend type_list_extend fL (pv 1) (aa (aD (pv 0) Y.cl M.ml M.Gl Be M.bl .nil ap (aa (pv 3) ad)) ad)))))
   (af (bF PassesOwn.never rfl (aL rfl T.range (aa (av aq rfl T.len PySem.boot_len (aa (al (pv 0) rfl) ad)) ad)) (ax (i:=3) Eb.nd rfl (Or.inl rfl)) (ai (aM (cp plainAttrs_list slot_list_extend type_list_extend fL (pv 1) (aa (aD (pv 0) Y.cl M.mb M.Gb AM M.bb .nil ap (aa (pv 3) ad)) ad)))))
   (ai (ar (pv 1))))))),?_⟩
  have hlet:=hI.G.AN
  have FE:st.lanes.length <= 40:=by rw[hI.G.lanes];exact hI.T.AN
  refine⟨zero_le _,fun Fd JF=>?_⟩
  have s0:=(zO.refl H).new (o := .lst []) JF
  have g0:(upd H Fd (.lst [])) Fd=some (.lst []):=ac
  show eK 1 (V.ref Fd) _ _ _
  generalize upd H Fd (.lst [])=H0 at s0 g0 ⊢
  have RQ:∃ vs,zO H H0/\H0 Fd=some (.lst vs)/\Paired (Bw H0) vs (([]:List Mv).map fP):=⟨[],s0,g0, .nil⟩
  obtain⟨Ej,WJ,g0',p0'⟩:=RQ
  have WK:=(hI.same W WJ).Y
  obtain⟨WL,gl0,pl0⟩:=WK.hle
  have RS:WL.length=st.U.length:=Paired.length pl0
  refine⟨_,rfl,a.y,ys.zR,a.dy,_,_,rfl,WK.ins,Y.cl,Y.n4,rfl,a.le,_,rfl, .inl (zU.of gl0),((WL.length:Nat):Int),rfl,by omega,by omega,?_⟩
  rw[toNat_natCast,RS]
  refine b8 (n:=st.U.length) (fun i σ H2=>∃ a2 a3:Option V,(∃ vs,zO H H2/\H2 Fd=some (.lst vs)/\Paired (Bw H2) vs (((List.range i).flatMap (iq a st)).map fP))/\σ=[some (.ref a.y),some (.ref Fd),a2,a3]) ?_ ?_ ?_
  ·exact⟨_,_,⟨Ej,WJ,g0',by simpa using p0'⟩,rfl⟩
  ·rintro i σ H2 hi ⟨a2,a3,⟨vs,s2,g2,p2⟩,rfl⟩
   rw[zero_add]
   have BV:=hI.same W s2
   refine⟨_,rfl, .inl ⟨rfl,_,zU.of g2⟩,_,rfl,a.y,a.dy,_,rfl,BV.Y.ins,rfl,_,rfl,a,st,i,rfl,BV,hi,fun D Aj H3 s3 hD gD hp=>?_⟩
   have l1:vs.length <= 1000000:=by
    rw[Paired.length p2,length_map]
    have h0:=aX (dP hI.O hI.G) st.U.length
    have h1:=aX (dO (s:=st) hI.O) st.lanes.length
    have h2:=aX (c7 a st) st.lanes.length
    have hh:=aX (dP hI.O hI.G) i
    try simp only[length_append]
    omega
   have l2:Aj.length <= 1000:=by rw[Paired.length hp,length_map];exact(dP hI.O hI.G) i
   obtain⟨q1,q2,q3⟩:=iV JF s2 g2 p2 s3 hp
   refine⟨Fd,D,vs,Aj,rfl,rfl,s3 _ _ g2,gD,by rw[sizeLine_eq];omega,?_⟩
   refine⟨_,_,⟨vs ++ Aj,q1,q2,?_⟩,rfl⟩
   rw[dR]
   exact q3
  rintro σ0 H1 ⟨a20,a30,inv1,rfl⟩
  obtain⟨vs1,WM,g1',p1'⟩:=inv1
  have Bs:=(hI.same W WM).Y
  obtain⟨WN,Pk,RF⟩:=Bs.AW
  have RT:WN.length=st.lanes.length:=Paired.length RF
  refine⟨_,rfl,a.y,ys.zR,a.dy,_,_,rfl,Bs.ins,Y.cl,Y.n3,rfl,a.la,_,rfl, .inl (zU.of Pk),((WN.length:Nat):Int),rfl,by omega,by omega,?_⟩
  rw[toNat_natCast,RT]
  refine b8 (n:=st.lanes.length) (fun i σ H2=>∃ a2 a3:Option V,(∃ vs,zO H H2/\H2 Fd=some (.lst vs)/\Paired (Bw H2) vs ((((List.range st.U.length).flatMap (iq a st)) ++ (List.range i).flatMap (iG a st)).map fP))/\σ=[some (.ref a.y),some (.ref Fd),a2,a3]) ?_ ?_ ?_
  ·exact⟨_,_,⟨vs1,WM,g1',by simpa using p1'⟩,rfl⟩
  ·rintro i σ H2 hi ⟨a2,a3,⟨vs,s2,g2,p2⟩,rfl⟩
   rw[zero_add]
   have BV:=hI.same W s2
   refine⟨_,rfl, .inl ⟨rfl,_,zU.of g2⟩,_,rfl,a.y,a.dy,_,rfl,BV.Y.ins,rfl,_,rfl,a,st,i,rfl,BV,hi,fun D Aj H3 s3 hD gD hp=>?_⟩
   have l1:vs.length <= 1000000:=by
    rw[Paired.length p2,length_map]
    have h0:=aX (dP hI.O hI.G) st.U.length
    have h1:=aX (dO (s:=st) hI.O) st.lanes.length
    have h2:=aX (c7 a st) st.lanes.length
    have hh:=aX (dO (s:=st) hI.O) i
    try simp only[length_append]
    omega
   have l2:Aj.length <= 1000:=by rw[Paired.length hp,length_map];exact(dO (s:=st) hI.O) i
   obtain⟨q1,q2,q3⟩:=iV JF s2 g2 p2 s3 hp
   refine⟨Fd,D,vs,Aj,rfl,rfl,s3 _ _ g2,gD,by rw[sizeLine_eq];omega,?_⟩
   refine⟨_,_,⟨vs ++ Aj,q1,q2,?_⟩,rfl⟩
   rw[dR]
   rw[← append_assoc];exact q3
  rintro σ1 H2 ⟨a21,a31,inv2,rfl⟩
  obtain⟨IK,WO,g2',p2'⟩:=inv2
  have CN:=(hI.same W WO).Y
  obtain⟨WQ,gl2,pl2⟩:=CN.AW
  have RU:WQ.length=st.lanes.length:=Paired.length pl2
  refine⟨_,rfl,a.y,ys.zR,a.dy,_,_,rfl,CN.ins,Y.cl,Y.n3,rfl,a.la,_,rfl, .inl (zU.of gl2),((WQ.length:Nat):Int),rfl,by omega,by omega,?_⟩
  rw[toNat_natCast,RU]
  refine b8 (n:=st.lanes.length) (fun i σ H2=>∃ a2 a3:Option V,(∃ vs,zO H H2/\H2 Fd=some (.lst vs)/\Paired (Bw H2) vs ((((List.range st.U.length).flatMap (iq a st) ++ (List.range st.lanes.length).flatMap (iG a st)) ++ (List.range i).flatMap (fq a st)).map fP))/\σ=[some (.ref a.y),some (.ref Fd),a2,a3]) ?_ ?_ ?_
  ·exact⟨_,_,⟨IK,WO,g2',by simpa using p2'⟩,rfl⟩
  ·rintro i σ H2 hi ⟨a2,a3,⟨vs,s2,g2,p2⟩,rfl⟩
   rw[zero_add]
   have BV:=hI.same W s2
   refine⟨_,rfl, .inl ⟨rfl,_,zU.of g2⟩,_,rfl,a.y,a.dy,_,rfl,BV.Y.ins,rfl,_,rfl,a,st,i,rfl,BV,hi,fun D Aj H3 s3 hD gD hp=>?_⟩
   have l1:vs.length <= 1000000:=by
    rw[Paired.length p2,length_map]
    have h0:=aX (dP hI.O hI.G) st.U.length
    have h1:=aX (dO (s:=st) hI.O) st.lanes.length
    have h2:=aX (c7 a st) st.lanes.length
    have hh:=aX (c7 a st) i
    try simp only[length_append]
    omega
   have l2:Aj.length <= 1000:=by rw[Paired.length hp,length_map];exact(c7 a st) i
   obtain⟨q1,q2,q3⟩:=iV JF s2 g2 p2 s3 hp
   refine⟨Fd,D,vs,Aj,rfl,rfl,s3 _ _ g2,gD,by rw[sizeLine_eq];omega,?_⟩
   refine⟨_,_,⟨vs ++ Aj,q1,q2,?_⟩,rfl⟩
   rw[dR]
   rw[← append_assoc];exact q3
  rintro σ2 H3 ⟨a22,a32,RV,rfl⟩
  obtain⟨vs3,WR,g3',p3'⟩:=RV
  have B9:=(hI.same W WR).Y
  obtain⟨WS,gl3,pl3⟩:=B9.AW
  have RW:WS.length=st.lanes.length:=Paired.length pl3
  refine⟨_,rfl,a.y,ys.zR,a.dy,_,_,rfl,B9.ins,Y.cl,Y.n3,rfl,a.la,_,rfl, .inl (zU.of gl3),((WS.length:Nat):Int),rfl,by omega,by omega,?_⟩
  rw[toNat_natCast,RW]
  refine b8 (n:=st.lanes.length) (fun i σ H2=>∃ a2 a3:Option V,(∃ vs,zO H H2/\H2 Fd=some (.lst vs)/\Paired (Bw H2) vs ((((List.range st.U.length).flatMap (iq a st) ++ (List.range st.lanes.length).flatMap (iG a st) ++ (List.range st.lanes.length).flatMap (fq a st)) ++ (List.range i).flatMap (dD st)).map fP))/\σ=[some (.ref a.y),some (.ref Fd),a2,a3]) ?_ ?_ ?_
  ·exact⟨_,_,⟨vs3,WR,g3',by simpa using p3'⟩,rfl⟩
  ·rintro i σ H2 hi ⟨a2,a3,⟨vs,s2,g2,p2⟩,rfl⟩
   rw[zero_add]
   have BV:=hI.same W s2
   refine⟨_,rfl, .inl ⟨rfl,_,zU.of g2⟩,_,rfl,a.y,a.dy,_,rfl,BV.Y.ins,rfl,_,rfl,a,st,i,rfl,BV,hi,fun D Aj H3 s3 hD gD hp=>?_⟩
   have l1:vs.length <= 1000000:=by
    rw[Paired.length p2,length_map]
    have h0:=aX (dP hI.O hI.G) st.U.length
    have h1:=aX (dO (s:=st) hI.O) st.lanes.length
    have h2:=aX (c7 a st) st.lanes.length
    have hh:=aX (jz st) i
    try simp only[length_append]
    omega
   have l2:Aj.length <= 1000:=by rw[Paired.length hp,length_map];exact(jz st) i
   obtain⟨q1,q2,q3⟩:=iV JF s2 g2 p2 s3 hp
   refine⟨Fd,D,vs,Aj,rfl,rfl,s3 _ _ g2,gD,by rw[sizeLine_eq];omega,?_⟩
   refine⟨_,_,⟨vs ++ Aj,q1,q2,?_⟩,rfl⟩
   rw[dR]
   rw[← append_assoc];exact q3
  rintro σ3 H4 ⟨a23,a33,RX,rfl⟩
  obtain⟨vs,s2,g2,p2⟩:=RX
  exact⟨_,rfl,q Fd vs _ s2 JF g2 p2⟩
structure MG (K:Frag):Prop where
 ss:kitOne K (.type "str") (.type "str")=some true
 ns:kitOne K (.type "int") (.type "str")=some false
 tt:kitOne K (.type "tuple") (.type "tuple")=some true
theorem iF {a b:Str}(h:a ≠ b):decide (V.str a=V.str b)=false:=decide_eq_false fun z=>h (by injection z)
theorem jm (a:Str):decide (V.str a=V.str a)=true:=decide_eq_true rfl
noncomputable def sG:Sp:=fun vs H Q _=>∃ (p:Addr)(xs:List V),vs=[.ref p]/\H p=some (.tup xs)/\xs.length <= 100/\(∀ x ∈ xs,(∃ t,x = .str t)∨∃ i,x = .int i)/\∀ H',zO H H'->Q (.bl true) H'
noncomputable def xa (s:Stmt):Scope:=match s with
 | .Return (some (.BoolOp _ [_, .Call _ [.ListComp _ _ sc _] _ _] _)) _=>sc
 | _=>zQ0
theorem mE (m:Mv):(fP m).length <= 100/\∀ x ∈ fP m,(∃ t,x=V.str t)∨∃ i,x=V.int i:=by
 cases m<;>refine⟨by simp[fP],fun x hx=>?_⟩<;>simp only[fP,mem_cons,not_mem_nil,or_false]at hx
 ·rcases hx with rfl | rfl | rfl
  ·exact .inl ⟨_,rfl⟩
  ·exact .inr ⟨_,rfl⟩
  ·exact .inr ⟨_,rfl⟩
 ·rcases hx with rfl | rfl | rfl
  ·exact .inl ⟨_,rfl⟩
  ·exact .inr ⟨_,rfl⟩
  ·exact .inr ⟨_,rfl⟩
 ·rcases hx with rfl | rfl
  ·exact .inl ⟨_,rfl⟩
  ·exact .inr ⟨_,rfl⟩
 ·rcases hx with rfl | rfl
  ·exact .inl ⟨_,rfl⟩
  ·exact .inr ⟨_,rfl⟩
noncomputable def pZ (a:YA)(s:YS):Mv->List Mv
 | .B3 k _=>iq a s k
 | .on k _=>iG a s k
 | .By k=>fq a s k
 | .back k=>dD s k
noncomputable def x9 (s:YS):Mv->Prop
 | .B3 k _=>k < s.U.length
 | .on k _=>k < s.lanes.length
 | .By k=>k < s.lanes.length
 | .back k=>k < s.lanes.length
noncomputable def sy (K:Frag)(c:Cs)(TC:Addr)(J:TJ)(ys:Ys):Sp:=fun vs H Q _=>∃ (a:YA)(s:YS)(p:Addr)(m:Mv),vs=[.ref a.y, .ref p]/\C8 K c TC J ys H a s/\H p=some (.tup (fP m))/\x9 s m /\
 ∀ (D:Addr)(Aj:List V)(H':Hp),zO H H'->H D=none->H' D=some (.lst Aj)->Paired (Bw H') Aj ((pZ a s m).map fP)->Q (.ref D) H'
theorem RY:ao ["move"] ["move"] (ah lW):=L2.Au
theorem RZ:Bk ["move"] (ah lW) (xa ((aF lW).getD 0 (.Pass ⟨0,0,0,0⟩))) [] []:=L2.Cg
theorem Sa:(["thing"]:List Str).Nodup:=by decide +kernel
theorem wx {f fh:Addr}{fd dh:FuncData}(F:Al K "is_move" "is_move" lW f fd)(T:eO mg)(Z:MG K)(mh:mg "is_whole" = some (.ref fh))(kh:keepIn K (.ref fh)=true)(bh:Binds K dh ["value"] [])(G:zP P w K mg base aB 1 fh dh ["value"] gA) :
  zP P w K mg base aB 2 f fd ["move"] sG:=by
 refine F.ok RY (fun _ _ _ _ h=>?_) (fun _ _ _ s H _ Q E hr h=>?_)
 ·obtain⟨p,xs,rfl,_⟩:=h
  rfl
 ·obtain⟨p,xs,rfl,hp,hl,hx,q⟩:=h
  refine⟨_,ai (ar (dA (av hZ rfl T.J4 PyProof.Rows.boot_isinstance (aa (pv 0) (aa (fJ (v := .ty "tuple") rfl T.tuple PySem.Pv.boot_tuple rfl) ad)))
   (dz (av (jF rfl) rfl T.all PyProof.Rows.boot_all (aa (bv (own:=["thing"]) (capN:=[]) (cap:=[]) RZ rfl (lr (pv 0)) (fun C s' H' fp=>⟨ax (i:=0) Sa rfl (Or.inl rfl),ci,
    Ki (av (show dv _ (.builtin "isinstance") (La K) from hZ) rfl T.J4 PyProof.Rows.boot_isinstance (aa (pv 0) (aa (fJ (v := .ty "str") rfl T.str PySem.Pv.boot_str rfl) ad))) (dz (au G hr rfl mh kh bh .nil ap (aa (pv 0) ad)))⟩)) ad))))),?_⟩
  refine⟨_,rfl, .ref p,_, "tuple",true,rfl, .tup hp,Z.tt,true,rfl,aJ ⟨_,rfl,p,rfl,⟨_,Ab.of hp⟩,?_⟩⟩
  refine bH xs.length (by rw[sizeLine_eq];omega) (fun i acc H'=>H' = H/\acc=(List.replicate i true).map V.bl) ⟨rfl,rfl⟩ (fun i acc H' h=>by rw[h.2];simp) (fun i acc H' hi h=>?_) (fun acc H' h=>?_)
  ·obtain⟨rfl,rfl⟩:=h
   refine⟨⟨xs,xs[i],Ab.of hp,getElem?_eq_getElem hi⟩,fun v H2 y=>?_⟩
   obtain⟨rfl,y⟩:=y
   have hv:=y xs (Ab.of hp)
   have e:(List.replicate i true).map V.bl ++ [V.bl true]=(List.replicate (i + 1) true).map V.bl:=by rw[List.replicate_succ',map_append];rfl
   rcases hx v (mem_of_getElem? hv) with ⟨t,rfl⟩ | ⟨z,rfl⟩
   ·exact⟨_,rfl, .str t,_, "str",true,rfl, .str t,Z.ss,true,rfl,aJ ⟨rfl,e⟩⟩
   ·exact⟨_,rfl, .int z,_, "str",false,rfl, .int z,Z.ns,false,rfl,aI ⟨_,rfl, .int z,rfl, .int z,rfl,e⟩⟩
  ·obtain⟨rfl,rfl⟩:=h
   refine⟨⟨xs,Ab.of hp,Nat.le_refl _⟩,fun D hD=>⟨D,List.replicate xs.length true,rfl,zU.of ac,?_⟩⟩
   have e:(List.replicate xs.length true).all id=true:=by rw[all_eq_true];intro b hb;rw[eq_of_mem_replicate hb];rfl
   rw[e]
   exact q _ ((zO.refl H').new hD)
theorem Sb:ao ["self", "move"] ["self", "move"] (ah sZ):=L2.Au
theorem wr {c:Cs}{ys:Ys}{J:TJ}{TC f fw fi fo fl fb fm fn:Addr}{fd dw di CM dl db dm dn:FuncData}(F:Al K "moves_like" "Yard.moves_like" sZ f fd)(T:eO mg)(Y:iD K ys)(W:Wy K TC fw dw J)(M:RP P w K mg base c TC J ys fi fo fl fb di CM dl db)
  (mm:mg "is_move" = some (.ref fm)) (km:keepIn K (.ref fm)=true) (bm:Binds K dm ["move"] []) (Gm:zP P w K mg base aB 2 fm dm ["move"] sG)
  (mn:mg "is_within" = some (.ref fn)) (kn:keepIn K (.ref fn)=true) (bn:Binds K dn ["value", "least", "most"] []) (Gn:zP P w K mg base aB 2 fn dn ["value", "least", "most"] fG) :
  zP P w K mg base aB 7 f fd ["self", "move"] (sy K c TC J ys):=by
 refine F.ok Sb (fun _ _ _ _ h=>?_) (fun _ _ _ s H _ Q E hr h=>?_)
 ·obtain⟨a,s,p,m,rfl,_⟩:=h
  rfl
 ·obtain⟨a,st,p,m,rfl,hI,hp,zV,q⟩:=h
  have AM:zZ 1 _:=hr.mono (by decide)
  have Be:zZ 2 _:=hr.mono (by decide)
  have CL:zZ 4 _:=hr.mono (by decide)
  refine⟨_,af (aQ (iR (PW.pt (gL (ca (bJ (au Gm Be rfl mm km bm .nil ap (aa (pv 1) ad)))) (dZ (aw m9 (av aq rfl T.len PySem.boot_len (aa (pv 1) ad)) aj (aA _)))))) (ai (ar (aV ad))) aH)
   (af (aQ (aw bB (ay aE (pv 1) aj (fun _ _=>rfl)) b0 (aA _))
    (ai (ar (c9 (bJ (au Gn Be rfl mn kn bn .nil ap (aa (ay aE (pv 1) aj (fun _ _=>rfl)) (aa aj (aa (az dB (av aq rfl T.len PySem.boot_len (aa (al (pv 0) rfl) ad)) aj) ad)))))
     (aD (pv 0) Y.cl M.mi M.Gi CL M.bi .nil ap (aa (ay aE (pv 1) aj (fun _ _=>rfl)) ad)) (aV ad)))) aH)
   (af (aQ (ca (bJ (au Gn Be rfl mn kn bn .nil ap (aa (ay aE (pv 1) aj (fun _ _=>rfl)) (aa aj (aa (az dB (av aq rfl T.len PySem.boot_len (aa (al (pv 0) rfl) ad)) aj) ad)))))) (ai (ar (aV ad))) aH)
   (af (aQ (aw bB (ay aE (pv 1) aj (fun _ _=>rfl)) b0 (aA _)) (ai (ar (aD (pv 0) Y.cl M.mo M.Go hr M.bo .nil ap (aa (ay aE (pv 1) aj (fun _ _=>rfl)) ad)))) aH)
   (af (aQ (aw bB (ay aE (pv 1) aj (fun _ _=>rfl)) b0 (aA _)) (ai (ar (aD (pv 0) Y.cl M.ml M.Gl Be M.bl .nil ap (aa (ay aE (pv 1) aj (fun _ _=>rfl)) ad)))) aH)
   (ai (ar (c9 (aw bB (ay aE (pv 1) aj (fun _ _=>rfl)) b0 (aA _)) (aD (pv 0) Y.cl M.mb M.Gb AM M.bb .nil ap (aa (ay aE (pv 1) aj (fun _ _=>rfl)) ad)) (aV ad)))))))),?_⟩
  refine⟨fun b H1=>b=false/\zO H H1,?_,?_⟩
  ·refine⟨_,rfl,p,fP m,rfl,hp,(mE m).1,(mE m).2,fun H1 s1=>⟨_,rfl,aI ?_⟩⟩
   refine⟨_,rfl,p,_,rfl, .inr (Ab.of (s1 _ _ hp)),_,_,rfl,rfl,_,rfl,?_,s1⟩
   cases m<;>rfl
  rintro b H1 ⟨rfl,s1⟩
  refine aI ?_
  have D6:=hI.same W s1
  have Av:=s1 _ _ hp
  have q1:∀ (D:Addr)(Aj:List V)(H':Hp),zO H1 H'->H1 D=none->H' D=some (.lst Aj)->Paired (Bw H') Aj ((pZ a st m).map fP)->Q (.ref D) H':=fun D Aj H' s' hD g' C2=>q D Aj H' (s1.trans s') (s1.free hD) g' C2
  have hY:=D6.Y
  obtain⟨Aa,Bn,ple⟩:=hY.hle
  have hle:Aa.length=st.U.length:=Paired.length ple
  obtain⟨Ad,AJ,En⟩:=hY.AW
  have AW:Ad.length=st.lanes.length:=Paired.length En
  clear s1 q hp hI
  have inl:∀ k:Nat,k < st.lanes.length->jZ (.int k) 0 (((Ad.length:Nat):Int) - 1)=true:=fun k hk=>decide_eq_true (by omega)
  cases m with
  | B3 k l =>
   have Av:H1 p=some (.tup [.str "in", .int k, .int l]):=Av
   have zV:k < st.U.length:=zV
   refine⟨_,rfl,p,_,0,_,rfl,rfl,Ab.of Av,ak (j:=0) rfl,rfl,_,rfl,?_⟩
   rw[jm]
   refine aJ ⟨_,rfl,p,_,1,_,rfl,rfl,Ab.of Av,ak (j:=1) rfl,_,rfl,a.y,ys.zR,a.dy,_,_,rfl,hY.ins,Y.cl,Y.n4,rfl,a.le,_,rfl, .inl (zU.of Bn),_,_,rfl,rfl, .int k,0,((Aa.length:Nat):Int) - 1,rfl, .int _,_,rfl,?_⟩
   rw[show jZ (.int k) 0 (((Aa.length:Nat):Int) - 1)=true from decide_eq_true (by omega)]
   exact aJ ⟨_,rfl,a.y,a.dy,_,rfl,hY.ins,rfl,_,rfl,p,_,1,_,rfl,rfl,Ab.of Av,ak (j:=1) rfl,a,st,k,rfl,D6,zV,fun D Aj H' s' hD g' C2=>q1 D Aj H' s' hD g' C2⟩
  | on k l =>
   have Av:H1 p=some (.tup [.str "on", .int k, .int l]):=Av
   have zV:k < st.lanes.length:=zV
   refine⟨_,rfl,p,_,0,_,rfl,rfl,Ab.of Av,ak (j:=0) rfl,rfl,_,rfl,?_⟩
   rw[iF (by decide +kernel)]
   refine aI ⟨_,rfl,p,_,1,_,rfl,rfl,Ab.of Av,ak (j:=1) rfl,_,rfl,a.y,ys.zR,a.dy,_,_,rfl,hY.ins,Y.cl,Y.n3,rfl,a.la,_,rfl, .inl (zU.of AJ),_,_,rfl,rfl, .int k,0,((Ad.length:Nat):Int) - 1,rfl, .int _,_,rfl,?_⟩
   rw[inl k zV]
   refine aI ⟨_,rfl,p,_,0,_,rfl,rfl,Ab.of Av,ak (j:=0) rfl,rfl,_,rfl,?_⟩
   rw[jm]
   exact aJ ⟨_,rfl,a.y,a.dy,_,rfl,hY.ins,rfl,_,rfl,p,_,1,_,rfl,rfl,Ab.of Av,ak (j:=1) rfl,a,st,k,rfl,D6,zV,fun D Aj H' s' hD g' C2=>q1 D Aj H' s' hD g' C2⟩
  | By k =>
   have Av:H1 p=some (.tup [.str "lie", .int k]):=Av
   have zV:k < st.lanes.length:=zV
   refine⟨_,rfl,p,_,0,_,rfl,rfl,Ab.of Av,ak (j:=0) rfl,rfl,_,rfl,?_⟩
   rw[iF (by decide +kernel)]
   refine aI ⟨_,rfl,p,_,1,_,rfl,rfl,Ab.of Av,ak (j:=1) rfl,_,rfl,a.y,ys.zR,a.dy,_,_,rfl,hY.ins,Y.cl,Y.n3,rfl,a.la,_,rfl, .inl (zU.of AJ),_,_,rfl,rfl, .int k,0,((Ad.length:Nat):Int) - 1,rfl, .int _,_,rfl,?_⟩
   rw[inl k zV]
   refine aI ⟨_,rfl,p,_,0,_,rfl,rfl,Ab.of Av,ak (j:=0) rfl,rfl,_,rfl,?_⟩
   rw[iF (by decide +kernel)]
   refine aI ⟨_,rfl,p,_,0,_,rfl,rfl,Ab.of Av,ak (j:=0) rfl,rfl,_,rfl,?_⟩
   rw[jm]
   exact aJ ⟨_,rfl,a.y,a.dy,_,rfl,hY.ins,rfl,_,rfl,p,_,1,_,rfl,rfl,Ab.of Av,ak (j:=1) rfl,a,st,k,rfl,D6,zV,fun D Aj H' s' hD g' C2=>q1 D Aj H' s' hD g' C2⟩
  | back k =>
   have Av:H1 p=some (.tup [.str "back", .int k]):=Av
   have zV:k < st.lanes.length:=zV
   refine⟨_,rfl,p,_,0,_,rfl,rfl,Ab.of Av,ak (j:=0) rfl,rfl,_,rfl,?_⟩
   rw[iF (by decide +kernel)]
   refine aI ⟨_,rfl,p,_,1,_,rfl,rfl,Ab.of Av,ak (j:=1) rfl,_,rfl,a.y,ys.zR,a.dy,_,_,rfl,hY.ins,Y.cl,Y.n3,rfl,a.la,_,rfl, .inl (zU.of AJ),_,_,rfl,rfl, .int k,0,((Ad.length:Nat):Int) - 1,rfl, .int _,_,rfl,?_⟩
   rw[inl k zV]
   refine aI ⟨_,rfl,p,_,0,_,rfl,rfl,Ab.of Av,ak (j:=0) rfl,rfl,_,rfl,?_⟩
   rw[iF (by decide +kernel)]
   refine aI ⟨_,rfl,p,_,0,_,rfl,rfl,Ab.of Av,ak (j:=0) rfl,rfl,_,rfl,?_⟩
   rw[iF (by decide +kernel)]
   refine aI ⟨_,rfl,p,_,0,_,rfl,rfl,Ab.of Av,ak (j:=0) rfl,rfl,_,rfl,?_⟩
   rw[jm]
   exact aJ ⟨_,rfl,a.y,a.dy,_,rfl,hY.ins,rfl,_,rfl,p,_,1,_,rfl,rfl,Ab.of Av,ak (j:=1) rfl,a,st,k,rfl,D6,zV,fun D Aj H' s' hD g' C2=>q1 D Aj H' s' hD g' C2⟩
noncomputable def bM (ln:bS):bS:={ ln with b:=ln.b + 1,qs:=ln.qs.tail }
noncomputable def mQ (ln:bS):bS:={ ln with r:=ln.r + 1,b:=ln.b - 1 }
inductive Cv (a:YA)(s:YS):Mv->YS->Prop
 | B3 {k l:Nat} {t:aY} {ln:bS} (ht:s.U[k]? = some t) (hg:t.gone ≠ t.len) (hl:l ∈ cv a t) (Ar:s.lanes[l]? = some ln) (ho:ce ln.r ln.h k t.gone=true) :
  Cv a s (.B3 k l) (bV (cz s k t) k t.gone l { t with gone:=t.gone + 1 } ln)
 | on {k l m:Nat} {c:Int} {lk ln:bS} {t:aY} (hk:s.lanes[k]? = some lk) (hq:lk.qs.head? = some ((m:Int),c)) (ht:s.U[m]? = some t) (hl:l ∈ cy a s k) (Ar:(s.lanes.set k (bM lk))[l]? = some ln) (ho:ce ln.r ln.h m c=true) :
  Cv a s (.on k l) (bV { s with lanes:=s.lanes.set k (bM lk) } m c l t ln)
 | By {k m e:Nat} {c:Int} {lk:bS} {t:aY} {qs:List (Int × Int)} (hk:s.lanes[k]? = some lk) (hq:lk.qs.head? = some ((m:Int),c)) (ht:s.U[m]? = some t) (hg:t.goal=(e:Int)) (he:(a.ps.getD k (0,0)).2=(e:Int)) (BW:s.lies[e]? = some qs) :
  Cv a s (.By k) { s with lanes:=s.lanes.set k (bM lk),lies:=s.lies.set e (qs ++ [((m:Int),c)]) }
 | back {k:Nat} {lk:bS} (hk:s.lanes[k]? = some lk) (hb:0 < lk.b):Cv a s (.back k) { s with lanes:=s.lanes.set k (mQ lk) }
theorem Cv.done {a:YA}{s s':YS}{m:Mv}(h:Cv a s m s'):s'.done=s.done:=by
 cases h<;>rfl
structure WT (s:YS):Prop where
 q:∀ (k:Nat)(ln:bS),s.lanes[k]? = some ln->ln.qs.length <= 10000
 l:∀ (p:Nat)(qs:List (Int × Int)),s.lies[p]? = some qs->qs.length <= 10000
 d:s.done.length <= 100000
theorem ju {s:YS}{l:Nat}{m c:Int}(h:fS s l m c=true):∃ ln,s.lanes[l]? = some ln/\ce ln.r ln.h m c=true:=by
 unfold fS at h
 cases hl:s.lanes[l]? with
 | none=>rw[hl]at h;cases h
 | some ln=>rw[hl]at h;exact⟨ln,rfl,h⟩
theorem u8 {a:YA}{s:YS}{k:Nat}{m:Mv}(h:m ∈ iq a s k):∃ l t ln,m = .B3 k l/\s.U[k]? = some t/\t.gone ≠ t.len/\l ∈ cv a t/\s.lanes[l]? = some ln/\ce ln.r ln.h k t.gone=true:=by
 unfold iq at h
 cases ht:s.U[k]? with
 | none=>rw[ht]at h;cases h
 | some t =>
  rw[ht]at h
  dsimp only at h
  by_cases hg:t.gone=t.len
  ·rw[if_pos hg]at h;cases h
  rw[if_neg hg]at h
  obtain⟨l,hl,rfl⟩:=mem_map.mp h
  obtain⟨h1,h2⟩:=mem_filter.mp hl
  obtain⟨ln,h3,h4⟩:=ju h2
  exact⟨l,t,ln,rfl,rfl,hg,h1,h3,h4⟩
theorem u0 {a:YA}{s:YS}{k:Nat}{m:Mv}(h:m ∈ iG a s k):∃ l q lk ln,m = .on k l/\s.lanes[k]? = some lk/\lk.qs.head? = some q/\l ∈ cy a s k/\s.lanes[l]? = some ln/\ce ln.r ln.h q.1 q.2=true:=by
 unfold iG at h
 cases hq:bL s k with
 | none=>rw[hq]at h;cases h
 | some q =>
  rw[hq]at h
  dsimp only at h
  obtain⟨l,hl,rfl⟩:=mem_map.mp h
  obtain⟨h1,h2⟩:=mem_filter.mp hl
  obtain⟨ln,h3,h4⟩:=ju h2
  unfold bL at hq
  cases hk:s.lanes[k]? with
  | none=>rw[hk]at hq;cases hq
  | some lk=>rw[hk]at hq;exact⟨l,q,lk,ln,rfl,rfl,hq,h1,h3,h4⟩
theorem pX {a:YA}{s:YS}{k:Nat}{m:Mv}(h:m ∈ fq a s k):∃ q lk t,m = .By k/\s.lanes[k]? = some lk/\lk.qs.head? = some q/\s.U[q.1.toNat]? = some t/\t.goal=(a.ps.getD k (0,0)).2:=by
 unfold fq at h
 cases hq:bL s k with
 | none=>rw[hq]at h;cases h
 | some q =>
  rw[hq]at h
  dsimp only at h
  cases ht:s.U[q.1.toNat]? with
  | none=>rw[ht]at h;cases h
  | some t =>
   rw[ht]at h
   dsimp only at h
   by_cases hg:t.goal=(a.ps.getD k (0,0)).2
   ·rw[if_pos hg]at h
    have hm:m = .By k:=by simpa using h
    unfold bL at hq
    cases hk:s.lanes[k]? with
    | none=>rw[hk]at hq;cases hq
    | some lk=>rw[hk]at hq;exact⟨q,lk,t,hm,rfl,hq,ht,hg⟩
   ·rw[if_neg hg]at h;cases h
theorem mJ {s:YS}{k:Nat}{m:Mv}(h:m ∈ dD s k):∃ lk,m = .back k/\s.lanes[k]? = some lk/\0 < lk.b:=by
 unfold dD at h
 cases hk:s.lanes[k]? with
 | none=>rw[hk]at h;cases h
 | some lk =>
  rw[hk]at h
  dsimp only at h
  by_cases hb:0 < lk.b
  ·rw[if_pos hb]at h;exact⟨lk,by simpa using h,rfl,hb⟩
  ·rw[if_neg hb]at h;cases h
theorem qX {a:YA}{s:YS}{m:Mv}(h:m ∈ cj a s):x9 s m/\m ∈ pZ a s m:=by
 unfold cj at h
 rw[mem_append,mem_append,mem_append]at h
 rcases h with ((h | h) | h) | h
 ·obtain⟨k,hk,h⟩:=mem_flatMap.mp h
  obtain⟨l,t,ln,rfl,_⟩:=u8 h
  exact⟨mem_range.mp hk,h⟩
 ·obtain⟨k,hk,h⟩:=mem_flatMap.mp h
  obtain⟨l,q,lk,ln,rfl,_⟩:=u0 h
  exact⟨mem_range.mp hk,h⟩
 ·obtain⟨k,hk,h⟩:=mem_flatMap.mp h
  obtain⟨q,lk,t,rfl,_⟩:=pX h
  exact⟨mem_range.mp hk,h⟩
 ·obtain⟨k,hk,h⟩:=mem_flatMap.mp h
  obtain⟨lk,rfl,_⟩:=mJ h
  exact⟨mem_range.mp hk,h⟩
noncomputable def vf:Mv->PyData
 | .B3 k l => .tuple [.str "in", .int k, .int l]
 | .on k l => .tuple [.str "on", .int k, .int l]
 | .By k => .tuple [.str "lie", .int k]
 | .back k => .tuple [.str "back", .int k]
theorem iM {x:Str}(h:PyData.strOk x=true):Cn (.str x) 0:=⟨by simp[PyData.canLay0,h],by simp[PyData.depth]⟩
theorem kZ (m:Mv):Cn (vf m) 1:=by
 cases m<;>refine jX (m:=0) fun y hy=>?_<;>simp only[mem_cons,not_mem_nil,or_false]at hy
 ·rcases hy with rfl | rfl | rfl
  ·exact iM (by decide +kernel)
  ·exact cU _
  ·exact cU _
 ·rcases hy with rfl | rfl | rfl
  ·exact iM (by decide +kernel)
  ·exact cU _
  ·exact cU _
 ·rcases hy with rfl | rfl
  ·exact iM (by decide +kernel)
  ·exact cU _
 ·rcases hy with rfl | rfl
  ·exact iM (by decide +kernel)
  ·exact cU _
theorem uQ {K:Frag}{H:Hp}{p:Addr}(m:Mv)(h:H p=some (.tup (fP m))):nJ K H (.ref p) (vf m):=by
 cases m<;>refine .tup (Ab.of h) ?_
 ·exact .cons (.str _) (.cons (.int _) (.cons (.int _) .nil))
 ·exact .cons (.str _) (.cons (.int _) (.cons (.int _) .nil))
 ·exact .cons (.str _) (.cons (.int _) .nil)
 ·exact .cons (.str _) (.cons (.int _) .nil)
theorem lF {K:Frag}{H:Hp}:∀ {vs:List V}{ms:List Mv},Paired (Bw H) vs (ms.map fP)->jK K H vs (ms.map vf)
 | [],[],_ => .nil
 | _ :: _,m :: ms, .cons ⟨t,e,h⟩ r=>by subst e;exact .cons (uQ m h) (lF r)
 | [],_ :: _,h=>by cases h
 | _ :: _,[],h=>by cases h
theorem zI {m:Mv}{ms:List Mv}(h:m ∈ ms):((ms.map vf).any fun y=>PyData.eqv y (vf m))=true:=by
 rw[any_eq_true]
 exact⟨vf m,mem_map.mpr ⟨m,h,rfl⟩,SeqAt.eqv_refl _ (kZ m).1⟩
noncomputable def ya (K:Frag)(c:Cs)(TC:Addr)(J:TJ)(ys:Ys):Sp:=fun vs H Q _=>∃ (a:YA)(s:YS)(p:Addr)(m:Mv),vs=[.ref a.y, .ref p]/\C8 K c TC J ys H a s/\H p=some (.tup (fP m))/\m ∈ cj a s/\WT s /\
 ∀ (H':Hp)(s':YS),Cv a s m s'->zW a.four H H'->AE K ys H' a { s' with done:=s.done ++ [fP m] }->Q .Af H'
structure WU (P:Program)(w:World)(K:Frag)(mg:Str->Option Value)(base:Heap)(c:Cs)(TC:Addr)(J:TJ)(ys:Ys)(nm:Addr)(fk fg fe fp fb fy:Addr)(dk dg de dp db dy:FuncData):Prop where
 mk':bu K ys.zR "moves_like" fk
 bk:Binds K dk ["self", "move"] []
 Gk:zP P w K mg base aB 7 fk dk ["self", "move"] (sy K c TC J ys)
 mg':bu K ys.zR "go_in" fg
 bg:Binds K dg ["self", "number", "lane"] []
 Gg:zP P w K mg base aB 6 fg dg ["self", "number", "lane"] (sI K ys)
 me:bu K ys.zR "enter" fe
 be:Binds K de ["self", "piece", "lane"] []
 Ge:zP P w K mg base aB 5 fe de ["self", "piece", "lane"] (kX K ys)
 mp:bu K ys.An "pull" fp
 bp:Binds K dp ["self"] []
 Gp:zP P w K mg base (dS P w) 1 fp dp ["self"] (oi ys.An nm)
 mb:bu K ys.An "bring" fb
 bb:Binds K db ["self"] []
 Gb:zP P w K mg base (dS P w) 1 fb db ["self"] (pE ys.An nm)
 my:bu K ys.zR "lay" fy
 Sd:Binds K dy ["self", "piece", "place"] []
 Gy:zP P w K mg base aB 1 fy dy ["self", "piece", "place"] (xw K ys)
theorem Se:ao ["self", "move"] ["self", "move"] (ah Rg):=L2.Au
theorem MH {c:Cs}{ys:Ys}{J:TJ}{TC nm f fw fl ft fpu fk fg fe fp fb fy WV:Addr}{fd dw dl dt dpu dk dg de dp db dy den:FuncData}(F:Al K "do" "Yard.do" Rg f fd)(Y:iD K ys)(L:kL K c)(W:Wy K TC fw dw J)(Ex:LA K mg nm)(O:Own P w K mg base ys nm fl ft fpu dl dt dpu)
  (D:WU P w K mg base c TC J ys nm fk fg fe fp fb fy dk dg de dp db dy) (Me:xj K c WV den) (Gen:zP P w K mg base aB 1 WV den ["self", "lane"] (ot c Prod.snd)) :
  zP P w K mg base (dS P w) 8 f fd ["self", "move"] (ya K c TC J ys):=by
 refine F.EY Se (fun _ _ _ _ h=>?_) (fun _ _ _ s H _ Q E hr h=>?_)
 ·obtain⟨a,s,p,m,rfl,_⟩:=h
  rfl
 ·obtain⟨a,st,p,m,rfl,hI,hp,hm,hS,q⟩:=h
  have hu:=hr.units
  have AM:zZ 1 _:=hr.mono (by decide)
  have CL:zZ 4 _:=hr.mono (by decide)
  have IT:zZ 5 _:=hr.mono (by decide)
  have hr6:zZ 6 _:=hr.mono (by decide)
  refine⟨_,af (aQ (aw (qL hu) (pv 1) (aD (pv 0) Y.cl D.mk' D.Gk hr D.bk .nil ap (aa (pv 1) ad)) (by with_unfolding_all rfl)) (ai (b9 rfl Ex.x aN (bZ Ex.x Ex.k rfl rfl Ex.m (aa b0 ad)))) aH)
   (af (pH (aQ (aw bB (ay aE (pv 1) aj (fun _ _=>rfl)) b0 (aA _))
    (ai (aM (aD (pv 0) Y.cl D.mg' D.Gg hr6 D.bg .nil ap (aa (ay aE (pv 1) aj (fun _ _=>rfl)) (aa (ay aE (pv 1) aj (fun _ _=>rfl)) ad)))))
    (ai (aQ (aw bB (ay aE (pv 1) aj (fun _ _=>rfl)) b0 (aA _))
     (ai (aM (aD (pv 0) Y.cl D.me D.Ge IT D.be .nil ap (aa (bA (aD (pv 0) Y.cl O.ml O.Gl CL O.bl .nil ap (aa (ay aE (pv 1) aj (fun _ _=>rfl)) ad)) Y.L.cl D.mp D.Gp AM D.bp .nil (BD.passes aN rfl)) (aa (ay aE (pv 1) aj (fun _ _=>rfl)) ad)))))
     (ai (aQ (aw bB (ay aE (pv 1) aj (fun _ _=>rfl)) b0 (aA _))
      (ai (aM (aD (pv 0) Y.cl D.my D.Gy AM D.Sd .nil ap (aa (bA (aD (pv 0) Y.cl O.ml O.Gl CL O.bl .nil ap (aa (ay aE (pv 1) aj (fun _ _=>rfl)) ad)) Y.L.cl D.mp D.Gp AM D.bp .nil (BD.passes aN rfl)) (aa (aD (al (al (pv 0) rfl) rfl) L.cl Me.m Gen AM Me.b .nil ap (aa (ay aE (pv 1) aj (fun _ _=>rfl)) ad)) ad)))))
      (ai (aM (bA (aD (pv 0) Y.cl O.ml O.Gl CL O.bl .nil ap (aa (ay aE (pv 1) aj (fun _ _=>rfl)) ad)) Y.L.cl D.mb D.Gb AM D.bb .nil (BD.passes aN rfl))))))))))
   (ai (aM (cp plainAttrs_list PySem.F.slot_list_append PySem.F.type_list_append bE (al (pv 0) rfl) (aa (pv 1) ad))))),?_⟩
  obtain⟨zV,D7⟩:=qX hm
  refine⟨_,rfl,_,rfl,a.y,a.dy,_,rfl,hI.Y.ins,rfl,_,rfl,a,st,p,m,rfl,hI,hp,zV,fun Dl Aj H1 s1 hDl gDl hpr=>?_⟩
  refine⟨Dl,Aj,vf m,(pZ a st m).map vf,rfl,uQ m (s1 _ _ hp),zU.of gDl,lF hpr,(kZ m).le (by decide),fun z hz=>by obtain⟨m',_,rfl⟩:=mem_map.mp hz;exact(kZ m').le (by decide),_,rfl,?_⟩
  rw[zI D7]
  refine aI ?_
  have D6:=hI.same W s1
  have Av:=s1 _ _ hp
  have hY:=D6.Y
  refine⟨fun σ' H'=>σ' = start ["self", "move"] [.ref a.y, .ref p]/\∃ s',Cv a st m s'/\zW a.four H1 H'/\AE K ys H' a s',?_,?_⟩
  ·
   have EH:∀ (k:Nat)(lk:bS)(pq:Int × Int),st.lanes[k]? = some lk->lk.qs.head? = some pq->∀ (Ad:List V),H1 a.la=some (.lst Ad)->∀ (x dx pa:Addr)(Am:List V)(H2:Hp),zW [a.la] H1 H2->H1 x=none->H1 pa=none->H2 a.la=some (.lst (Ad.set k (.ref x)))->Ai H2 ys.An x dx pa lk.r lk.b lk.h Am lk.qs ->
     ∀ (Q':VK)(E':XK),(∀ (v:V)(H3:Hp),xi H3 v pq->zW [a.la] H1 H3->AE K ys H3 a { st with lanes:=st.lanes.set k (bM lk) }->Q' v H3)->oi ys.An nm [.ref x] H2 Q' E':=by
    intro k lk pq hk hq Ad AJ x dx pa Am H2 o2 nx np g2 Cb Q' E' hQ
    refine⟨x,dx,pa,lk.r,lk.b,lk.h,Am,lk.qs,rfl,Cb,fun e0=>?_,fun v rest ev H3 o3 C5=>?_⟩
    ·exfalso
     have hl:=Paired.length Cb.Bh
     rw[e0]at hl
     cases BW:lk.qs with
     | nil=>rw[BW]at hq;cases hq
     | cons _ _=>rw[BW]at hl;cases hl
    ·have o4:zW [a.la] H1 H3:=fun b o nb e=>o3 b o (ag e nx) (ag e np) (o2 b o nb e)
     refine hQ v H3 ?_ o4 (AE.C7 hY AJ o4 (k:=k) (x:=x) (dx:=dx) (pa:=pa) (o3 _ _ (ag AJ nx) (ag AJ np) g2) (ln:=bM lk) C5 np)
     have hz:=Bm.DD o3 Cb.ins Cb.lst Cb.Bh
     rw[ev]at hz
     cases BW:lk.qs with
     | nil=>rw[BW]at hq;cases hq
     | cons q0 r0 =>
      rw[BW]at hq hz
      cases hq
      cases hz with
      | cons z _=>exact z
   obtain⟨Ad,AJ,En⟩:=hY.AW
   have p3:∀ {H3:Hp}{ex:List Addr}{xs:List V},H1 p=some (.tup xs)->zW ex H1 H3->(∀ b ∈ ex,b ∈ a.four)->H3 p=some (.tup xs):=fun h o he=>o _ _ (fun z=>by obtain⟨xs,hz⟩:=hY.Bx _ (he _ z);rw[h]at hz;cases hz) h
   cases m with
   | B3 k l =>
    have Av:H1 p=some (.tup [.str "in", .int k, .int l]):=Av
    obtain⟨l',t,ln,e0,ht,hg,hl,Ar,ho⟩:=u8 (show Mv.B3 k l ∈ iq a st k from D7)
    cases e0
    refine⟨_,rfl,p,_,0,_,rfl,rfl,Ab.of Av,ak (j:=0) rfl,rfl,_,rfl,?_⟩
    rw[jm]
    refine aJ ⟨_,rfl,a.y,a.dy,_,rfl,hY.ins,rfl,_,rfl,p,_,1,_,rfl,rfl,Ab.of Av,ak (j:=1) rfl,_,rfl,p,_,2,_,rfl,rfl,Ab.of Av,ak (j:=2) rfl,a,st,k,l,t,ln,rfl,hY,ht,Ar,ho,(hI.G.AU k t ht).2,lt_of_le_of_lt (hS.q l ln Ar) (by decide),fun H' o' IH=>⟨rfl,_,Cv.B3 ht hg hl Ar ho,o'.mono (by simp),IH⟩⟩
   | on k l =>
    have Av:H1 p=some (.tup [.str "on", .int k, .int l]):=Av
    obtain⟨l',pq,lk,ln,e0,hk,hq,hl,Ar,ho⟩:=u0 (show Mv.on k l ∈ iG a st k from D7)
    cases e0
    obtain⟨m,t,em,ht,FD⟩:=hI.G.Bh k lk hk pq (mem_of_head? hq)
    obtain⟨m0,cq⟩:=pq
    have em:m0=(m:Int):=em
    subst em
    refine⟨_,rfl,p,_,0,_,rfl,rfl,Ab.of Av,ak (j:=0) rfl,rfl,_,rfl,?_⟩
    rw[iF (by decide +kernel)]
    refine aI ⟨_,rfl,p,_,0,_,rfl,rfl,Ab.of Av,ak (j:=0) rfl,rfl,_,rfl,?_⟩
    rw[jm]
    refine aJ ⟨_,rfl,a.y,a.dy,_,rfl,hY.ins,rfl,_,rfl,a.y,a.dy,_,rfl,hY.ins,rfl,_,rfl,p,_,1,_,rfl,rfl,Ab.of Av,ak (j:=1) rfl,a,st,k,lk,Ad,rfl,hY,hk,AJ,fun x dx pa Am H2 o2 nx np g2 Cb=>⟨x,dx,_,rfl,Cb.ins,rfl,EH k lk _ hk hq Ad AJ x dx pa Am H2 o2 nx np g2 Cb _ _ fun v H3 hv o3 B9=>?_⟩⟩
    have J5:=p3 Av o3 (by simp)
    have BM:k < st.lanes.length:=(gQ0 hk)
    obtain⟨ln2,MI,er,eh,eq⟩:∃ ln2,(st.lanes.set k (bM lk))[l]? = some ln2/\ln2.r=ln.r/\ln2.h=ln.h/\ln2.qs.length <= 10000:=by
     by_cases MJ:k=l
     ·subst MJ
      rw[hk]at Ar
      cases Ar
      refine⟨bM lk,by simp[BM],rfl,rfl,?_⟩
      have:=hS.q k lk hk
      show lk.qs.tail.length <= 10000
      rw[List.length_tail];omega
     ·exact⟨ln,by rw[getElem?_set_ne MJ];exact Ar,rfl,rfl,hS.q l ln Ar⟩
    have Bu:ce ln2.r ln2.h m cq=true:=by rw[er,eh];exact ho
    refine⟨_,rfl,p,_,2,_,rfl,rfl,Ab.of J5,ak (j:=2) rfl,a,{ st with lanes:=st.lanes.set k (bM lk) },v,m,cq,l,t,ln2,rfl,B9,hv,ht,MI,Bu,(hI.G.AU m t ht).2,lt_of_le_of_lt eq (by decide),fun H' o' IH=>⟨rfl,_,Cv.on hk hq ht hl MI Bu,(o3.mono (by simp)).trans (o'.mono (by simp)),IH⟩⟩
   | By k =>
    have Av:H1 p=some (.tup [.str "lie", .int k]):=Av
    obtain⟨pq,lk,t0,e0,hk,hq,Hy,hg⟩:=pX (show Mv.By k ∈ fq a st k from D7)
    obtain⟨m,t,em,ht,FD⟩:=hI.G.Bh k lk hk pq (mem_of_head? hq)
    obtain⟨m0,cq⟩:=pq
    have em:m0=(m:Int):=em
    subst em
    have Hy:st.U[m]? = some t0:=by rw[← Hy];rfl
    rw[ht]at Hy
    cases Hy
    have BM:k < st.lanes.length:=(gQ0 hk)
    have JE:k < a.ps.length:=by rw[← hI.G.lanes];exact BM
    have he:=getElem?_eq_getElem JE
    have HB:a.ps.getD k (0,0)=a.ps[k]:=by rw[getD_eq_getElem?_getD,he];rfl
    obtain⟨e,ee,MD⟩:=hI.O.ends k _ he
    rw[HB,ee]at hg
    have HC:e < st.lies.length:=by rw[hI.G.lies];exact MD
    have BW:=getElem?_eq_getElem HC
    refine⟨_,rfl,p,_,0,_,rfl,rfl,Ab.of Av,ak (j:=0) rfl,rfl,_,rfl,?_⟩
    rw[iF (by decide +kernel)]
    refine aI ⟨_,rfl,p,_,0,_,rfl,rfl,Ab.of Av,ak (j:=0) rfl,rfl,_,rfl,?_⟩
    rw[iF (by decide +kernel)]
    refine aI ⟨_,rfl,p,_,0,_,rfl,rfl,Ab.of Av,ak (j:=0) rfl,rfl,_,rfl,?_⟩
    rw[jm]
    refine aJ ⟨_,rfl,a.y,a.dy,_,rfl,hY.ins,rfl,_,rfl,a.y,a.dy,_,rfl,hY.ins,rfl,_,rfl,p,_,1,_,rfl,rfl,Ab.of Av,ak (j:=1) rfl,a,st,k,lk,Ad,rfl,hY,hk,AJ,fun x dx pa Am H2 o2 nx np g2 Cb=>⟨x,dx,_,rfl,Cb.ins,rfl,EH k lk _ hk hq Ad AJ x dx pa Am H2 o2 nx np g2 Cb _ _ fun v H3 hv o3 B9=>?_⟩⟩
    have J5:=p3 Av o3 (by simp)
    have Ir:xc c TC J H3 a:=AS.keep W D6.T (zW.Ah (fun b hb=>by simp at hb;subst hb;exact⟨_,AJ⟩) o3)
    obtain⟨Ca,fst,BF,As,Bi⟩:=Ir.i
    refine⟨_,rfl,a.y,ys.zR,a.dy,_,_,rfl,B9.ins,Y.cl,Y.n1,rfl,a.tb,TC,Ca,fst,_,rfl,BF,W.cl,W.nl,As,a.lx,a.Ao,_,rfl,Ir.l.1,rfl,_,rfl,p,_,1,_,rfl,rfl,Ab.of J5,ak (j:=1) rfl,a.lx,a.Ao,a.lt,(a.n:Int),a.Aa,a.ps,k,_,rfl,Ir.l,he,?_⟩
    rw[ee]
    exact⟨a,{ st with lanes:=st.lanes.set k (bM lk) },v,((m:Int),cq),e,_,rfl,B9,hv,BW,le_trans (hS.l e _ BW) (by decide),fun H' o' IH=>⟨rfl,_,Cv.By hk hq ht hg (by rw[HB,ee]) BW,(o3.mono (by simp)).trans (o'.mono (by simp)),IH⟩⟩
   | back k =>
    have Av:H1 p=some (.tup [.str "back", .int k]):=Av
    obtain⟨lk,e0,hk,hb⟩:=mJ (show Mv.back k ∈ dD st k from D7)
    refine⟨_,rfl,p,_,0,_,rfl,rfl,Ab.of Av,ak (j:=0) rfl,rfl,_,rfl,?_⟩
    rw[iF (by decide +kernel)]
    refine aI ⟨_,rfl,p,_,0,_,rfl,rfl,Ab.of Av,ak (j:=0) rfl,rfl,_,rfl,?_⟩
    rw[iF (by decide +kernel)]
    refine aI ⟨_,rfl,p,_,0,_,rfl,rfl,Ab.of Av,ak (j:=0) rfl,rfl,_,rfl,?_⟩
    rw[iF (by decide +kernel)]
    refine aI ⟨_,rfl,a.y,a.dy,_,rfl,hY.ins,rfl,_,rfl,p,_,1,_,rfl,rfl,Ab.of Av,ak (j:=1) rfl,a,st,k,lk,Ad,rfl,hY,hk,AJ,fun x dx pa Am H2 o2 nx np g2 Cb=>⟨x,dx,_,rfl,Cb.ins,rfl,x,dx,pa,lk.r,lk.b,lk.h,Am,lk.qs,rfl,Cb,(fun e0=>by rw[e0]at hb;exact absurd hb (by decide)),fun _ H3 o3 C5=>?_⟩⟩
    have o4:zW [a.la] H1 H3:=fun b o nb e=>o3 b o (ag e nx) (ag e np) (o2 b o nb e)
    exact⟨rfl,_,Cv.back hk hb,o4.mono (by simp),AE.C7 hY AJ o4 (k:=k) (x:=x) (dx:=dx) (pa:=pa) (o3 _ _ (ag AJ nx) (ag AJ np) g2) (ln:=mQ lk) C5 np⟩
  ·rintro σ' H2 ⟨rfl,s',hs,o2,CN⟩
   obtain⟨Aw,JB,pd⟩:=CN.Ci
   have E5:Aw.length=st.done.length:=by rw[Paired.length pd,hs.done]
   have GC:H2 p=some (.tup (fP m)):=o2 _ _ (fun z=>by obtain⟨xs,hz⟩:=hY.Bx _ z;rw[Av]at hz;cases hz) Av
   have hd:=hS.d
   refine⟨_,rfl,a.y,ys.zR,a.dy,_,_,rfl,CN.ins,Y.cl,Y.n6,rfl, .inl ⟨rfl,_,zU.of JB⟩,_,rfl,a.dn,_,_,rfl,rfl,JB,by rw[sizeLine_eq];omega,?_⟩
   have B9:=CN.Ho JB ⟨p,rfl,GC⟩
   rw[hs.done]at B9
   exact q _ s' hs ((zO.Aq s1).trans (o2.trans (cn (by simp)))) B9
theorem bz {α:Type}{L:List α}{k j:Nat}{y z:α}(h:(L.set k y)[j]? = some z):(j=k/\z=y)∨(j ≠ k/\L[j]? = some z):=by
 by_cases e:k=j
 ·subst e
  rw[List.getElem?_set_self']at h
  cases hk:L[k]? with
  | none=>rw[hk]at h;cases h
  | some x=>rw[hk]at h;cases h;exact .inl ⟨rfl,rfl⟩
 ·rw[getElem?_set_ne e]at h
  exact .inr ⟨Ne.symm e,h⟩
theorem cX {α:Type}{L:List α}{k:Nat}{x y:α}(h:L[k]? = some x):(L.set k y)[k]? = some y:=by
 have:=(gQ0 h)
 simp[this]
theorem eR {α:Type}(f:α->Nat):∀ {L:List α}{k:Nat}{x y:α},L[k]? = some x->((L.set k y).map f).sum + f x=(L.map f).sum + f y
 | [],_,_,_,h=>by cases h
 | z :: L,0,x,y,h=>by cases h;simp only[set_cons_zero,map_cons,sum_cons];omega
 | z :: L,k + 1,x,y,h=>by
  have:=eR f (L:=L) (k:=k) (x:=x) (y:=y) h
  simp only[set_cons_succ,map_cons,sum_cons];omega
theorem jd {α:Type}(f:α->Int):∀ {L:List α}{k:Nat}{x y:α},L[k]? = some x->((L.set k y).map f).sum + f x=(L.map f).sum + f y
 | [],_,_,_,h=>by cases h
 | z :: L,0,x,y,h=>by cases h;simp only[set_cons_zero,map_cons,sum_cons];omega
 | z :: L,k + 1,x,y,h=>by
  have:=jd f (L:=L) (k:=k) (x:=x) (y:=y) h
  simp only[set_cons_succ,map_cons,sum_cons];omega
noncomputable def mW (a:YA)(l:Nat):Int:=(a.ps.getD l (0,0)).2
noncomputable def jM (s:YS):Nat:=(s.lanes.map fun ln=>ln.qs.length).sum
noncomputable def iE (s:YS):Nat:=(s.lies.map fun qs=>qs.length).sum
noncomputable def fZ (s:YS):Int:=(s.U.map fun t=>t.gone).sum
structure Pl (a:YA)(s:YS)(m:Nat)(c:Int):Prop where
 lanes:s.lanes.length=a.ps.length
 lies:s.lies.length=a.n
 AN:s.U.length <= 60
 EI:a.ps.length <= 40
 lets:∀ (m:Nat)(t:aY),s.U[m]? = some t->∃ x y:Nat,t.start=(x:Int)/\t.goal=(y:Int)/\x < a.n/\y < a.n
 AU:∀ (m:Nat)(t:aY),s.U[m]? = some t->(∀ l ∈ t.way,l < a.ps.length)/\t.way.Nodup
 Bh:∀ (k:Nat)(ln:bS),s.lanes[k]? = some ln->∀ q ∈ ln.qs,∃ (m:Nat)(t:aY),q.1=(m:Int)/\s.U[m]? = some t/\k ∈ t.way
 Cc:∀ (m:Nat)(t:aY),s.U[m]? = some t->0 <= t.gone/\t.gone <= t.len/\t.len <= 60
 AX:∀ (m':Nat)(t:aY),s.U[m']? = some t->t.gone=0->t.way=[]/\m' ≠ m
 last:∀ (m:Nat)(t:aY),s.U[m]? = some t->∀ (i l:Nat),t.way[i]? = some l->mW a l=t.goal->i + 1=t.way.length
 head:∀ (m':Nat)(t:aY),s.U[m']? = some t->∀ (l:Nat)(ln:bS),t.way.getLast? = some l->s.lanes[l]? = some ln->(m' = m/\c=0)∨((m':Int),(0:Int)) ∈ ln.qs∨mW a l=t.goal
 first:∀ (k:Nat)(ln:bS),s.lanes[k]? = some ln->∀ (i j:Nat)(z:Int)(q:Int × Int),ln.qs[i]? = some (z,0)->j < i->ln.qs[j]? = some q->q.1 ≠ z
 Eo:∀ (k:Nat)(ln:bS),s.lanes[k]? = some ln->∀ (m':Nat)(t:aY),((m':Int),(0:Int)) ∈ ln.qs->s.U[m']? = some t->t.way.getLast? = some k
 gone:c=0->∀ (k:Nat)(ln:bS),s.lanes[k]? = some ln->((m:Int),(0:Int)) ∉ ln.qs
 sum:(jM s:Int) + (iE s:Int) + 1=fZ s
structure AV (a:YA)(s:YS):Prop where
 lanes:s.lanes.length=a.ps.length
 lies:s.lies.length=a.n
 AN:s.U.length <= 60
 EI:a.ps.length <= 40
 lets:∀ (m:Nat)(t:aY),s.U[m]? = some t->∃ x y:Nat,t.start=(x:Int)/\t.goal=(y:Int)/\x < a.n/\y < a.n
 AU:∀ (m:Nat)(t:aY),s.U[m]? = some t->(∀ l ∈ t.way,l < a.ps.length)/\t.way.Nodup
 Bh:∀ (k:Nat)(ln:bS),s.lanes[k]? = some ln->∀ q ∈ ln.qs,∃ (m:Nat)(t:aY),q.1=(m:Int)/\s.U[m]? = some t/\k ∈ t.way
 Cc:∀ (m:Nat)(t:aY),s.U[m]? = some t->0 <= t.gone/\t.gone <= t.len/\t.len <= 60
 AX:∀ (m':Nat)(t:aY),s.U[m']? = some t->t.gone=0->t.way=[]
 last:∀ (m:Nat)(t:aY),s.U[m]? = some t->∀ (i l:Nat),t.way[i]? = some l->mW a l=t.goal->i + 1=t.way.length
 head:∀ (m':Nat)(t:aY),s.U[m']? = some t->∀ (l:Nat)(ln:bS),t.way.getLast? = some l->s.lanes[l]? = some ln->((m':Int),(0:Int)) ∈ ln.qs∨mW a l=t.goal
 first:∀ (k:Nat)(ln:bS),s.lanes[k]? = some ln->∀ (i j:Nat)(z:Int)(q:Int × Int),ln.qs[i]? = some (z,0)->j < i->ln.qs[j]? = some q->q.1 ≠ z
 Eo:∀ (k:Nat)(ln:bS),s.lanes[k]? = some ln->∀ (m':Nat)(t:aY),((m':Int),(0:Int)) ∈ ln.qs->s.U[m']? = some t->t.way.getLast? = some k
 sum:(jM s:Int) + (iE s:Int)=fZ s
theorem c6:∀ (n:Nat)(l:List Nat),l.Nodup->(∀ x ∈ l,x < n)->l.length <= n
 | 0,l,_,h=>by
  cases l with
  | nil=>exact Nat.le_refl _
  | cons x _=>exact absurd (h x mem_cons_self) (by omega)
 | n + 1,l,hn,h=>by
  have h1:=c6 n (l.filter fun x=>decide (x ≠ n)) (hn.filter _) fun x hx=>by
   obtain⟨a,b⟩:=mem_filter.mp hx
   have:=h x a
   have:=of_decide_eq_true b
   omega
  have h2:l.length <= (l.filter fun x=>decide (x ≠ n)).length + 1:=by
   clear h1 h
   induction l with
   | nil=>exact zero_le _
   | cons x l ih =>
    rw[nodup_cons]at hn
    by_cases e:x=n
    ·subst e
     have:(l.filter fun y=>decide (y ≠ x))=l:=List.filter_eq_self.mpr fun y hy=>decide_eq_true fun z=>hn.1 (z ▸ hy)
     rw[filter_cons_of_neg (by simp),this]
     exact Nat.le_refl _
    ·rw[filter_cons_of_pos (by simpa using e)]
     have:=ih hn.2
     simp only[length_cons]
     omega
  omega
theorem AV.ok {a:YA}{s:YS}(h:AV a s):RG a s:=⟨h.lanes,h.lies,h.lets,fun m t ht=>⟨(h.AU m t ht).1,by have:=c6 _ _ (h.AU m t ht).2 (h.AU m t ht).1;have:=h.EI;omega⟩,h.Bh,h.AN⟩
theorem uz {α:Type}{x:α}{l:List α}(h:x ∈ l.tail):x ∈ l:=List.mem_of_mem_tail h
theorem uE {α:Type}{l:List α}{x:α}(h:l.head? = some x):l[0]? = some x:=by cases l with
 | nil=>cases h
 | cons y r=>exact h
theorem pY {α:Type}{l:List α}{x:α}(h:x ∈ l):∃ i:Nat,l[i]? = some x:=by
 obtain⟨i,hi,e⟩:=getElem_of_mem h
 exact⟨i,by rw[getElem?_eq_getElem hi,e]⟩
theorem lN {α:Type}(l:List α)(i:Nat):l.tail[i]? = l[i + 1]?:=by cases l with
 | nil=>simp
 | cons y r=>rfl
theorem mH {a:YA}{s:YS}{k m:Nat}{c:Int}{lk:bS}(J:AV a s)(hk:s.lanes[k]? = some lk)(hq:lk.qs.head? = some ((m:Int),c)):Pl a { s with lanes:=s.lanes.set k (bM lk) } m c:=by
 have h0:=uE hq
 have B3:∀ (j:Nat)(AF:bS),(s.lanes.set k (bM lk))[j]? = some AF->∃ ln,s.lanes[j]? = some ln/\(∀ q ∈ AF.qs,q ∈ ln.qs)/\∃ d,(∀ i,AF.qs[i]? = ln.qs[i + d]?)/\(AF.qs=ln.qs∨(j=k/\ln=lk/\AF.qs=lk.qs.tail)):=fun j AF h=>by
  rcases bz h with ⟨rfl,rfl⟩ | ⟨ne,h⟩
  ·exact⟨lk,hk,fun q hq=>uz hq,1,fun i=>lN _ i, .inr ⟨rfl,rfl,rfl⟩⟩
  ·exact⟨AF,h,fun q hq=>hq,0,fun i=>rfl, .inl rfl⟩
 have keep:∀ (j:Nat)(ln:bS),s.lanes[j]? = some ln->∃ AF,(s.lanes.set k (bM lk))[j]? = some AF/\∀ q ∈ ln.qs,q=((m:Int),c)∨q ∈ AF.qs:=fun j ln h=>by
  by_cases e:j=k
  ·subst e
   rw[hk]at h
   cases h
   refine⟨bM lk,cX hk,fun q Cy=>?_⟩
   show _∨q ∈ lk.qs.tail
   cases hl:lk.qs with
   | nil=>rw[hl]at hq;cases hq
   | cons z r =>
    rw[hl]at hq Cy
    cases hq
    exact(mem_cons.mp Cy).imp id id
  ·exact⟨ln,by rw[getElem?_set_ne (Ne.symm e)];exact h,fun q hq => .inr hq⟩
 refine⟨by rw[← J.lanes];simp,J.lies,J.AN,J.EI,J.lets,J.AU,?_,J.Cc,?_,J.last,?_,?_,?_,?_,?_⟩
 ·intro j AF h q Cy
  obtain⟨ln,hj,h1,_⟩:=B3 j AF h
  exact J.Bh j ln hj q (h1 q Cy)
 ·intro m' t ht hg
  refine⟨J.AX m' t ht hg,fun e=>?_⟩
  subst e
  obtain⟨m2,t2,e2,FF,MK⟩:=J.Bh k lk hk _ (mem_of_head? hq)
  have:m' = m2:=by have:(m':Int)=(m2:Int):=e2;omega
  subst this
  rw[ht]at FF
  cases FF
  rw[J.AX m' t ht hg]at MK
  cases MK
 ·intro m' t ht l AF hl Bq
  obtain⟨ln,hj,h1,_⟩:=B3 l AF Bq
  rcases J.head m' t ht l ln hl hj with h | h
  ·obtain⟨ln2,h2,h3⟩:=keep l ln hj
   have h2:{ s with lanes:=s.lanes.set k (bM lk) }.lanes[l]? = some ln2:=h2
   rw[Bq]at h2
   cases h2
   rcases h3 _ h with e | h
   ·injection e with e1 e2
    exact .inl ⟨by omega,e2.symm⟩
   ·exact .inr (.inl h)
  ·exact .inr (.inr h)
 ·intro j AF h i i' z q hi AG Cy
  obtain⟨ln,hj,_,d,h2,_⟩:=B3 j AF h
  rw[h2]at hi Cy
  exact J.first j ln hj (i + d) (i' + d) z q hi (by omega) Cy
 ·intro j AF h m' t GA ht
  obtain⟨ln,hj,h1,_⟩:=B3 j AF h
  exact J.Eo j ln hj m' t (h1 _ GA) ht
 ·intro e0 j AF h GA
  subst e0
  obtain⟨ln,hj,h1,d,h2,h3⟩:=B3 j AF h
  obtain⟨m2,t2,e2,FF,_⟩:=J.Bh k lk hk _ (mem_of_head? hq)
  have:m=m2:=by have:(m:Int)=(m2:Int):=e2;omega
  subst this
  have b1:=J.Eo k lk hk m t2 (mem_of_head? hq) FF
  have b2:=J.Eo j ln hj m t2 (h1 _ GA) FF
  rw[b1]at b2
  have b2:=Option.some.inj b2
  subst b2
  rcases bz h with ⟨_,rfl⟩ | ⟨ne,_⟩
  ·obtain⟨i,hi⟩:=pY GA
   have hi:lk.qs.tail[i]? = some ((m:Int),0):=hi
   rw[lN]at hi
   exact J.first k lk hk (i + 1) 0 _ _ hi (by omega) h0 rfl
  ·exact ne rfl
 ·have:=eR (fun ln:bS=>ln.qs.length) (y:=bM lk) hk
  have hl:(bM lk).qs.length + 1=lk.qs.length:=by
   show lk.qs.tail.length + 1=_
   cases hl:lk.qs with
   | nil=>rw[hl]at hq;cases hq
   | cons _ _=>rfl
  have h1:=J.sum
  unfold jM at h1 ⊢
  show((((s.lanes.set k (bM lk)).map fun ln=>ln.qs.length).sum:Nat):Int) + (iE s:Int) + 1=fZ s
  omega
theorem uy {a:YA}{s:YS}{k:Nat}{t:aY}(J:AV a s)(ht:s.U[k]? = some t)(hg:t.gone ≠ t.len):Pl a (cz s k t) k t.gone:=by
 have g0:=J.Cc k t ht
 have lk:∀ (m:Nat)(t':aY),(s.U.set k { t with gone:=t.gone + 1 })[m]? = some t'->∃ t0,s.U[m]? = some t0/\t'.start=t0.start/\t'.goal=t0.goal/\t'.way=t0.way/\t'.len=t0.len/\((m=k/\t'.gone=t.gone + 1)∨(m ≠ k/\t'.gone=t0.gone)):=fun m t' h=>by
  rcases bz h with ⟨rfl,rfl⟩ | ⟨ne,h⟩
  ·exact⟨t,ht,rfl,rfl,rfl,rfl, .inl ⟨rfl,rfl⟩⟩
  ·exact⟨t',h,rfl,rfl,rfl,rfl, .inr ⟨ne,rfl⟩⟩
 refine⟨J.lanes,J.lies,by show(s.U.set _ _).length <= 60;rw[length_set];exact J.AN,J.EI,?_,?_,?_,?_,?_,?_,?_,J.first,?_,?_,?_⟩
 ·intro m t' h
  obtain⟨t0,h0,e1,e2,_⟩:=lk m t' h
  rw[e1,e2];exact J.lets m t0 h0
 ·intro m t' h
  obtain⟨t0,h0,e1,e2,e3,_⟩:=lk m t' h
  rw[e3];exact J.AU m t0 h0
 ·intro j ln h q hq
  obtain⟨m,t0,e,h0,hj⟩:=J.Bh j ln h q hq
  by_cases em:m=k
  ·subst em
   rw[ht]at h0
   cases h0
   exact⟨m,_,e,cX ht,hj⟩
  ·exact⟨m,t0,e,by show(s.U.set _ _)[m]? = _;rw[getElem?_set_ne (Ne.symm em)];exact h0,hj⟩
 ·intro m t' h
  obtain⟨t0,h0,e1,e2,e3,e4,e5⟩:=lk m t' h
  have:=J.Cc m t0 h0
  rcases e5 with ⟨rfl,e5⟩ | ⟨_,e5⟩
  ·rw[ht]at h0
   cases h0
   rw[e4,e5];omega
  ·rw[e4,e5];exact this
 ·intro m t' h hz
  obtain⟨t0,h0,e1,e2,e3,e4,e5⟩:=lk m t' h
  rcases e5 with ⟨rfl,e5⟩ | ⟨ne,e5⟩
  ·omega
  ·rw[e3];exact⟨J.AX m t0 h0 (by omega),ne⟩
 ·intro m t' h i l hi hl
  obtain⟨t0,h0,e1,e2,e3,e4,e5⟩:=lk m t' h
  rw[e3]at hi ⊢
  rw[e2]at hl
  exact J.last m t0 h0 i l hi hl
 ·intro m t' h l ln hl Ar
  obtain⟨t0,h0,e1,e2,e3,e4,e5⟩:=lk m t' h
  rw[e3]at hl
  rw[e2]
  exact .inr (J.head m t0 h0 l ln hl Ar)
 ·intro j ln h m t' hm h'
  obtain⟨t0,h0,e1,e2,e3,e4,e5⟩:=lk m t' h'
  rw[e3]
  exact J.Eo j ln h m t0 hm h0
 ·intro e0 j ln h hm
  obtain⟨m,t0,e,h0,hj⟩:=J.Bh j ln h _ hm
  have:k=m:=by have:(k:Int)=(m:Int):=e;omega
  subst this
  rw[ht]at h0
  cases h0
  rw[J.AX k t ht e0]at hj
  cases hj
 ·have:=jd (fun t:aY=>t.gone) (y:={ t with gone:=t.gone + 1 }) ht
  have h1:=J.sum
  unfold fZ at h1 ⊢
  show (jM s:Int) + (iE s:Int) + 1=((s.U.set k { t with gone:=t.gone + 1 }).map fun t=>t.gone).sum
  have:({ t with gone:=t.gone + 1 }:aY).gone=t.gone + 1:=rfl
  omega
theorem uB {l:List Nat}{x:Nat}(h:l.getLast? = some x):l[l.length - 1]? = some x:=by rw[← h,List.getLast?_eq_getElem?]
theorem kq {a:YA}{s:YS}{m l:Nat}{c:Int}{t:aY}{ln:bS}(M:Pl a s m c)(ht:s.U[m]? = some t)(Ar:s.lanes[l]? = some ln)(h0:c=0->l ∉ t.way/\∀ x ∈ t.way,mW a x ≠ t.goal)(h1:c ≠ 0->l ∈ t.way):AV a (bV s m c l t ln):=by
 have El:l < a.ps.length:=by rw[← M.lanes];exact(gQ0 Ar)
 have lk:∀ (m':Nat)(t':aY),(bV s m c l t ln).U[m']? = some t'->∃ t0,s.U[m']? = some t0/\t'.start=t0.start/\t'.goal=t0.goal/\t'.len=t0.len/\t'.gone=t0.gone/\((c=0/\m' = m/\t0=t/\t'.way=t.way ++ [l])∨(¬ (c=0/\m' = m)/\t'.way=t0.way)):=fun m' t' h=>by
  have h:(if c=0 then s.U.set m { t with way:=t.way ++ [l] } else s.U)[m']? = some t':=h
  by_cases hc:c=0
  ·rw[if_pos hc]at h
   rcases bz h with ⟨rfl,rfl⟩ | ⟨ne,h⟩
   ·exact⟨t,ht,rfl,rfl,rfl,rfl, .inl ⟨hc,rfl,rfl,rfl⟩⟩
   ·exact⟨t',h,rfl,rfl,rfl,rfl, .inr ⟨fun z=>ne z.2,rfl⟩⟩
  ·rw[if_neg hc]at h
   exact⟨t',h,rfl,rfl,rfl,rfl, .inr ⟨fun z=>hc z.1,rfl⟩⟩
 have WW:∀ (m':Nat)(t0:aY),s.U[m']? = some t0->∃ t',(bV s m c l t ln).U[m']? = some t'/\(∀ x ∈ t0.way,x ∈ t'.way)/\(m' = m->l ∈ t'.way):=fun m' t0 h=>by
  by_cases hc:c=0
  ·by_cases e:m' = m
   ·subst e
    rw[ht]at h
    cases h
    refine⟨{ t with way:=t.way ++ [l] },by show(if c=0 then s.U.set m' { t with way:=t.way ++ [l] } else s.U)[m']? = _;rw[if_pos hc];exact cX ht,fun x hx=>mem_append_left _ hx,fun _=>by show l ∈ t.way ++ [l];simp⟩
   ·exact⟨t0,by show(if c=0 then s.U.set m { t with way:=t.way ++ [l] } else s.U)[m']? = _;rw[if_pos hc,getElem?_set_ne (Ne.symm e)];exact h,fun x hx=>hx,fun z=>absurd z e⟩
  ·refine⟨t0,by show(if c=0 then s.U.set m { t with way:=t.way ++ [l] } else s.U)[m']? = _;rw[if_neg hc];exact h,fun x hx=>hx,fun z=>?_⟩
   subst z
   rw[ht]at h
   cases h
   exact h1 hc
 have AF:∀ (j:Nat)(l':bS),(bV s m c l t ln).lanes[j]? = some l'->(j=l/\l'.qs=ln.qs ++ [((m:Int),c)])∨(j ≠ l/\s.lanes[j]? = some l'):=fun j l' h=>by
  rcases bz h with ⟨rfl,rfl⟩ | ⟨ne,h⟩
  ·exact .inl ⟨rfl,rfl⟩
  ·exact .inr ⟨ne,h⟩
 have old:∀ (j:Nat)(l':bS),(bV s m c l t ln).lanes[j]? = some l'->∀ q ∈ l'.qs,(j=l/\q=((m:Int),c))∨∃ l0,s.lanes[j]? = some l0/\q ∈ l0.qs:=fun j l' h q hq=>by
  rcases AF j l' h with ⟨rfl,e⟩ | ⟨ne,h⟩
  ·rw[e,mem_append]at hq
   rcases hq with hq | hq
   ·exact .inr ⟨ln,Ar,hq⟩
   ·exact .inl ⟨rfl,by simpa using hq⟩
  ·exact .inr ⟨l',h,hq⟩
 refine⟨by rw[← M.lanes];show(s.lanes.set _ _).length=_;simp,M.lies,?_,M.EI,?_,?_,?_,?_,?_,?_,?_,?_,?_,?_⟩
 ·show(if c=0 then s.U.set m { t with way:=t.way ++ [l] } else s.U).length <= 60
  by_cases hc:c=0
  ·rw[if_pos hc,length_set];exact M.AN
  ·rw[if_neg hc];exact M.AN
 ·intro m' t' h
  obtain⟨t0,h2,e1,e2,_⟩:=lk m' t' h
  rw[e1,e2];exact M.lets m' t0 h2
 ·intro m' t' h
  obtain⟨t0,h2,_,_,_,_,e⟩:=lk m' t' h
  obtain⟨w1,w2⟩:=M.AU m' t0 h2
  rcases e with ⟨hc,rfl,rfl,e⟩ | ⟨_,e⟩
  ·rw[e]
   refine⟨fun x hx=>?_,?_⟩
   ·rcases mem_append.mp hx with hx | hx
    ·exact w1 x hx
    ·rw[mem_singleton.mp hx];exact El
   ·rw[nodup_append]
    exact⟨w2,by simp,fun x hx y hy=>by rw[mem_singleton.mp hy];exact fun z=>(h0 hc).1 (z ▸ hx)⟩
  ·rw[e];exact⟨w1,w2⟩
 ·intro j l' h q hq
  rcases old j l' h q hq with ⟨rfl,rfl⟩ | ⟨l0,h2,hq⟩
  ·obtain⟨t',h3,_,h4⟩:=WW m t ht
   exact⟨m,t',rfl,h3,h4 rfl⟩
  ·obtain⟨m',t0,e,h3,hj⟩:=M.Bh j l0 h2 q hq
   obtain⟨t',h4,h5,_⟩:=WW m' t0 h3
   exact⟨m',t',e,h4,h5 j hj⟩
 ·intro m' t' h
  obtain⟨t0,h2,_,_,e3,e4,_⟩:=lk m' t' h
  rw[e3,e4];exact M.Cc m' t0 h2
 ·intro m' t' h hz
  obtain⟨t0,h2,_,_,_,e4,e⟩:=lk m' t' h
  rw[e4]at hz
  obtain⟨w1,w2⟩:=M.AX m' t0 h2 hz
  rcases e with ⟨hc,rfl,_⟩ | ⟨_,e⟩
  ·exact absurd rfl w2
  ·rw[e];exact w1
 ·intro m' t' h i x hi hx
  obtain⟨t0,h2,_,e2,_,_,e⟩:=lk m' t' h
  rw[e2]at hx
  rcases e with ⟨hc,rfl,rfl,e⟩ | ⟨_,e⟩
  ·rw[e]at hi ⊢
   by_cases AG:i < t0.way.length
   ·rw[getElem?_append_left AG]at hi
    exact absurd hx ((h0 hc).2 x (mem_of_getElem? hi))
   ·have:=(gQ0 hi)
    rw[length_append,length_singleton]at this ⊢
    omega
  ·rw[e]at hi ⊢
   exact M.last m' t0 h2 i x hi hx
 ·intro m' t' h x l' hx Dv
  obtain⟨t0,h2,_,e2,_,_,e⟩:=lk m' t' h
  rcases e with ⟨hc,rfl,rfl,e⟩ | ⟨ne,e⟩
  ·rw[e]at hx
   have hx:l=x:=by simpa using hx
   subst hx
   rcases AF l l' Dv with ⟨_,e'⟩ | ⟨ne,_⟩
   ·left
    rw[e',hc];simp
   ·exact absurd rfl ne
  ·rw[e]at hx
   rcases AF x l' Dv with ⟨rfl,e'⟩ | ⟨ne',h'⟩
   ·rcases M.head m' t0 h2 x ln hx Ar with z | z | z
    ·exact absurd ⟨z.2,z.1⟩ ne
    ·exact .inl (by rw[e'];exact mem_append_left _ z)
    ·rw[e2];exact .inr z
   ·rcases M.head m' t0 h2 x l' hx h' with z | z | z
    ·exact absurd ⟨z.2,z.1⟩ ne
    ·exact .inl z
    ·rw[e2];exact .inr z
 ·intro j l' h i i' z q hi AG hq
  rcases AF j l' h with ⟨rfl,e⟩ | ⟨_,h'⟩
  ·rw[e]at hi hq
   by_cases Fp:i < ln.qs.length
   ·rw[getElem?_append_left Fp]at hi
    rw[getElem?_append_left (by omega)]at hq
    exact M.first j ln Ar i i' z q hi AG hq
   ·have h3:=(gQ0 hi)
    rw[length_append,length_singleton]at h3
    have ei:i=ln.qs.length:=by omega
    subst ei
    rw[getElem?_concat_length]at hi
    have hi:=Option.some.inj hi
    injection hi with e1 e2
    subst e1
    rw[getElem?_append_left AG]at hq
    intro ez
    obtain⟨m',t0,e3,h4,h5⟩:=M.Bh j ln Ar q (mem_of_getElem? hq)
    have em0:(m':Int)=(m:Int):=by rw[← e3];exact ez
    have:m=m':=by omega
    subst this
    rw[ht]at h4
    cases h4
    exact(h0 e2).1 h5
  ·exact M.first j l' h' i i' z q hi AG hq
 ·intro j l' h m' t' hm h'
  obtain⟨t0,h2,_,_,_,_,e⟩:=lk m' t' h'
  rcases old j l' h _ hm with ⟨rfl,e'⟩ | ⟨l0,h3,hm⟩
  ·injection e' with e1 e2
   have em:m' = m:=by omega
   subst em
   rcases e with ⟨_,_,_,e⟩ | ⟨ne,_⟩
   ·rw[e];simp
   ·exact absurd ⟨e2.symm,rfl⟩ ne
  ·rcases e with ⟨hc,rfl,rfl,e⟩ | ⟨ne,e⟩
   ·exact absurd hm (M.gone hc j l0 h3)
   ·rw[e];exact M.Eo j l0 h3 m' t0 hm h2
 ·have q1:=eR (fun ln:bS=>ln.qs.length) (y:=eD ln m c t.len) Ar
  have q2:(eD ln m c t.len).qs.length=ln.qs.length + 1:=by show(ln.qs ++ [_]).length=_;simp
  have q3:fZ (bV s m c l t ln)=fZ s:=by
   unfold fZ
   show((if c=0 then s.U.set m { t with way:=t.way ++ [l] } else s.U).map fun t=>t.gone).sum=_
   by_cases hc:c=0
   ·rw[if_pos hc]
    have:=jd (fun t:aY=>t.gone) (y:={ t with way:=t.way ++ [l] }) ht
    have e:({ t with way:=t.way ++ [l] }:aY).gone=t.gone:=rfl
    omega
   ·rw[if_neg hc]
  have h2:=M.sum
  rw[q3]
  unfold jM at h2 ⊢
  show((((s.lanes.set l (eD ln m c t.len)).map fun ln=>ln.qs.length).sum:Nat):Int) + (iE s:Int)=fZ s
  omega
theorem wC {a:YA}{s:YS}{m e:Nat}{c:Int}{t:aY}{qs:List (Int × Int)}(M:Pl a s m c)(ht:s.U[m]? = some t)(BW:s.lies[e]? = some qs)(h0:c=0->∀ x,t.way.getLast? = some x->mW a x=t.goal):AV a { s with lies:=s.lies.set e (qs ++ [((m:Int),c)]) }:=by
 refine⟨M.lanes,by show(s.lies.set _ _).length=_;rw[length_set];exact M.lies,M.AN,M.EI,M.lets,M.AU,M.Bh,M.Cc,fun m' t' h z=>(M.AX m' t' h z).1,M.last,?_,M.first,M.Eo,?_⟩
 ·intro m' t' h x l' hx Dv
  rcases M.head m' t' h x l' hx Dv with ⟨rfl,hc⟩ | z | z
  ·have h:s.U[m']? = some t':=h
   rw[ht]at h
   cases h
   exact .inr (h0 hc x hx)
  ·exact .inl z
  ·exact .inr z
 ·have:=eR (fun qs:List (Int × Int)=>qs.length) (y:=qs ++ [((m:Int),c)]) BW
  have h2:=M.sum
  unfold iE at h2 ⊢
  show (jM s:Int) + ((((s.lies.set e (qs ++ [((m:Int),c)])).map fun qs=>qs.length).sum:Nat):Int)=fZ s
  rw[length_append,length_singleton]at this
  omega
theorem AV.back {a:YA}{s:YS}{k:Nat}{lk ML:bS}(J:AV a s)(hk:s.lanes[k]? = some lk)(e:ML.qs=lk.qs):AV a { s with lanes:=s.lanes.set k ML }:=by
 have B3:∀ (j:Nat)(l':bS),(s.lanes.set k ML)[j]? = some l'->∃ l0,s.lanes[j]? = some l0/\l'.qs=l0.qs:=fun j l' h=>by
  rcases bz h with ⟨rfl,rfl⟩ | ⟨_,h⟩
  ·exact⟨lk,hk,e⟩
  ·exact⟨l',h,rfl⟩
 refine⟨by rw[← J.lanes];simp,J.lies,J.AN,J.EI,J.lets,J.AU,?_,J.Cc,J.AX,J.last,?_,?_,?_,?_⟩
 ·intro j l' h q hq
  obtain⟨l0,h0,e0⟩:=B3 j l' h
  rw[e0]at hq
  exact J.Bh j l0 h0 q hq
 ·intro m t ht x l' hx Dv
  obtain⟨l0,h0,e0⟩:=B3 x l' Dv
  rw[e0]
  exact J.head m t ht x l0 hx h0
 ·intro j l' h
  obtain⟨l0,h0,e0⟩:=B3 j l' h
  rw[e0]
  exact J.first j l0 h0
 ·intro j l' h
  obtain⟨l0,h0,e0⟩:=B3 j l' h
  rw[e0]
  exact J.Eo j l0 h0
 ·have:=eR (fun ln:bS=>ln.qs.length) (y:=ML) hk
  have h1:=J.sum
  have e':=congrArg List.length e
  unfold jM at h1 ⊢
  show((((s.lanes.set k ML).map fun ln=>ln.qs.length).sum:Nat):Int) + (iE s:Int)=fZ s
  omega
theorem AV.step {a:YA}{s s':YS}{m:Mv}(J:AV a s)(h:Cv a s m s'):AV a s':=by
 cases h with
 | @B3 k l t ln ht hg hl Ar ho =>
  have M:=uy J ht hg
  refine kq (t:={ t with gone:=t.gone + 1 }) M (cX ht) Ar (fun hc=>?_) (fun hc=>?_)
  ·have hw:=J.AX k t ht hc
   show l ∉ t.way/\∀ x ∈ t.way,mW a x ≠ t.goal
   rw[hw]
   exact⟨by simp,by simp⟩
  ·unfold cv at hl
   rw[if_neg hc]at hl
   exact mem_of_mem_take hl
 | @on k l m c lk ln t hk hq ht hl Ar ho =>
  have M:=mH J hk hq
  have hw:cy a s k=if c=0 then (pP a k t.goal.toNat).filter (fun l=>!decide (l ∈ t.way)) else (t.way.drop (t.way.idxOf k + 1)).take 1:=by
   unfold cy bL
   rw[hk]
   dsimp only
   rw[hq]
   dsimp only
   rw[toNat_natCast,ht]
  rw[hw]at hl
  refine kq M ht Ar (fun hc=>?_) (fun hc=>?_)
  ·rw[if_pos hc]at hl
   obtain⟨h1,h2⟩:=mem_filter.mp hl
   refine⟨by simpa using h2,fun x hx ex=>?_⟩
   subst hc
   obtain⟨i,hi⟩:=pY hx
   have h3:=J.last m t ht i x hi ex
   have h4:=J.Eo k lk hk m t (mem_of_head? hq) ht
   have h5:=uB h4
   rw[show t.way.length - 1=i by omega,hi]at h5
   have h5:=Option.some.inj h5
   subst h5
   unfold pP at h1
   obtain⟨x0,y0,e1,e2,_,_⟩:=J.lets m t ht
   rw[if_pos (by show mW a x=_;rw[ex,e2,toNat_natCast])]at h1
   cases h1
  ·rw[if_neg hc]at hl
   exact List.mem_of_mem_drop (mem_of_mem_take hl)
 | @By k m e c lk t qs hk hq ht hg he BW =>
  have M:=mH J hk hq
  have:=wC (s:={ s with lanes:=s.lanes.set k (bM lk) }) M ht BW (fun hc x hx=>?_)
  ·exact this
  ·subst hc
   have h4:=J.Eo k lk hk m t (mem_of_head? hq) ht
   rw[h4]at hx
   have hx:=Option.some.inj hx
   subst hx
   show(a.ps.getD k (0,0)).2=t.goal
   rw[he,hg]
 | @back k lk hk hb=>exact J.back hk rfl
noncomputable def rU (s:YS):Int:=(s.U.map fun t=>t.len).sum
theorem p0 {α:Type}(f g:α->Int):∀ {L:List α},(∀ (m:Nat)(t:α),L[m]? = some t->f t <= g t)->(L.map f).sum <= (L.map g).sum
 | [],_=>by simp
 | x :: L,h=>by
  have h1:=h 0 x rfl
  have h2:=p0 f g (L:=L) fun m t ht=>h (m + 1) t ht
  simp only[map_cons,sum_cons];omega
theorem jV {α:Type}(g:α->Int):∀ {L:List α},(∀ (m:Nat)(t:α),L[m]? = some t->g t <= 60)->(L.map g).sum <= 60 * L.length
 | [],_=>by simp
 | x :: L,h=>by
  have h1:=h 0 x rfl
  have h2:=jV g (L:=L) fun m t ht=>h (m + 1) t ht
  simp only[map_cons,sum_cons,length_cons];omega
theorem AV.HD {a:YA}{s:YS}(J:AV a s):(iE s:Int) <= rU s/\(jM s:Int) + (iE s:Int) <= 3600:=by
 have h1:=p0 (fun t:aY=>t.gone) (fun t=>t.len) (L:=s.U) fun m t ht=>(J.Cc m t ht).2.1
 have h2:=J.sum
 have h3:=jV (fun t:aY=>t.len) (L:=s.U) fun m t ht=>(J.Cc m t ht).2.2
 have h4:=J.AN
 unfold fZ at h2
 unfold rU
 omega
theorem gU {α:Type}(f:α->Nat):∀ {L:List α}{k:Nat}{x:α},L[k]? = some x->f x <= (L.map f).sum
 | [],_,_,h=>by cases h
 | z :: L,0,x,h=>by cases h;simp only[map_cons,sum_cons];omega
 | z :: L,k + 1,x,h=>by
  have:=gU f (L:=L) (k:=k) (x:=x) h
  simp only[map_cons,sum_cons];omega
theorem AV.sml {a:YA}{s:YS}(J:AV a s)(hd:s.done.length <= 100000):WT s:=by
 have h:=J.HD.2
 refine⟨fun k ln hk=>?_,fun p qs hp=>?_,hd⟩
 ·have:=gU (fun ln:bS=>ln.qs.length) hk
  unfold jM at h
  omega
 ·have:=gU (fun qs:List (Int × Int)=>qs.length) hp
  unfold iE at h
  omega
abbrev Es:=List (Nat × Nat)
noncomputable def lk (fs:Es)(p:Nat):Option Nat:=(fs.find? fun x=>decide (x.1=p)).map (·.2)
theorem gX {fs:Es}{p d:Nat}(h:lk fs p=some d):(p,d) ∈ fs:=by
 unfold lk at h
 cases e:fs.find? (fun x=>decide (x.1=p)) with
 | none=>rw[e]at h;cases h
 | some x =>
  rw[e]at h
  have h1:=List.find?_some e
  have h2:=List.mem_of_find?_eq_some e
  have h3:x.2=d:=Option.some.inj h
  have h4:x.1=p:=of_decide_eq_true h1
  rw[← h3,← h4];exact h2
theorem C9 {fs:Es}{p:Nat}:lk fs p=none↔p ∉ fs.map (·.1):=by
 unfold lk
 rw[Option.map_eq_none_iff,List.find?_eq_none]
 constructor
 ·intro h m
  obtain⟨x,hx,e⟩:=mem_map.mp m
  exact h x hx (decide_eq_true e)
 ·intro h x hx e
  exact h (mem_map.mpr ⟨x,hx,of_decide_eq_true e⟩)
theorem iu {fs:Es}(hn:(fs.map (·.1)).Nodup){p d:Nat}(h:(p,d) ∈ fs):lk fs p=some d:=by
 cases e:lk fs p with
 | none=>exact absurd (mem_map.mpr ⟨_,h,rfl⟩) (C9.mp e)
 | some d' =>
  have h':=gX e
  have:∀ {l:Es},(l.map (·.1)).Nodup->(p,d) ∈ l->(p,d') ∈ l->d' = d:=by
   intro l
   induction l with
   | nil=>intro _ h;cases h
   | cons x l ih =>
    intro hn h1 h2
    rw[map_cons,nodup_cons]at hn
    rcases mem_cons.mp h1 with h1 | h1
    ·rcases mem_cons.mp h2 with h2 | h2
     ·rw[← h1]at h2;exact(Prod.mk.inj h2).2
     ·exact absurd (mem_map.mpr ⟨_,h2,by rw[← h1]⟩) hn.1
    ·rcases mem_cons.mp h2 with h2 | h2
     ·exact absurd (mem_map.mpr ⟨_,h1,by rw[← h2]⟩) hn.1
     ·exact ih hn.2 h1 h2
  rw[this hn h h']
theorem gS:∀ (n:Nat)(l:List Nat),l.Nodup->(∀ x ∈ l,x < n)->l.length <= n
 | 0,l,_,h=>by
  cases l with
  | nil=>exact Nat.le_refl _
  | cons x l=>exact absurd (h x mem_cons_self) (not_lt_zero _)
 | n + 1,l,hn,h=>by
  by_cases hm:n ∈ l
  ·have e:=List.length_erase_of_mem hm
   have:=gS n (l.erase n) (hn.erase n) fun x hx=>by
    have Ct:=(hn.mem_erase_iff).mp hx
    have:=h x Ct.2
    have:=Ct.1
    omega
   omega
  ·have:=gS n l hn fun x hx=>by
    have:=h x hx
    have:x ≠ n:=fun z=>hm (by rw[← z];exact hx)
    omega
   omega
structure DI (n:Nat)(es:Es)(g:Nat)(fs:Es)(i:Nat):Prop where
 nd:(fs.map (·.1)).Nodup
 lt:∀ x ∈ fs,x.1 < n
 g0:(g,0) ∈ fs
 up:∀ p d,(p,d) ∈ fs->(p=g/\d=0)∨∃ q d',d=d' + 1/\(q,d') ∈ fs/\(p,q) ∈ es
 sorted:fs.Pairwise fun x y=>x.2 <= y.2
 near:∀ y,fs[i]? = some y->∀ x ∈ fs,x.2 <= y.2 + 1
 cl:∀ k q d:Nat,k < i->fs[k]? = some (q,d)->∀ s,(s,q) ∈ es->∃ d',(s,d') ∈ fs/\d' <= d + 1
 ix:∀ j p d:Nat,fs[j]? = some (p,d)->d <= j
 le:i <= fs.length
theorem DI.AN {n:Nat}{es:Es}{g:Nat}{fs:Es}{i:Nat}(b:DI n es g fs i):fs.length <= n:=by
 have:=gS n (fs.map (·.1)) b.nd fun x hx=>by
  obtain⟨y,hy,rfl⟩:=mem_map.mp hx
  exact b.lt y hy
 rwa [length_map]at this
theorem rD {n:Nat}{es:Es}{g:Nat}(hg:g < n):DI n es g [(g,0)] 0 where
 nd:=by simp
 lt:=fun x hx=>by rw[mem_singleton.mp hx];exact hg
 g0:=mem_singleton.mpr rfl
 up:=fun p d h=>by
  have:=mem_singleton.mp h
  exact .inl (Prod.mk.inj this)
 sorted:=by simp
 near:=fun y hy x hx=>by rw[mem_singleton.mp hx];exact zero_le _
 cl:=fun k _ _ h=>absurd h (not_lt_zero _)
 ix:=fun j p d h=>by
  cases j with
  | zero=>have:=Option.some.inj h;have:=(Prod.mk.inj this).2;omega
  | succ j=>simp at h
 le:=zero_le _
theorem DI.push {n:Nat}{es:Es}{g:Nat}{fs:Es}{i s p d:Nat}(b:DI n es g fs i)(hy:fs[i]? = some (p,d))(hs:s < n)(hl:(s,p) ∈ es)(hn:lk fs s=none):DI n es g (fs ++ [(s,d + 1)]) i where
 nd:=by
  rw[map_append,nodup_append]
  refine⟨b.nd,by simp,fun a ha c hc=>?_⟩
  have hc:c=s:=by simpa using hc
  intro z
  rw[z,hc]at ha
  exact C9.mp hn ha
 lt:=fun x hx=>by
  rcases mem_append.mp hx with h | h
  ·exact b.lt x h
  ·rw[mem_singleton.mp h];exact hs
 g0:=mem_append_left _ b.g0
 up:=fun q e h=>by
  rcases mem_append.mp h with h | h
  ·rcases b.up q e h with h | ⟨q',d',h1,h2,h3⟩
   ·exact .inl h
   ·exact .inr ⟨q',d',h1,mem_append_left _ h2,h3⟩
  ·obtain⟨h1,h2⟩:=Prod.mk.inj (mem_singleton.mp h)
   subst h1 h2
   exact .inr ⟨p,d,rfl,mem_append_left _ (mem_of_getElem? hy),hl⟩
 sorted:=by
  rw[List.pairwise_append]
  refine⟨b.sorted,by simp,fun x hx y hy'=>?_⟩
  rw[mem_singleton.mp hy']
  exact b.near _ hy x hx
 near:=fun y hy' x hx=>by
  have hi:i < fs.length:=(gQ0 hy)
  rw[getElem?_append_left hi,hy]at hy'
  rw[← Option.some.inj hy']
  rcases mem_append.mp hx with h | h
  ·exact b.near _ hy x h
  ·rw[mem_singleton.mp h];exact Nat.le_refl _
 cl:=fun k q e hk hq t ht=>by
  have hi:i < fs.length:=(gQ0 hy)
  rw[getElem?_append_left (by omega)]at hq
  obtain⟨d',h1,h2⟩:=b.cl k q e hk hq t ht
  exact⟨d',mem_append_left _ h1,h2⟩
 ix:=fun j q e h=>by
  have hi:i < fs.length:=(gQ0 hy)
  have hd:=b.ix i p d hy
  rcases lt_or_ge j fs.length with hj | hj
  ·rw[getElem?_append_left hj]at h;exact b.ix j q e h
  ·rw[getElem?_append_right hj]at h
   have hj0:j - fs.length=0:=by
    have:=(gQ0 h)
    simp at this;omega
   rw[hj0]at h
   have:=(Prod.mk.inj (Option.some.inj h)).2
   omega
 le:=le_trans b.le (by rw[length_append];omega)
theorem DI.next {n:Nat}{es:Es}{g:Nat}{fs:Es}{i p d:Nat}(b:DI n es g fs i)(hy:fs[i]? = some (p,d))(hc:∀ s,(s,p) ∈ es->s ∈ fs.map (·.1)):DI n es g fs (i + 1) where
 nd:=b.nd
 lt:=b.lt
 g0:=b.g0
 up:=b.up
 sorted:=b.sorted
 near:=fun y hy' x hx=>by
  have hi:i < fs.length:=(gQ0 hy)
  have J0:i + 1 < fs.length:=(gQ0 hy')
  have h1:=b.near _ hy x hx
  have h2:=pairwise_iff_getElem.mp b.sorted i (i + 1) hi J0 (lt_succ_self _)
  have e1:fs[i]=(p,d):=(List.getElem?_eq_some_iff.mp hy).2
  have e2:fs[i + 1]=y:=(List.getElem?_eq_some_iff.mp hy').2
  rw[e1,e2]at h2
  have h2:d <= y.2:=h2
  have h1:x.2 <= d + 1:=h1
  omega
 cl:=fun k q e hk hq s hs=>by
  rcases lt_or_ge k i with h | h
  ·exact b.cl k q e h hq s hs
  ·have:k=i:=by omega
   subst this
   rw[hy]at hq
   obtain⟨h1,h2⟩:=Prod.mk.inj (Option.some.inj hq)
   subst h1 h2
   obtain⟨x,hx,e⟩:=mem_map.mp (hc s hs)
   exact⟨x.2,by rw[← e];exact hx,b.near _ hy x hx⟩
 ix:=b.ix
 le:=(gQ0 hy)
structure zM (n:Nat)(es:Es)(g:Nat)(fs:Es):Prop where
 nd:(fs.map (·.1)).Nodup
 lt:∀ x ∈ fs,x.1 < n
 g0:lk fs g=some 0
 up:∀ p d,lk fs p=some d->(p=g/\d=0)∨∃ q d',d=d' + 1/\lk fs q=some d'/\(p,q) ∈ es
 cl:∀ s q d,(s,q) ∈ es->lk fs q=some d->∃ d',lk fs s=some d'/\d' <= d + 1
 AN:∀ p d,lk fs p=some d->d < n
theorem DI.DJ {n:Nat}{es:Es}{g:Nat}{fs:Es}(b:DI n es g fs fs.length):zM n es g fs where
 nd:=b.nd
 lt:=b.lt
 g0:=iu b.nd b.g0
 up:=fun p d h=>by
  rcases b.up p d (gX h) with h | ⟨q,d',h1,h2,h3⟩
  ·exact .inl h
  ·exact .inr ⟨q,d',h1,iu b.nd h2,h3⟩
 cl:=fun s q d hs hq=>by
  obtain⟨k,hk⟩:=List.getElem?_of_mem (gX hq)
  obtain⟨d',h1,h2⟩:=b.cl k q d (gQ0 hk) hk s hs
  exact⟨d',iu b.nd h1,h2⟩
 AN:=fun p d h=>by
  obtain⟨k,hk⟩:=List.getElem?_of_mem (gX h)
  have h1:=b.ix k p d hk
  have h2:=(gQ0 hk)
  have h3:=b.AN
  omega
noncomputable def fk (x:Nat × Nat):bX × V:=(Sum.inl (x.1:Int),V.int (x.2:Int))
noncomputable def zp (x:Nat × Nat):Int × Int:=((x.1:Int),(x.2:Int))
theorem gr (p:Nat):∀ fs:Es,gs (fs.map fk) (Sum.inl (p:Int))=(lk fs p).map fun d:Nat=>V.int (d:Int)
 | []=>rfl
 | x :: fs=>by
  have ih:=gr p fs
  unfold gs lk at ih ⊢
  rw[map_cons,find?_cons,find?_cons]
  by_cases h:x.1=p
  ·have h1:(fk x).1=(Sum.inl (p:Int):bX):=by rw[← h];rfl
   rw[decide_eq_true h,decide_eq_true h1];rfl
  ·have h1:¬ (fk x).1=(Sum.inl (p:Int):bX):=fun z=>h (by have:=Sum.inl.inj z;omega)
   rw[decide_eq_false h,decide_eq_false h1];exact ih
theorem y3 {fs:Es}{s d:Nat}(h:lk fs s=none):c3 (fs.map fk) (Sum.inl (s:Int)) (V.int (d:Int))=(fs ++ [(s,d)]).map fk:=by
 rw[tL _ (by rw[gr,h];rfl),map_append];rfl
noncomputable def gY (es:Es)(p:Nat):List Nat:=(List.range es.length).filter fun k=>decide ((es.getD k (0,0)).2=p)
noncomputable def eY (es:Es)(p:Nat):List Nat:=(List.range es.length).filter fun k=>decide ((es.getD k (0,0)).1=p)
theorem pw (es:Es)(k:Nat):(es.map zp).getD k (0,0)=zp (es.getD k (0,0)):=by
 rw[getD_eq_getElem?_getD,getD_eq_getElem?_getD,getElem?_map]
 cases es[k]?<;>rfl
theorem MN (es:Es)(p:Nat):j3 Prod.snd (es.map zp) (p:Int) (es.map zp).length=nV (gY es p):=by
 unfold j3 gY nV
 rw[length_map]
 congr 1
 refine filter_congr fun k _=>?_
 rw[pw]
 show decide (((es.getD k (0,0)).2:Int)=(p:Int))=decide ((es.getD k (0,0)).2=p)
 by_cases h:(es.getD k (0,0)).2=p
 ·rw[decide_eq_true h,decide_eq_true (by omega)]
 ·rw[decide_eq_false h,decide_eq_false (by omega)]
theorem y9 (es:Es)(p:Nat):j3 Prod.fst (es.map zp) (p:Int) (es.map zp).length=nV (eY es p):=by
 unfold j3 eY nV
 rw[length_map]
 congr 1
 refine filter_congr fun k _=>?_
 rw[pw]
 show decide (((es.getD k (0,0)).1:Int)=(p:Int))=decide ((es.getD k (0,0)).1=p)
 by_cases h:(es.getD k (0,0)).1=p
 ·rw[decide_eq_true h,decide_eq_true (by omega)]
 ·rw[decide_eq_false h,decide_eq_false (by omega)]
theorem vP (es:Es)(p:Nat):(eY es p).length <= es.length:=by
 unfold eY
 exact le_trans (length_filter_le _ _) (by rw[length_range];exact Nat.le_refl _)
theorem MO {es:Es}{p k:Nat}(h:k ∈ gY es p):∃ s,es[k]? = some (s,p)/\es.getD k (0,0)=(s,p):=by
 obtain⟨h1,h2⟩:=mem_filter.mp h
 have hk:=mem_range.mp h1
 have e:=getElem?_eq_getElem hk
 have e2:es.getD k (0,0)=es[k]:=by rw[getD_eq_getElem?_getD,e];rfl
 have h2:(es.getD k (0,0)).2=p:=of_decide_eq_true h2
 refine⟨es[k].1,?_,?_⟩
 ·rw[e,← h2,e2]
 ·rw[e2,← h2,e2]
noncomputable def Pm (n:Nat)(es:Es):Prop:=∀ e ∈ es,e.1 < n/\e.2 < n
noncomputable def xx (c:Cs):Sp:=fun vs H Q _=>∃ (lx Ao lt:Addr)(Aa:List V)(n:Nat)(es:Es)(g:Nat),vs=[.ref lx, .int g]/\ck H c lx Ao lt (n:Int) Aa (es.map zp)/\Pm n es/\es.length <= 100/\n <= 100/\g < n /\
 ∀ (fa:Addr)(fs:Es)(H':Hp),zO H H'->H fa=none->zM n es g fs->H' fa=some (.dK (fs.map fk))->Q (.ref fa) H'
structure Lm (K:Frag)(c:Cs)(fs fe fo fi:Addr)(ds de JG di:FuncData):Prop where
 ms:bu K c.land "start_of" fs
 bs:Binds K ds ["self", "lane"] []
 me:bu K c.land "end_of" fe
 be:Binds K de ["self", "lane"] []
 mo:bu K c.land "out_of" fo
 bo:Binds K JG ["self", "place"] []
 mi:bu K c.land "into" fi
 bi:Binds K di ["self", "place"] []
noncomputable abbrev NH:List Str:=["land", "goal", "far", "line", "looked_at", "place", "lane", "start"]
theorem HE:ao NH ["land", "goal"] (ah yt):=L2.Au
theorem yT {c:Cs}{f f1 f2 f3 f4:Addr}{fd d1 d2 d3 d4:FuncData}(F:Al K "how_far" "how_far" yt f fd)(T:eO mg)(L:kL K c)(M:Lm K c f1 f2 f3 f4 d1 d2 d3 d4)
  (Gs:zP P w K mg base aB 1 f1 d1 ["self", "lane"] (ot c Prod.fst)) (Gi:zP P w K mg base aB 1 f4 d4 ["self", "place"] (qC c Prod.snd)):zP P w K mg base aB 2 f fd ["land", "goal"] (xx c):=by
 refine F.ok HE (fun _ _ _ _ h=>?_) (fun _ _ _ s H _ Q E hr h=>?_)
 ·obtain⟨lx,Ao,lt,Aa,n,es,g,rfl,_⟩:=h
  rfl
 ·obtain⟨lx,Ao,lt,Aa,n,es,g,rfl,hL,Cd,HC,hn,hg,q⟩:=h
  have hu:=k9 hr
  refine⟨_,af (aC (i:=2) HE.nd rfl (Or.inl rfl) (vO (tQ (pv 1) aj vL) rfl rfl (by intro z;cases z) (by decide)))
   (af (aC (i:=3) HE.nd rfl (Or.inl rfl) (aV (aa (pv 1) ad)))
   (af (aC (i:=4) HE.nd rfl (Or.inl rfl) aj)
   (af (mj PassesOwn.never (aw m9 (pv 4) (av aq rfl T.len PySem.boot_len (aa (pv 3) ad)) (aA _))
    (af (aC (i:=5) HE.nd rfl (Or.inl rfl) (ay aT (pv 3) (pv 4) (fun _ _=>rfl)))
    (af (y4 (i:=4) HE.nd rfl (Or.inl rfl) aj zi)
    (ai (bF PassesOwn.never rfl (bT (aD (pv 0) L.cl M.mi Gi hr M.bi .nil ap (aa (pv 5) ad))) (ax (i:=6) HE.nd rfl (Or.inl rfl))
     (af (aC (i:=7) HE.nd rfl (Or.inl rfl) (aD (pv 0) L.cl M.ms Gs hr M.bs .nil ap (aa (pv 6) ad)))
     (ai (aQ (tM (qK hu (pv 7) (pv 2)))
      (af (vK hu (pv 2) (pv 7) (az bP (pK hu (pv 2) (pv 5) (fun _ _=>rfl)) aj) rfl)
      (ai (aM (cp plainAttrs_list PySem.F.slot_list_append PySem.F.type_list_append bE (pv 3) (aa (pv 7) ad))))) aH))))))))
   (ai (ar (pv 2)))))),?_⟩
  have land:∀ {H':Hp},zO H H'->ck H' c lx Ao lt (n:Int) Aa (es.map zp):=fun s'=>⟨s' _ _ hL.1,s' _ _ hL.2.1,Ak.same s' hL.2.2⟩
  refine fun fa DK=>⟨_,rfl,ac,[fk (g,0)],rfl,(by show 1 <= 15;decide),?_⟩
  have s0:zO H (upd (upd H fa (.dK [])) fa (.dK (fu [] [fk (g,0)]))):=fun b o e=>by rw[ae (ag e DK),ae (ag e DK)];exact e
  have Sf:(upd (upd H fa (.dK [])) fa (.dK (fu [] [fk (g,0)]))) fa=some (.dK ([(g,0)].map fk)):=ac
  generalize upd (upd H fa (.dK [])) fa (.dK (fu [] [fk (g,0)]))=H0 at s0 Sf ⊢
  refine⟨_,rfl,by show 1 <= sizeLine;decide,fun ln Ar=>?_⟩
  have s1:=s0.new (o := .lst [.int g]) Ar
  have Sg:H ln=none:=s0.free Ar
  have Pk:(upd H0 ln (.lst [.int g])) ln=some (.lst (nV ([(g,0)].map (·.1)))):=ac
  have WX:(upd H0 ln (.lst [.int g])) fa=some (.dK ([(g,0)].map fk)):=by rw[ae (ag Sf Ar)];exact Sf
  generalize upd H0 ln (.lst [.int g])=H1 at s1 Pk WX ⊢
  refine⟨fun m σ H'=>∃ (fs:Es)(i:Nat)(a5 a6 a7:Option V),m=n - i/\DI n es g fs i/\zO H H'/\H' fa=some (.dK (fs.map fk))/\H' ln=some (.lst (nV (fs.map (·.1))))/\σ=[some (.ref lx),some (.int g),some (.ref fa),some (.ref ln),some (.int (i:Nat)),a5,a6,a7],
   ⟨n - 0,[(g,0)],0,none,none,none,rfl,rD hg,s1,WX,Pk,rfl⟩,?_⟩
  rintro m σ H2 ⟨fs,i,a5,a6,a7,rfl,hB,s2,gf,gl,rfl⟩
  have Dr:=hB.AN
  refine⟨_,rfl,_,rfl,ln,_,rfl, .inl (zU.of gl),_,_,rfl,rfl,_,rfl,?_⟩
  by_cases hi:i < fs.length
  rotate_left
  ·have e:i=fs.length:=by have:=hB.le;omega
   subst e
   rw[decide_eq_false (by rw[dC,length_map];omega)]
   exact aI ⟨_,rfl,q fa fs H2 s2 DK hB.DJ gf⟩
  rw[decide_eq_true (by rw[dC,length_map];omega)]
  have hy:=getElem?_eq_getElem hi
  generalize fs[i]=pd at hy
  obtain⟨p,d⟩:=pd
  have hp:p < n:=hB.lt _ (mem_of_getElem? hy)
  have Br:(nV (fs.map (·.1)))[i]? = some (.int (p:Int)):=l4 (by rw[getElem?_map,hy];rfl)
  refine aJ ⟨fun σ' H'=>∃ (AD:Es)(a5 a6 a7:Option V),DI n es g AD (i + 1)/\zO H H'/\H' fa=some (.dK (AD.map fk))/\H' ln=some (.lst (nV (AD.map (·.1))))/\σ' = [some (.ref lx),some (.int g),some (.ref fa),some (.ref ln),some (.int ((i:Int) + 1)),a5,a6,a7],
   fun σ' H' zS=>by obtain⟨AD,a5,a6,a7,h1,h2,h3,h4,h5⟩:=zS;exact⟨n - (i + 1),by omega,AD,i + 1,a5,a6,a7,rfl,h1,h2,h3,h4,h5⟩,?_⟩
  refine⟨_,rfl,_,rfl,ln,_,_,_,rfl,rfl,zU.of gl,ak Br,?_⟩
  refine⟨_,rfl,_,_,rfl,rfl,?_⟩
  refine⟨_,rfl,lx,Ao,_,rfl,(land s2).1,rfl,_,rfl,lx,Ao,lt,(n:Int),Aa,es.map zp,(p:Int),rfl,land s2,by rw[length_map];omega,fun H3 Ia s3 JH=>?_⟩
  rw[MN]
  have u3:=s3.new (o := .lst (nV (gY es p))) JH
  have gI:(upd H3 Ia (.lst (nV (gY es p)))) Ia=some (.lst (nV (gY es p))):=ac
  have nIl:Ia ≠ ln:=Ne.symm (ag (s3 _ _ gl) JH)
  have nIf:Ia ≠ fa:=Ne.symm (ag (s3 _ _ gf) JH)
  have WY:ln ≠ fa:=aR gl gf (by intro z;cases z)
  generalize upd H3 Ia (.lst (nV (gY es p)))=H4 at u3 gI ⊢
  refine⟨Ia,rfl,⟨_,zU.of gI⟩,?_⟩
  refine gZ (K:=K) (a:=Ia) (xs:=nV (gY es p)) (fun m σ H5=>∃ (AD:Es)(a6 a7:Option V),DI n es g AD i/\AD[i]? = some (p,d)/\(∀ k ∈ (gY es p).take m,(es.getD k (0,0)).1 ∈ AD.map (·.1))/\zO H H5/\H5 Ia=some (.lst (nV (gY es p)))/\H5 fa=some (.dK (AD.map fk))/\H5 ln=some (.lst (nV (AD.map (·.1)))) /\
    σ=[some (.ref lx),some (.int g),some (.ref fa),some (.ref ln),some (.int ((i:Int) + 1)),some (.int p),a6,a7])
   ⟨fs,_,_,hB,hy,fun k hk=>by simp at hk,s2.trans u3,gI,u3 _ _ gf,u3 _ _ gl,rfl⟩ (fun m σ H5 _ zS=>by obtain⟨_,_,_,_,_,_,_,g5,_⟩:=zS;exact zU.of g5) ?_ ?_
  ·rintro m v σ H5 hv ⟨AD,a6,a7,JI,hy',Bo,s5,Sh,JK,Pn,rfl⟩
   have hm:m < (gY es p).length:=by have:=(gQ0 hv);rw[dC]at this;exact this
   have hk0:=getElem?_eq_getElem hm
   have Jr:=l4 hk0
   rw[Jr]at hv
   have hv:=Option.some.inj hv
   subst hv
   generalize hke:(gY es p)[m]=k at hk0
   obtain⟨st,hk1,MK⟩:=MO (mem_of_getElem? hk0)
   have MP:=mem_of_getElem? hk1
   have Dn:=(Cd _ MP).1
   have step:∀ {Si:Es},(∀ x ∈ AD.map (·.1),x ∈ Si.map (·.1))->st ∈ Si.map (·.1)->∀ k ∈ (gY es p).take (m + 1),(es.getD k (0,0)).1 ∈ Si.map (·.1):=fun KS IJ k' Rj=>by
    rw[take_succ,hk0]at Rj
    rcases mem_append.mp Rj with h | h
    ·exact KS _ (Bo k' h)
    ·have:k' = k:=by simpa using h
     rw[this,MK];exact IJ
   refine⟨_,rfl,lx,Ao,_,rfl,(land s5).1,rfl,_,rfl,lx,Ao,lt,(n:Int),Aa,es.map zp,k,zp (st,p),rfl,land s5,by rw[getElem?_map,hk1];rfl,?_⟩
   refine⟨_,rfl,_,rfl,fa,_,rfl,BJ.k (k:=Sum.inl (st:Int)) JK,_,rfl,?_⟩
   rw[gr]
   have WZ:=JI.AN
   cases D7:lk AD st with
   | some d'=>exact aI ⟨AD,_,_,JI,hy',step (fun x hx=>hx) (mem_map.mpr ⟨_,gX D7,rfl⟩),s5,Sh,JK,Pn,rfl⟩
   | none =>
    refine aJ ?_
    refine⟨_,rfl,_,rfl,fa, .int (d:Int),rfl,?_,_,_,rfl,rfl,_,rfl,_,rfl,fa,_,rfl,E6.k (k:=Sum.inl (st:Int)) JK (by rw[sizeLine_eq,length_map];omega),?_⟩
    ·have:=BJ.k (k:=Sum.inl (p:Int)) JK
     rw[gr,iu JI.nd (mem_of_getElem? hy')]at this
     exact this
    dsimp only
    have ep:c3 (AD.map fk) (Sum.inl (st:Int)) (V.int ((d:Int) + 1))=(AD ++ [(st,d + 1)]).map fk:=y3 (d:=d + 1) D7
    have Xa:(upd H5 fa (.dK (c3 (AD.map fk) (Sum.inl (st:Int)) (V.int ((d:Int) + 1))))) Ia=some (.lst (nV (gY es p))):=by rw[ae nIf];exact Sh
    have Sj:(upd H5 fa (.dK (c3 (AD.map fk) (Sum.inl (st:Int)) (V.int ((d:Int) + 1))))) ln=some (.lst (nV (AD.map (·.1)))):=by rw[ae WY];exact Pn
    have Xb:(upd H5 fa (.dK (c3 (AD.map fk) (Sum.inl (st:Int)) (V.int ((d:Int) + 1))))) fa=some (.dK ((AD ++ [(st,d + 1)]).map fk)):=by rw[ac,ep]
    have s6:zO H (upd H5 fa (.dK (c3 (AD.map fk) (Sum.inl (st:Int)) (V.int ((d:Int) + 1))))):=fun b o e=>by rw[ae (ag e DK)];exact s5 _ _ e
    generalize upd H5 fa (.dK (c3 (AD.map fk) (Sum.inl (st:Int)) (V.int ((d:Int) + 1))))=H6 at Xa Sj Xb s6 ⊢
    refine⟨_,rfl, .inl ⟨rfl,_,zU.of Sj⟩,_,rfl,ln,_,_,rfl,rfl,Sj,by rw[sizeLine_eq,dC,length_map];omega,?_⟩
    have J0:i < AD.length:=(gQ0 hy')
    refine⟨AD ++ [(st,d + 1)],_,_,JI.push hy' Dn MP D7,by rw[getElem?_append_left J0];exact hy',step (fun x hx=>by rw[map_append];exact mem_append_left _ hx) (by rw[map_append];exact mem_append_right _ (by simp)),fun b o e=>by rw[ae (ag e Sg)];exact s6 _ _ e,by rw[ae nIl];exact Xa,by rw[ae (Ne.symm WY)];exact Xb,?_,rfl⟩
    rw[ac,map_append,uw];rfl
  ·rintro σ H5 ⟨AD,a6,a7,JI,hy',Bo,s5,Sh,JK,Pn,rfl⟩
   rw[dC,take_length]at Bo
   refine⟨AD,_,_,_,JI.next hy' (fun st Dn=>?_),s5,JK,Pn,rfl⟩
   obtain⟨k,hk⟩:=List.getElem?_of_mem Dn
   have hk1:es.getD k (0,0)=(st,p):=by rw[getD_eq_getElem?_getD,hk];rfl
   have:=Bo k (mem_filter.mpr ⟨mem_range.mpr (gQ0 hk),by rw[hk1];exact decide_eq_true rfl⟩)
   rw[hk1]at this
   exact this
noncomputable def jy (fs:Es)(d:Nat)(e:Nat):Bool:=match lk fs e with
 | some d'=>decide (d' + 1=d)
 | none=>false
noncomputable def cI (es fs:Es)(p d:Nat):List Nat:=(eY es p).filter fun k=>jy fs d (es.getD k (0,0)).2
theorem tW (es:Es)(p:Nat):(eY es p).Pairwise (· < ·):=List.Pairwise.filter _ pairwise_lt_range
theorem qV (es fs:Es)(p d:Nat):(cI es fs p d).Pairwise (· < ·):=List.Pairwise.filter _ (tW es p)
theorem pU {es fs:Es}{p d k:Nat}(h:k ∈ cI es fs p d):k < es.length:=mem_range.mp (mem_filter.mp (mem_filter.mp h).1).1
theorem mI {ks:List Nat}(h:ks.Pairwise (· < ·)):wE (Yd.Ax ks 0)=nV ks:=by
 rw[wD,oN (ks:=ks) (ms:=iz ks) ?_ (fun k=>Iff.rfl),wK];rfl
 unfold iz
 exact List.Pairwise.map _ (fun a b Hq=>by show (a:Int) < (b:Int);omega) h
theorem yA {es:Es}{p k:Nat}(h:k ∈ eY es p):∃ e,es[k]? = some (p,e)/\es.getD k (0,0)=(p,e):=by
 obtain⟨h1,h2⟩:=mem_filter.mp h
 have hk:=mem_range.mp h1
 have e:=getElem?_eq_getElem hk
 have e2:es.getD k (0,0)=es[k]:=by rw[getD_eq_getElem?_getD,e];rfl
 have h2:(es.getD k (0,0)).1=p:=of_decide_eq_true h2
 refine⟨es[k].2,?_,?_⟩
 ·rw[e,← h2,e2]
 ·rw[e2,← h2,e2]
noncomputable def vN:V->Nat
 | .int z=>z.toNat
 | _=>0
theorem i9 (es fs:Es)(d:Nat):∀ l:List Nat,((nV l).filter fun v=>jy fs d (es.getD (vN v) (0,0)).2).map (fun v=>v)=nV (l.filter fun k=>jy fs d (es.getD k (0,0)).2)
 | []=>rfl
 | x :: l=>by
  have ih:=i9 es fs d l
  show((V.int (x:Int) :: nV l).filter _).map _=_
  rw[List.filter_cons,List.filter_cons]
  have e:vN (V.int (x:Int))=x:=toNat_natCast x
  rw[e]
  cases jy fs d (es.getD x (0,0)).2 with
  | true=>rw[if_pos rfl,if_pos rfl,map_cons,ih];rfl
  | false=>rw[if_neg (by decide),if_neg (by decide),ih]
noncomputable def MQ (c:Cs):Sp:=fun vs H Q _=>∃ (lx Ao lt fa:Addr)(Aa:List V)(n:Nat)(es fs:Es)(g p d:Nat),vs=[.ref lx, .ref fa, .int p]/\ck H c lx Ao lt (n:Int) Aa (es.map zp)/\es.length <= 100/\Rd H fa (.dK (fs.map fk))/\zM n es g fs/\lk fs p=some d /\
 ∀ (D:Addr)(H':Hp),zO H H'->H D=none->H' D=some (.lst (nV (cI es fs p d)))->Q (.ref D) H'
theorem tI {H:Hp}{fa:Addr}{fs:Es}(h:Rd H fa (.dK (fs.map fk)))(p:Nat):BJ H fa (.int (p:Int)) ((lk fs p).map fun d:Nat=>V.int (d:Int)) := .inl ⟨_,Sum.inl (p:Int),h,rfl,(gr p fs).symm⟩
theorem lh {H H':Hp}{a:Addr}{u:HO}(s:zO H H')(h:Rd H a u):Rd H' a u:=by
 rcases h with h | ⟨o,h⟩
 ·exact .inl (s _ _ h)
 ·exact .inr ⟨o,s _ _ h⟩
noncomputable def MR (s:Stmt):Scope:=match aF s with
 | .Return (some (.ListComp _ _ sc _)) _ :: _=>sc
 | _=>zQ0
theorem Sk:ao ["land", "far", "place"] ["land", "far", "place"] (ah Lq):=L2.Au
theorem Sl:Bk ["land", "far", "place"] (ah Lq) (MR Lq) ["land", "far", "place"] [0,1,2]:=L2.Cg
theorem Sm:(["lane", "land", "far", "place"]:List Str).Nodup:=by decide +kernel
theorem MS {c:Cs}{f f1 f2 f3 f4:Addr}{fd d1 d2 d3 d4:FuncData}(F:Al K "nearer_lanes" "nearer_lanes" Lq f fd)(T:eO mg)(L:kL K c)(M:Lm K c f1 f2 f3 f4 d1 d2 d3 d4)
  (Ge:zP P w K mg base aB 1 f2 d2 ["self", "lane"] (ot c Prod.snd)) (Go:zP P w K mg base aB 1 f3 d3 ["self", "place"] (qC c Prod.fst)):zP P w K mg base aB 2 f fd ["land", "far", "place"] (MQ c):=by
 refine F.ok Sk (fun _ _ _ _ h=>?_) (fun _ _ _ s H _ Q E hr h=>?_)
 ·obtain⟨lx,Ao,lt,fa,Aa,n,es,fs,g,p,d,rfl,_⟩:=h
  rfl
 ·obtain⟨lx,Ao,lt,fa,Aa,n,es,fs,g,p,d,rfl,hL,HC,DK,hF,D7,q⟩:=h
  have hu:=k9 hr
  refine⟨_,ai (ar (bv (own:=["lane"]) (capN:=["land", "far", "place"]) (cap:=[0,1,2]) Sl rfl (bT (aD (pv 0) L.cl M.mo Go hr M.bo .nil ap (aa (pv 2) ad)))
   (fun C s' H' fp=>⟨ax (i:=0) Sm rfl (Or.inl rfl),cf (aw bB (tT hu (pv 2) (aD (pv 1) L.cl M.me Ge hr M.be .nil ap (aa (pv 0) ad)) ⟨rfl,rfl,rfl,rfl⟩) (az dB (pK hu (pv 2) (pv 3) (fun _ _=>rfl)) aj) (aA _)),pv 0⟩))),?_⟩
  refine⟨_,rfl,lx,Ao,_,rfl,hL.1,rfl,_,rfl,lx,Ao,lt,(n:Int),Aa,es.map zp,(p:Int),rfl,hL,by rw[length_map];omega,fun H1 O s1 hO=>?_⟩
  rw[y9]
  have s2:=s1.new (o := .lst (nV (eY es p))) hO
  have gO:(upd H1 O (.lst (nV (eY es p)))) O=some (.lst (nV (eY es p))):=ac
  generalize upd H1 O (.lst (nV (eY es p)))=H2 at s2 gO ⊢
  have Ii:=vP es p
  refine⟨O,rfl,⟨_,zU.of gO⟩,fE (fun v=>jy fs d (es.getD (vN v) (0,0)).2) (fun v=>v) (by rw[sizeLine_eq,dC];omega) (zU.of gO) ?_ ?_⟩
  ·intro v acc N hv hN
   obtain⟨k,hk,rfl⟩:=uu hv
   obtain⟨e,he1,EZ⟩:=yA hk
   have ek:vN (V.int (k:Int))=k:=toNat_natCast k
   rw[ek,EZ]at hN
   have hN:N (if jy fs d e=true then acc ++ [V.int (k:Int)] else acc) H2:=hN
   have gd:=tI (lh s2 DK) p
   rw[D7]at gd
   refine⟨_,rfl,fa,rfl, .inl ⟨_,lh s2 DK⟩,_,rfl,lx,Ao,_,rfl,s2 _ _ hL.1,rfl,_,rfl,lx,Ao,lt,(n:Int),Aa,es.map zp,k,zp (p,e),rfl,⟨s2 _ _ hL.1,s2 _ _ hL.2.1,Ak.same s2 hL.2.2⟩,by rw[getElem?_map,he1];rfl,_,tI (lh s2 DK) e,?_⟩
   refine⟨_,rfl,_,rfl,fa,_,rfl,gd,_,_,rfl,rfl,?_⟩
   unfold jy at hN
   cases hle:lk fs e with
   | none =>
    rw[hle]at hN
    refine⟨rfl,_,rfl,?_⟩
    exact aI hN
   | some d' =>
    rw[hle]at hN
    refine⟨rfl,_,rfl,?_⟩
    show(if decide (V.int (d':Int)=V.int ((d:Int) - 1))=true then _ else _)
    by_cases hd:d' + 1=d
    ·have hN:N (if decide (d' + 1=d)=true then acc ++ [V.int (k:Int)] else acc) H2:=hN
     rw[decide_eq_true hd,if_pos rfl]at hN
     rw[decide_eq_true (by rw[show (d:Int) - 1=(d':Int) by omega])]
     exact aJ ⟨_,rfl,hN⟩
    ·have hN:N (if decide (d' + 1=d)=true then acc ++ [V.int (k:Int)] else acc) H2:=hN
     rw[decide_eq_false hd,if_neg (by decide)]at hN
     rw[decide_eq_false (fun z=>hd (by injection z with z;omega))]
     exact aI hN
  ·intro D hD
   rw[i9]
   exact q D _ (s2.new hD) (s2.free hD) ac
structure nN where
 tab:Addr
 near:Addr
noncomputable def kk (p g:Nat):fX:=[some (p:Int),some (g:Int)]
theorem D8 {p g p' g':Nat}:kk p g=kk p' g'↔p=p'/\g=g':=by
 unfold kk
 constructor
 ·intro h
  have h1:=List.cons.inj h
  have h2:=List.cons.inj h1.2
  have e1:=Option.some.inj h1.1
  have e2:=Option.some.inj h2.1
  omega
 ·rintro⟨rfl,rfl⟩;rfl
noncomputable def rn (es fs:Es)(p:Nat):Option V:=(lk fs p).map fun d=>V.int (Yd.Ax (cI es fs p d) 0:Nat)
noncomputable def nI (n:Nat)(es:Es)(kvs:List dH)(G:Nat):Prop:=(∀ g,g < G->∃ fs,zM n es g fs/\∀ p,bY kvs (kk p g)=rn es fs p)/\∀ g,G <= g->∀ p,bY kvs (kk p g)=none
noncomputable def vd (n:Nat)(es:Es)(kvs:List dH)(G:Nat)(fs:Es)(j:Nat):Prop:=(∀ g,g < G->∃ fs,zM n es g fs/\∀ p,bY kvs (kk p g)=rn es fs p)/\(∀ p,bY kvs (kk p G)=if p ∈ (fs.take j).map (·.1) then rn es fs p else none)/\∀ g,G < g->∀ p,bY kvs (kk p g)=none
theorem rm {n:Nat}{es:Es}{kvs:List dH}{G:Nat}{fs:Es}(h:nI n es kvs G):vd n es kvs G fs 0 :=
 ⟨h.1,fun p=>by rw[h.2 G (Nat.le_refl _) p,if_neg (by simp)],fun g hg p=>h.2 g (by omega) p⟩
theorem wT {n:Nat}{es:Es}{kvs:List dH}{G:Nat}{fs:Es}(f:zM n es G fs)(h:vd n es kvs G fs fs.length):nI n es kvs (G + 1):=by
 refine⟨fun g hg=>?_,fun g hg p=>h.2.2 g (by omega) p⟩
 rcases lt_or_ge g G with h1 | h1
 ·exact h.1 g h1
 ·have e:g=G:=by omega
  subst e
  refine⟨fs,f,fun p=>?_⟩
  rw[h.2.1 p,take_length]
  by_cases hp:p ∈ fs.map (·.1)
  ·rw[if_pos hp]
  ·rw[if_neg hp];unfold rn;rw[C9.mpr hp];rfl
theorem uI {n:Nat}{es:Es}{kvs:List dH}{G:Nat}{fs:Es}{j p d:Nat}{b:Addr}(hn:(fs.map (·.1)).Nodup)(hj:fs[j]? = some (p,d))(h:vd n es kvs G fs j) :
  vd n es (eW kvs (kk p G) b (.int (Yd.Ax (cI es fs p d) 0:Nat))) G fs (j + 1):=by
 have D7:=iu hn (mem_of_getElem? hj)
 refine⟨fun g hg=>?_,fun p'=>?_,fun g hg p'=>?_⟩
 ·obtain⟨AD,f',h'⟩:=h.1 g hg
  refine⟨AD,f',fun p'=>?_⟩
  rw[gw,if_neg (fun z=>by have:=(D8.mp z).2;omega),h' p']
 ·rw[gw]
  by_cases e:p' = p
  ·subst e
   rw[if_pos rfl,if_pos (by rw[take_succ,hj,map_append];exact mem_append_right _ (by simp))]
   unfold rn;rw[D7];rfl
  ·rw[if_neg (fun z=>e (D8.mp z).1),h.2.1 p',take_succ,hj,map_append]
   by_cases hm:p' ∈ (fs.take j).map (·.1)
   ·rw[if_pos hm,if_pos (mem_append_left _ hm)]
   ·rw[if_neg hm,if_neg]
    intro z
    rcases mem_append.mp z with z | z
    ·exact hm z
    ·exact e (by simpa using z)
 ·rw[gw,if_neg (fun z=>by have:=(D8.mp z).2;omega),h.2.2 g hg p']
noncomputable def xh (P:Program)(w:World)(H:Hp)(ts:nN)(x dx:Addr)(lx:Addr)(de:Addr)(kvs:List dH):Prop:=H x=some (.ins ts.near dx [("land", .ref lx),("entries", .ref de)])/\AI P w H de kvs
noncomputable def sm (P:Program)(w:World)(c:Cs)(ts:nN):Sp:=fun vs H Q _=>∃ (x dx lx Ao lt:Addr)(Aa:List V)(n:Nat)(es:Es),vs=[.ref x, .ref lx]/\H x=some (.ins ts.near dx [])/\ck H c lx Ao lt (n:Int) Aa (es.map zp)/\Pm n es/\es.length <= 100/\n <= 100 /\
 ∀ H' de kvs,Off x H H'->xh P w H' ts x dx lx de kvs->nI n es kvs n->Q .Af H'
structure Sn (K:Frag)(mg:Str->Option Value)(ts:nN)(f1:Addr)(d1:FuncData):Prop where
 cl:Cr K ts.near
 n1:Ac K ts.near "land"
 n2:Ac K ts.near "entries"
 mt:mg "Table" = some (.ref ts.tab)
 cm:ve K ts.tab "__init__" f1
 bt:Binds K d1 ["self", "land"] []
abbrev NNr:List Str:=["self", "land", "goal", "far", "place"]
theorem FG:ao NNr ["self", "land"] (ah sX):=L2.Au
theorem wk {c:Cs}{ts:nN}{f ft fh fn fs:Addr}{fd dt dh dn ds:FuncData}(F:Al K "__init__" "Nearer.__init__" sX f fd)(T:eO mg)(L:kL K c)(B:Sn K mg ts ft dt)(G1:zP P w K mg base aB 1 ft dt ["self", "land"] (rY K))
  (mh:mg "how_far" = some (.ref fh)) (kh:keepIn K (.ref fh)=true) (bh:Binds K dh ["land", "goal"] []) (Gh:zP P w K mg base aB 2 fh dh ["land", "goal"] (xx c))
  (mn:mg "nearer_lanes" = some (.ref fn)) (kn:keepIn K (.ref fn)=true) (bn:Binds K dn ["land", "far", "place"] []) (Gn:zP P w K mg base aB 2 fn dn ["land", "far", "place"] (MQ c))
  (ms:mg "set_of" = some (.ref fs)) (ks:keepIn K (.ref fs)=true) (bs:Binds K ds ["numbers"] []) (Gs:zP P w K mg base aB 1 fs ds ["numbers"] (rZ K)) :
  zP P w K mg base aB 3 f fd ["self", "land"] (sm P w c ts):=by
 refine F.ok FG (fun _ _ _ _ h=>?_) (fun _ _ _ s H _ Q E hr h=>?_)
 ·obtain⟨x,dx,lx,Ao,lt,Aa,n,es,rfl,_⟩:=h
  rfl
 ·obtain⟨x,dx,lx,Ao,lt,Aa,n,es,rfl,hx,hL,Cd,HC,hn,q⟩:=h
  have AM:zZ 1 _:=hr.mono (by decide)
  have hu:=k9 hr
  refine⟨_,af (aM (m6 (eA (v := .ref ts.tab) rfl B.mt rfl) B.cm G1 AM B.bt .nil ap (aa (pv 0) (aa (pv 1) ad))))
   (af (aU (pv 0) (show PE _ _ (rR P w) from pJ) rfl)
   (ai (bF PassesOwn.never rfl (aL rfl T.range (aa (al (pv 1) rfl) ad)) (ax (i:=2) FG.nd rfl (Or.inl rfl))
    (af (aC (i:=3) FG.nd rfl (Or.inl rfl) (au Gh hr rfl mh kh bh .nil ap (aa (pv 1) (aa (pv 2) ad))))
    (ai (bF PassesOwn.never rfl (vM (pv 3)) (ax (i:=4) FG.nd rfl (Or.inl rfl))
     (ai (pI hu (al (pv 0) rfl) (bK (aa (pv 4) (aa (pv 2) ad))) (au Gs AM rfl ms ks bs .nil ap (aa (au Gn hr rfl mn kn bn .nil ap (aa (pv 1) (aa (pv 3) (aa (pv 4) ad)))) ad)) rfl)))))))),?_⟩
  refine⟨rfl,_,rfl,_,rfl,x,ts.near,dx,_,rfl,hx,B.cl,B.n1,?_⟩
  refine fun de Dj=>⟨_,rfl,x,ts.near,dx,[("land", .ref lx)],rfl,by rw[ae (ag ac Dj)];exact ac,B.cl,B.n2,by show 1 < 1000;decide,?_⟩
  have Fe:x ≠ de:=ag ac Dj
  have EA:H de=none:=by rw[ae (Ne.symm Fe)]at Dj;exact Dj
  generalize Ey:upd (upd (upd H x (.ins ts.near dx [("land", .ref lx)])) de (jJ P w de [])) x (.ins ts.near dx (aK "entries" (.ref de) [("land", .ref lx)]))=H2
  have o2:Off x H H2:=fun b o hb e=>by rw[← Ey,ae hb,ae (ag e EA),ae hb];exact e
  have x2:H2 x=some (.ins ts.near dx [("land", .ref lx),("entries", .ref de)]):=by rw[← Ey,ac];rfl
  have d2:AI P w H2 de []:=⟨by rw[← Ey,ae (Ne.symm Fe),ac],fun y hy=>by cases hy⟩
  have Cb:=Off.land o2 hx hL
  refine⟨_,rfl,lx,c.land,Ao,_,_,rfl,Cb.1,L.cl,L.np,rfl,(n:Int),rfl,by omega,by omega,?_⟩
  rw[toNat_natCast]
  refine b8 (n:=n) (fun G σ H3=>∃ (a2 a3 a4:Option V)(kvs:List dH),Off x H H3/\xh P w H3 ts x dx lx de kvs/\kvs.length <= G * 100/\nI n es kvs G/\σ=[some (.ref x),some (.ref lx),a2,a3,a4])
   ⟨none,none,none,[],o2,⟨x2,d2⟩,zero_le _,⟨fun g hg=>absurd hg (not_lt_zero _),fun g _ p=>rfl⟩,rfl⟩ ?_ ?_
  ·rintro G σ H3 hG ⟨a2,a3,a4,kvs,o3,n3,l3,e3,rfl⟩
   rw[zero_add]
   have C5:=Off.land o3 hx hL
   refine⟨_,rfl,_,rfl,lx,Ao,lt,Aa,n,es,G,rfl,C5,Cd,HC,hn,hG,fun fa AD H4 s4 DK hF gfa=>?_⟩
   have Dr:AD.length <= n:=by
    have:=gS n (AD.map (·.1)) hF.nd fun y hy=>by
     obtain⟨z,hz,rfl⟩:=mem_map.mp hy
     exact hF.lt z hz
    rwa [length_map]at this
   refine⟨_,rfl,fa,_,rfl,gfa,fun ob=>?_⟩
   have Xc:(upd H4 fa (.BA ob (.dK (AD.map fk)))) fa=some (.BA ob (.dK (AD.map fk))):=ac
   have s5:zO H3 (upd H4 fa (.BA ob (.dK (AD.map fk)))):=fun b o e=>by rw[ae (ag e DK)];exact s4 _ _ e
   generalize upd H4 fa (.BA ob (.dK (AD.map fk)))=H5 at Xc s5 ⊢
   have nfa:H fa=none∨fa=x:=by
    by_cases h:fa=x
    ·exact .inr h
    ·exact .inl (by cases e:H fa with | none=>rfl | some o=>rw[o3 _ _ h e]at DK;cases DK)
   refine uG (a:=fa) (o:=ob) (kvs:=AD.map fk) (fun j σ H6=>∃ (a4:Option V)(kvs:List dH),Off x H H6/\xh P w H6 ts x dx lx de kvs/\kvs.length <= G * 100 + j/\vd n es kvs G AD j/\H6 fa=some (.BA ob (.dK (AD.map fk)))/\σ=[some (.ref x),some (.ref lx),some (.int G),some (.ref fa),a4])
    ⟨_,kvs,o3.same s5,⟨s5 _ _ n3.1,n3.2.same s5⟩,l3,rm e3,Xc,rfl⟩ (fun j σ H6 _ zS=>by obtain⟨_,_,_,_,_,_,g6,_⟩:=zS;exact g6) ?_ ?_
   ·rintro j k σ H6 hk ⟨a4,kvs,o6,n6,l6,e6,g6,rfl⟩
    have hj:j < AD.length:=by have:=(gQ0 hk);simpa using this
    have hjp:=getElem?_eq_getElem hj
    generalize AD[j]=pd at hjp
    obtain⟨p,d⟩:=pd
    have ek:k=Sum.inl (p:Int):=by
     rw[getElem?_map,getElem?_map,hjp]at hk
     exact(Option.some.inj hk).symm
    subst ek
    rw[show kV (Sum.inl (p:Int))=V.int (p:Int) from rfl]
    have D7:=iu hF.nd (mem_of_getElem? hjp)
    have hL6:=Off.land o6 hx hL
    refine⟨_,rfl,_,rfl,_,rfl,lx,Ao,lt,fa,Aa,n,es,AD,G,p,d,rfl,hL6,HC, .inr ⟨_,g6⟩,hF,D7,fun O H7 s7 hO gO=>?_⟩
    refine⟨O,cI es AD p d,rfl,zU.of gO,fun k hk=>by have:=pU hk;omega,?_⟩
    have n7x:=s7 _ _ n6.1
    refine⟨_,rfl,x,ts.near,dx,_,_,rfl,n7x,B.cl,B.n2,rfl,_,rfl,_,rfl,by show 2 <= sizeLine;decide,fun kt Rn=>?_⟩
    have s8:=s7.new (o := .tup [.int p, .int G]) Rn
    have k8:(upd H7 kt (.tup [.int p, .int G])) kt=some (.tup ((kk p G).map rH)):=ac
    generalize upd H7 kt (.tup [.int p, .int G])=H8 at s8 k8 ⊢
    have d8:=n6.2.same s8
    refine⟨de,kvs,kk p G,kt,rfl,d8,rfl,k8,by rw[sizeLine_eq];have:G * 100 <= 100 * 100:=Nat.mul_le_mul_right _ (by omega);omega,?_⟩
    have nfd:fa ≠ de:=fun z=>by
     have h1:=s8 _ _ g6
     rw[z,d8.1]at h1
     cases h1
    have MT:∀ b ks,H8 b=some (.tup ks)->(upd H8 de (jJ P w de (eW kvs (kk p G) kt (.int (Yd.Ax (cI es AD p d) 0:Nat))))) b=some (.tup ks):=fun b ks e=>by
     rw[ae (fun z=>by rw[z,d8.1]at e;cases e)];exact e
    refine⟨_,eW kvs (kk p G) kt (.int (Yd.Ax (cI es AD p d) 0:Nat)),fun b o hb e=>?_,⟨?_,ac,jY (F:=fun k a=>(upd H8 de (jJ P w de (eW kvs (kk p G) kt (.int (Yd.Ax (cI es AD p d) 0:Nat))))) a=some (.tup (k.map rH))) (fun y hy=>MT _ _ (d8.2 y hy)) (MT _ _ k8)⟩,?_,uI hF.nd hjp e6,?_,rfl⟩
    ·rw[ae (ag e EA)];exact s8 _ _ (o6 _ _ hb e)
    ·rw[ae Fe];exact s8 _ _ n6.1
    ·have:=eV (kvs:=kvs) (k:=kk p G) (b:=kt) (v := .int (Yd.Ax (cI es AD p d) 0:Nat));omega
    ·rw[ae nfd];exact s8 _ _ g6
   ·rintro σ H6 ⟨a4,kvs,o6,n6,l6,e6,g6,rfl⟩
    rw[length_map]at l6 e6
    refine⟨_,_,_,kvs,o6,n6,?_,wT hF e6,rfl⟩
    rw[Nat.succ_mul];omega
  ·rintro σ H3 ⟨a2,a3,a4,kvs,o3,n3,l3,e3,rfl⟩
   exact q H3 de kvs o3 n3 e3
noncomputable def kN (es fs:Es)(p:Nat):List Nat:=match lk fs p with
 | some d=>cI es fs p d
 | none=>[]
theorem lK (es fs:Es)(p:Nat):(kN es fs p).Pairwise (· < ·):=by
 unfold kN
 split
 ·exact qV _ _ _ _
 ·exact List.Pairwise.nil
theorem rL {es fs:Es}{p k:Nat}(h:k ∈ kN es fs p):k < es.length:=by
 unfold kN at h
 split at h
 ·exact pU h
 ·cases h
theorem wG {H:Hp}{l:Addr}{xs:List V}{o:HO}(hl:H l=some (.lst xs)):∀ {vs:List V}{ps:List (Int × Int)},Ak H vs ps->Ak (upd H l o) vs ps:=fun zS=>by
 induction zS with
 | nil=>exact .nil
 | cons zz r ih=>obtain⟨t,e,q⟩:=zz;exact .cons ⟨t,e,by rw[ae (aR q hl (by intro z;cases z))];exact q⟩ ih
theorem wF {ks:List Nat}(h:ks.Pairwise (· < ·)):mN (Yd.Ax ks 0)=ks:=uv (mI h)
noncomputable def MU (kvs:List dH):Wf:=fun p g _=>mN (vN ((bY kvs (kk p g)).getD (.int 0)))
noncomputable def JL (P:Program)(w:World)(ts:nN):TJ:=fun H x n wy=>∃ (dx lx de:Addr)(kvs:List dH)(es:Es),xh P w H ts x dx lx de kvs/\nI n es kvs n/\es.length <= 100/\∀ p g k,p < n->g < n->wy p g k=MU kvs p g k
theorem py {n:Nat}{es:Es}{kvs:List dH}(h:nI n es kvs n){g:Nat}(hg:g < n)(p:Nat)(k:Option Nat):∃ fs,zM n es g fs/\MU kvs p g k=kN es fs p/\(bY kvs (kk p g)).getD (.int 0) = .int (Yd.Ax (kN es fs p) 0:Nat):=by
 obtain⟨fs,hF,hv⟩:=h.1 g hg
 have ev:(bY kvs (kk p g)).getD (.int 0) = .int (Yd.Ax (kN es fs p) 0:Nat):=by
  rw[hv p]
  unfold rn kN
  cases lk fs p<;>rfl
 refine⟨fs,hF,?_,ev⟩
 unfold MU
 rw[ev]
 show mN (((Yd.Ax (kN es fs p) 0:Nat):Int)).toNat=_
 rw[toNat_natCast,wF (lK es fs p)]
theorem xF {n:Nat}{es:Es}{kvs:List dH}(h:nI n es kvs n){g p z:Nat}{k:Option Nat}(hg:g < n)(hz:z ∈ MU kvs p g k):z < es.length:=by
 obtain⟨fs,_,e,_⟩:=py h hg p k
 rw[e]at hz
 exact rL hz
theorem JL.keep {P:Program}{w:World}{ts:nN}{H H':Hp}{x:Addr}{n:Nat}{wy:Wf}(h:JL P w ts H x n wy)(k:Ap H H'):JL P w ts H' x n wy:=by
 obtain⟨dx,lx,de,kvs,es,⟨h1,h2,h3⟩,h4⟩:=h
 exact⟨dx,lx,de,kvs,es,⟨k _ _ h1 True.intro,k _ _ h2 True.intro,fun y hy=>k _ _ (h3 y hy) True.intro⟩,h4⟩
noncomputable def pC:Sp:=fun vs H Q _=>∃ (n m:Nat)(c:Int),vs=[.int n, .int m, .int c]/\2 <= n/\n <= 12/\m <= 100/\∀ (D:Addr)(Ad:List V)(es:Es)(H':Hp),zO H H'->H D=none->H' D=some (.lst Ad)->Ak H' Ad (es.map zp)->Pm n es->(∀ e ∈ es,e.1 ≠ e.2)->es.length=m->Q (.ref D) H'
noncomputable abbrev NLn:List Str:=["_law_places", "_law_amount", "_law_cell", "_law_lanes_here", "_law_k", "_law_draw", "_law_start"]
theorem v6:ao ["self", "lane"] ["self", "lane"] (ah ow):=L2.Au
theorem uc {c:Cs}{f:Addr}{fd:FuncData}(F:Al K "start_of" "Land.start_of" ow f fd)(L:kL K c):zP P w K mg base aB 1 f fd ["self", "lane"] (ot c Prod.fst):=by
 refine F.ok v6 (fun _ _ _ _ h=>?_) (fun _ _ _ s H _ Q E hr h=>?_)
 ·obtain⟨x,dx,t,n,Aa,ps,k,pr,rfl,_⟩:=h
  rfl
 ·obtain⟨x,dx,t,n,Aa,ps,k,pr,rfl,⟨hx,ht,hl⟩,hk,q⟩:=h
  refine⟨_,ai (ar (ay aE (ay aE (al (pv 0) rfl) (pv 1) (fun _ _=>rfl)) aj (fun _ _=>rfl))),?_⟩
  obtain⟨v,hv,u,rfl,hu⟩:=Ak.F1 hl hk
  refine⟨_,rfl,x,c.land,dx,_,_,rfl,hx,L.cl,L.nl,rfl,_,rfl,t,_,_,_,rfl,rfl,Ab.of ht,ak hv,u,_,0,_,rfl,rfl,Ab.of hu,ak (j:=0) rfl,q⟩
theorem So:ao ["self", "place", "goal", "came"] ["self", "place", "goal", "came"] (ah sP):=L2.Au
theorem ua {ts:nN}{f fm f1:Addr}{fd dm d1:FuncData}(F:Al K "ways" "Nearer.ways" sP f fd)(B:Sn K mg ts f1 d1)(mm:mg "members" = some (.ref fm))(km:keepIn K (.ref fm)=true)(bm:Binds K dm ["some"] [])
  (Gm:zP P w K mg base aB 2 fm dm ["some"] sr):zP P w K mg base aB 3 f fd ["self", "place", "goal", "came"] (dY (JL P w ts)):=by
 refine F.ok So (fun _ _ _ _ h=>?_) (fun _ _ _ s H _ Q E hr h=>?_)
 ·obtain⟨x,n,wy,p,g,k,rfl,_⟩:=h
  rfl
 ·obtain⟨x,n,wy,p,g,k,rfl,⟨dx,lx,de,kvs,es,hx,hE,HC,hwy⟩,hp,hg,q⟩:=h
  rw[hwy p g k hp hg]at q
  have hu:=k9 hr
  refine⟨_,ai (ar (au Gm hr rfl mm km bm .nil ap (aa (m5 hu (al (pv 0) rfl) (aa (bK (aa (pv 1) (aa (pv 2) ad))) (aa aj ad))) ad))),?_⟩
  refine⟨_,rfl,x,ts.near,dx,_,_,rfl,hx.1,B.cl,B.n2,rfl,de,kvs,rfl,hx.2,?_⟩
  refine⟨_,rfl,_,rfl,by show 2 <= sizeLine;decide,fun t ht=>?_⟩
  have s1:zO H (upd H t (.tup [.int p, .int g])):=(zO.refl H).new ht
  refine⟨_,_,bY kvs (kk p g),rfl,⟨kvs,kk p g,t,hx.2.same s1,rfl,ac,rfl⟩,?_⟩
  obtain⟨fs,hF,ew,ev⟩:=py hE hg p k
  rw[ev]
  refine⟨_,rfl,lt_of_lt_of_le (sL fun k hk=>rL hk) (pow_le_pow_right (by decide) (by omega)),fun D hD=>?_⟩
  exact q D _ (s1.new hD) (s1.free hD) (by rw[ac,mI (lK es fs p),ew])
theorem EJ:ao NLn ["_law_places", "_law_amount", "_law_cell"] (ah oA):=L2.Au
theorem uj {f fm:Addr}{fd dm:FuncData}(F:Al K "_law_lanes" "_law_lanes" oA f fd)(T:eO mg)(mm:mg "_law_mixed" = some (.ref fm))(km:keepIn K (.ref fm)=true)(bm:Binds K dm ["_law_cell", "_law_k"] [])
  (Gm:zP P w K mg base aB 1 fm dm ["_law_cell", "_law_k"] ji):zP P w K mg base aB 2 f fd ["_law_places", "_law_amount", "_law_cell"] pC:=by
 refine F.ok EJ (fun _ _ _ _ h=>?_) (fun _ _ _ s H _ Q E hr h=>?_)
 ·obtain⟨n,m,c,rfl,_⟩:=h
  rfl
 ·obtain⟨n,m,c,rfl,Eh,LQ,hm,q⟩:=h
  refine⟨_,af (aC (i:=3) EJ.nd rfl (Or.inl rfl) (aV ad))
   (af (bF PassesOwn.never rfl (aL rfl T.range (aa (pv 1) ad)) (ax (i:=4) EJ.nd rfl (Or.inl rfl))
    (af (aC (i:=5) EJ.nd rfl (Or.inl rfl) (au Gm hr rfl mm km bm .nil ap (aa (pv 2) (aa (pv 4) ad))))
    (af (aC (i:=6) EJ.nd rfl (Or.inl rfl) (az bC (pv 5) (pv 0)))
    (ai (aM (cp plainAttrs_list PySem.F.slot_list_append PySem.F.type_list_append bE (pv 3) (aa (bK (aa (pv 6) (aa (az bC (az bP (az bP (pv 6) aj) (az bC (az dq (pv 5) aj) (az dB (pv 0) aj))) (pv 0)) ad))) ad)))))))
   (ai (ar (pv 3)))),?_⟩
  have two:(2:Nat) <= sizeLine:=by decide
  refine⟨zero_le _,fun D hD=>?_⟩
  have s0:=(zO.refl H).new (o := .lst []) hD
  refine⟨_,rfl,(m:Int),rfl,by omega,by omega,?_⟩
  rw[toNat_natCast]
  refine b8 (n:=m) (fun i σ H2=>∃ (a3 a4 a5:Option V)(Ad:List V)(es:Es),zO H H2/\H2 D=some (.lst Ad)/\Ak H2 Ad (es.map zp)/\Pm n es/\(∀ e ∈ es,e.1 ≠ e.2)/\es.length=i/\σ=[some (.int n),some (.int m),some (.int c),some (.ref D),a3,a4,a5])
   ⟨none,none,none,[],[],s0,ac, .nil,(fun e he=>by cases he),(fun e he=>by cases he),rfl,rfl⟩ ?_ ?_
  ·rintro i σ H2 hi ⟨a3,a4,a5,Ad,es,s2,gD,Po,Cd,Ay,hl,rfl⟩
   have Pp:(0:Int) < (n:Int):=by omega
   have Xd:(0:Int) < (n:Int) - 1:=by omega
   rw[zero_add]
   refine⟨_,rfl,_,rfl,c,i,rfl,by omega,fun d hd=>?_⟩
   refine⟨_,rfl,_,rfl,_,_,rfl,rfl,Pp,?_⟩
   refine⟨_,rfl, .inl ⟨rfl,_,zU.of gD⟩,_,rfl,_,rfl,_,_,rfl,rfl,_,rfl,_,_,rfl,rfl,⟨by decide,by decide⟩,_,rfl,_,_,rfl,rfl,_,_,rfl,rfl,Xd,_,_,rfl,rfl,_,rfl,_,_,rfl,rfl,Pp,two,fun t1 h1=>?_⟩
   dsimp only at h1 ⊢
   have e1:=emod_nonneg d (show (n:Int) ≠ 0 by omega)
   have e2:=emod_lt_of_pos d Pp
   have e3:=emod_nonneg (d / 16) (show (n:Int) - 1 ≠ 0 by omega)
   have e4:=emod_lt_of_pos (d / 16) Xd
   generalize d % (n:Int)=st at e1 e2 h1 ⊢
   generalize d / 16 % ((n:Int) - 1)=FH at e3 e4 h1 ⊢
   have e5:=emod_nonneg (st + 1 + FH) (show (n:Int) ≠ 0 by omega)
   have e6:=emod_lt_of_pos (st + 1 + FH) Pp
   have e7:(st + 1 + FH) % (n:Int) ≠ st:=by
    intro z
    rcases Int.lt_or_le (st + 1 + FH) (n:Int) with h | h
    ·rw[Int.emod_eq_of_lt (by omega) h]at z;omega
    ·have:(st + 1 + FH) % (n:Int)=st + 1 + FH - n:=by
      rw[show st + 1 + FH = (st + 1 + FH - n) + n by omega,Int.add_emod_right,Int.emod_eq_of_lt (by omega) (by omega)];omega
     omega
   generalize (st + 1 + FH) % (n:Int)=en at e5 e6 e7 h1 ⊢
   obtain⟨s',Jz,Sr⟩:∃ s':Nat,st=(s':Int)/\s' < n:=⟨st.toNat,by omega,by omega⟩
   obtain⟨n',CI,Ss⟩:∃ n':Nat,en=(n':Int)/\n' < n:=⟨en.toNat,by omega,by omega⟩
   subst Jz CI
   have u1:=(zO.refl H2).new (o := .tup [.int (s':Int), .int (n':Int)]) h1
   have v1:(upd H2 t1 (.tup [.int (s':Int), .int (n':Int)])) t1=some (.tup [.int (s':Int), .int (n':Int)]):=ac
   have nT:t1 ≠ D:=Ne.symm (ag gD h1)
   generalize upd H2 t1 (.tup [.int (s':Int), .int (n':Int)])=H3 at u1 v1 ⊢
   have JM:=u1 _ _ gD
   have El:Ad.length=es.length:=by rw[Paired.length Po,length_map]
   refine⟨D,Ad,_,rfl,rfl,JM,by rw[sizeLine_eq];omega,?_⟩
   refine⟨_,_,_,Ad ++ [.ref t1],es ++ [(s',n')],fun b o e=>by rw[ae (ag e hD)];exact u1 _ _ (s2 _ _ e),ac,?_,fun e he=>?_,fun e he=>?_,by rw[length_append,hl];rfl,rfl⟩
   ·rw[map_append]
    exact Ak.snoc (p:=zp (s',n')) ⟨t1,rfl,by rw[ae nT];exact v1⟩ (wG JM (Ak.same u1 Po))
   ·rcases mem_append.mp he with he | he
    ·exact Cd e he
    ·rw[mem_singleton.mp he];exact⟨Sr,Ss⟩
   ·rcases mem_append.mp he with he | he
    ·exact Ay e he
    ·rw[mem_singleton.mp he];show s' ≠ n';omega
  ·rintro σ H2 ⟨a3,a4,a5,Ad,es,s2,gD,Po,Cd,Ay,hl,rfl⟩
   exact⟨_,rfl,q D Ad es H2 s2 hD gD Po Cd Ay hl⟩
noncomputable def vg:Option Nat->Nat
 | none=>0
 | some k=>k + 1
noncomputable def tG (r:Rw):Nat:=(r.p.toNat * 100 + r.g.toNat) * 100 + vg r.c
theorem ze {a b:Rw}(h:aW a=aW b):tG a=tG b:=by
 unfold aW at h
 injection h with h1 h2
 injection h2 with h2 h3
 injection h3 with h3 _
 injection h1 with h1
 injection h2 with h2
 have h4:a.c=b.c:=by
  cases ha:a.c with
  | none=>cases hb:b.c with
   | none=>rfl
   | some k=>rw[ha,hb]at h3;cases h3
  | some k=>cases hb:b.c with
   | none=>rw[ha,hb]at h3;cases h3
   | some k' =>
    rw[ha,hb]at h3
    have h3:some (k:Int)=some (k':Int):=h3
    injection h3 with h3
    rw[show k=k' by omega]
 unfold tG
 rw[h1,h2,h4]
structure DL (n:Nat)(ps:List (Int × Int))(B:Nat)(rs:List Rw):Prop where
 sort:(rs.map tG).Pairwise (· < ·)
 low:∀ r ∈ rs,tG r < B
 fit:∀ r ∈ rs,eL n ps r=true
 AN:∀ r ∈ rs,r.s.length <= 40
theorem DL.up {n:Nat}{ps:List (Int × Int)}{B B':Nat}{rs:List Rw}(h:DL n ps B rs)(l:B <= B'):DL n ps B' rs:=⟨h.sort,fun r hr=>lt_of_lt_of_le (h.low r hr) l,h.fit,h.AN⟩
theorem DL.snoc {n:Nat}{ps:List (Int × Int)}{B:Nat}{rs:List Rw}{r:Rw}(h:DL n ps B rs)(hr:B <= tG r)(hf:eL n ps r=true)(hl:r.s.length <= 40):DL n ps (tG r + 1) (rs ++ [r]):=by
 refine⟨?_,fun x hx=>?_,fun x hx=>?_,fun x hx=>?_⟩
 ·rw[map_append,List.pairwise_append]
  refine⟨h.sort,by simp,fun x hx y hy=>?_⟩
  obtain⟨r',Gq,rfl⟩:=mem_map.mp hx
  have hy:y=tG r:=by simpa using hy
  rw[hy]
  exact lt_of_lt_of_le (h.low r' Gq) hr
 ·rcases mem_append.mp hx with hx | hx
  ·have:=h.low x hx;omega
  ·rw[mem_singleton.mp hx];omega
 ·rcases mem_append.mp hx with hx | hx
  ·exact h.fit x hx
  ·rw[mem_singleton.mp hx];exact hf
 ·rcases mem_append.mp hx with hx | hx
  ·exact h.AN x hx
  ·rw[mem_singleton.mp hx];exact hl
theorem DL.good {n:Nat}{ps:List (Int × Int)}{B:Nat}{rs:List Rw}(h:DL n ps B rs):cK n ps rs rs.length=none:=by
 refine fU fun k hk=>?_
 have hr:rs[k]? = some rs[k]:=getElem?_eq_getElem hk
 have OS:rs.getD k ⟨0,0,none,[]⟩ = rs[k]:=by rw[getD_eq_getElem?_getD,hr];rfl
 rw[OS,ia,h.fit _ (getElem_mem hk)]
 have Su:((rs.take k).any fun a=>decide (aW a=aW rs[k]))=false:=by
  rw[List.any_eq_false]
  intro a ha hd
  have e:=ze (of_decide_eq_true hd)
  obtain⟨j,hj,ea⟩:=List.mem_take_iff_getElem.mp ha
  have Sv:j < k:=by omega
  have:=pairwise_iff_getElem.mp h.sort j k (by rw[length_map];omega) (by rw[length_map];exact hk) Sv
  rw[List.getElem_map,List.getElem_map,ea]at this
  omega
 rw[Su];rfl
theorem kA {n:Int}{ps:List (Int × Int)}{r:Rw}(h:eL n ps r=true):∀ k ∈ r.s,k < ps.length:=by
 unfold eL at h
 simp only[Bool.and_eq_true,all_eq_true,decide_eq_true_eq]at h
 intro k hk
 exact mem_range.mp (mem_filter.mp (h.2.2 k hk)).1
noncomputable def lL (rs:List Rw)(k:fX):Nat:=match dQ rs k with
 | some r=>Yd.Ax r.s 0
 | none=>0
theorem mP {rs:List Rw}{k:fX}{r:Rw}(h:dQ rs k=some r):r ∈ rs:=mem_reverse.mp (List.mem_of_find?_eq_some h)
noncomputable def JN (rs:List Rw):Wf:=fun p g k=>mN (lL rs (aW ⟨(p:Int),(g:Int),k,[]⟩))
noncomputable def Cw (P:Program)(w:World)(ts:Ts):TJ:=fun H x n wy=>∃ (dx de:Addr)(lv:V)(kvs:List dH)(rs:List Rw),H x=some (.ins ts.told dx [("land",lv),("entries", .ref de)])/\AI P w H de kvs/\(∀ k,bY kvs k=(dQ rs k).map sN)/\(∀ r ∈ rs,∀ k ∈ r.s,k < 40)/\wy=JN rs
theorem Cw.keep {P:Program}{w:World}{ts:Ts}{H H':Hp}{x:Addr}{n:Nat}{wy:Wf}(h:Cw P w ts H x n wy)(k:Ap H H'):Cw P w ts H' x n wy:=by
 obtain⟨dx,de,lv,kvs,rs,h1,⟨h2,h3⟩,h4⟩:=h
 exact⟨dx,de,lv,kvs,rs,k _ _ h1 True.intro,⟨k _ _ h2 True.intro,fun y hy=>k _ _ (h3 y hy) True.intro⟩,h4⟩
theorem za {ks:List Nat}{z:Nat}(h:z ∈ mN (Yd.Ax ks 0)):z ∈ ks:=by
 have:=(mem_filter.mp h).2
 have h2:(Yd.Ax ks 0).testBit z=true:=this
 rw[qz,decide_eq_true_eq]at h2
 obtain⟨n,hn,e⟩:=Bf.mp h2
 have:n=z:=by omega
 exact this ▸ hn
theorem mK (m:Nat):(mN m).Nodup:=List.nodup_range.filter _
theorem rJ {rs:List Rw}{n:Nat}(h:∀ r ∈ rs,∀ k ∈ r.s,k < n)(p g:Nat)(k:Option Nat):(∀ z ∈ JN rs p g k,z < n)/\(JN rs p g k).length <= n:=by
 have h1:∀ z ∈ JN rs p g k,z < n:=fun z hz=>by
  unfold JN lL at hz
  cases hl:dQ rs (aW ⟨(p:Int),(g:Int),k,[]⟩) with
  | none=>rw[hl]at hz;exact absurd hz (by show z ∉ mN 0;intro h;cases h)
  | some r=>rw[hl]at hz;exact h r (mP hl) z (za hz)
 exact⟨h1,c6 n _ (mK _) h1⟩
theorem nY {ts:Ts}{f:Addr}{fd:FuncData}(G:zP P w K mg base aB 3 f fd ["self", "place", "goal", "came"] (p6 P w ts)):zP P w K mg base aB 3 f fd ["self", "place", "goal", "came"] (dY (Cw P w ts)) :=
 G.imp fun vs H Q E zS=>by
 obtain⟨x,n,wy,p,g,k,e,⟨dx,de,lv,kvs,rs,h1,h2,h3,h4,h5⟩,hp,hg,q⟩:=zS
 exact⟨x,dx,de,lv,kvs,⟨(p:Int),(g:Int),k,[]⟩,lL rs (aW ⟨(p:Int),(g:Int),k,[]⟩),e,h1,h2,by
  rw[h3]
  unfold lL
  cases dQ rs (aW ⟨(p:Int),(g:Int),k,[]⟩)<;>rfl,by
  unfold lL
  cases hl:dQ rs (aW ⟨(p:Int),(g:Int),k,[]⟩) with
  | none=>exact Nat.two_pow_pos _
  | some r=>exact lt_of_lt_of_le (sL (h4 r (mP hl))) (pow_le_pow_right (by decide) (by decide)),fun H' D s' hD=>q D _ (s'.new hD) (s'.free hD) (by rw[ac,h5];rfl)⟩
theorem qo {sel:Int × Int->Int}{ps:List (Int × Int)}{pl:Int}{g:TG}{tt:TT}{te:TE}{σ0:St}{H:Hp}{Q:VK}(hn:ps.length < sizeLine)
  (hs:∀ (i:Nat)(acc:List V)(N:List V->Hp->Prop)(pr:Int × Int),ps[i]? = some pr->N (if decide (sel pr=pl)=true then acc ++ [V.int i] else acc) H->g (.int i) σ0 H fun σ2 H2=>tt σ2 H2 fun b H3=>if b=true then te σ2 H3 fun y H4=>N (acc ++ [y]) H4 else N acc H3)
  (hq:∀ D,H D=none->Q (.ref D) (upd H D (.lst (bO (eJ sel ps pl))))):du (vi 0 ps.length) g tt te σ0 Q H:=by
 refine nh (lo:=0) (fun k=>decide (sel (ps.getD k (0,0))=pl)) (fun k=>V.int k) hn (fun i acc N hi h=>?_) hq
 obtain⟨pr,hpr⟩:∃ pr,ps[i]? = some pr:=⟨ps[i],getElem?_eq_getElem hi⟩
 have eg:ps.getD i (0,0)=pr:=by rw[getD_eq_getElem?_getD,hpr];rfl
 rw[zero_add]
 rw[eg]at h
 exact hs i acc N pr hpr h
noncomputable def Sw (x:Addr)(H:Hp)(v:V)(r:Rw):Prop:=∃ t l,v = .ref t/\Ip H t l r/\l ≠ x
abbrev Co (x:Addr)(H:Hp):List V->List Rw->Prop:=Paired (Sw x H)
theorem Co.imp {x:Addr}{H H':Hp}{G:V->Rw->Prop}(h:∀ v r,Sw x H v r->G v r):∀ {vs:List V}{rs:List Rw},Co x H vs rs->Paired G vs rs:=fun zS=>by
 induction zS with
 | nil=>exact .nil
 | cons z r ih=>exact .cons (h _ _ z) ih
theorem Co.rws {x:Addr}{H:Hp}{vs:List V}{rs:List Rw}(h:Co x H vs rs):D4 H vs rs:=Co.imp (H':=H) (fun _ _ ⟨t,l,e,z,_⟩=>⟨t,l,e,z⟩) h
theorem Co.same {x:Addr}{H H':Hp}(s:zO H H'){vs:List V}{rs:List Rw}(h:Co x H vs rs):Co x H' vs rs:=Co.imp (H':=H) (fun _ _ ⟨t,l,e,z,n⟩=>⟨t,l,e,z.same s,n⟩) h
theorem Co.off {x:Addr}{H:Hp}{xs:List V}{o:HO}(hx:H x=some (.lst xs)){vs:List V}{rs:List Rw}(h:Co x H vs rs):Co x (upd H x o) vs rs :=
 Co.imp (H':=H) (fun _ _ zS=>by obtain⟨t,l,e,z,n⟩:=zS;exact⟨t,l,e,⟨by rw[ae (aR z.1 hx (by intro z;cases z))];exact z.1,by rw[ae n];exact z.2⟩,n⟩) h
theorem Co.snoc {x:Addr}{H:Hp}{v:V}{r:Rw}(h:Sw x H v r):∀ {vs:List V}{rs:List Rw},Co x H vs rs->Co x H (vs ++ [v]) (rs ++ [r]):=fun zS=>by
 induction zS with
 | nil=>exact .cons h .nil
 | cons z t ih=>exact .cons z ih
theorem Sy (m k:Nat):decide (V.int (Builtin.bitAnd ((m:Int) / 2 ^ (k:Int).toNat) 1)=V.int 1)=m.testBit k:=by
 rw[gh,toNat_natCast,← Yd.DB m k]
theorem r9 {K:Frag}{a:Addr}{xs:List Nat}{g:TG}{tt:TT}{te:TE}{σ0:St}{H:Hp}{Q:VK}(q:Nat->Bool)(hn:xs.length < sizeLine)(ha:zU K H a (bO xs))
  (hs:∀ (k:Nat)(acc:List V)(N:List V->Hp->Prop),k ∈ xs->N (if q k then acc ++ [V.int (k:Int)] else acc) H->g (.int (k:Int)) σ0 H fun σ2 H2=>tt σ2 H2 fun b H3=>if b=true then te σ2 H3 fun y H4=>N (acc ++ [y]) H4 else N acc H3)
  (hq:∀ D,H D=none->Q (.ref D) (upd H D (.lst (bO (xs.filter q))))):du (vj K a) g tt te σ0 Q H:=by
 refine fE (xs:=bO xs) (fun v=>match v with | .int k=>q k.toNat | _=>false) (fun v=>v) (by unfold bO;rw[length_map];exact hn) ha (fun x acc N hx h=>?_) fun D hD=>?_
 ·obtain⟨k,hk,rfl⟩:=mem_map.mp hx
  exact hs k acc N hk h
 ·have e:((bO xs).filter (fun v=>match v with | .int k=>q k.toNat | _=>false)).map (fun v=>v)=bO (xs.filter q):=by
   unfold bO
   rw[List.map_id'',List.filter_map]
   ·congr 1
   ·intro _;rfl
  rw[e]
  exact hq D hD
theorem DL.len {n:Nat}{ps:List (Int × Int)}{B:Nat}{rs:List Rw}(h:DL n ps B rs):rs.length <= B:=by
 have:=c6 B (rs.map tG) (h.sort.imp fun h=>ne_of_lt h) fun x hx=>by
  obtain⟨r,hr,rfl⟩:=mem_map.mp hx
  exact h.low r hr
 rw[length_map]at this
 exact this
theorem uK {n:Nat}{ps:List (Int × Int)}(h1:1 <= n)(h2:n <= 12)(h3:ps.length <= 40)(h:∀ p ∈ ps,jx n p=true):fD n ps = .good:=by
 unfold fD
 rw[decide_eq_true (show (1:Int) <= (n:Int)/\(n:Int) <= 12 by omega),if_neg (by decide),if_neg (by omega),jG h]
noncomputable def wZ (s:Stmt):Scope:=match s with
 | .Assign _ (.ListComp _ _ sc _) _=>sc
 | _=>zQ0
noncomputable def qT (b:List Stmt)(i:Nat):Stmt:=b.getD i (.Pass ⟨0,0,0,0⟩)
noncomputable def pb (s:Stmt):List Stmt:=match s with
 | .For _ _ b _ _=>b
 | _=>[]
noncomputable def ScV (x:V):Prop:=(∃ i,x = .int i)∨∃ t,x = .str t/\PyData.strOk t=true
structure JO (a:YA)(s:YS):Prop where
 lanes:s.lanes.length=a.ps.length
 lies:s.lies.length=a.n
 q0:∀ (k:Nat)(ln:bS),s.lanes[k]? = some ln->ln.qs=[]
 l0:∀ (p:Nat)(qs:List (Int × Int)),s.lies[p]? = some qs->qs=[]
 lets:∀ (m:Nat)(t:aY),s.U[m]? = some t->t.gone=0/\t.way=[]/\0 <= t.len/\t.len <= 60/\∃ x y:Nat,t.start=(x:Int)/\t.goal=(y:Int)/\x < a.n/\y < a.n
 done:∀ d ∈ s.done,∀ x ∈ d,ScV x
theorem xY {α:Type}(f:α->Nat):∀ {L:List α},(∀ (k:Nat)(x:α),L[k]? = some x->f x=0)->(L.map f).sum=0
 | [],_=>rfl
 | x :: L,h=>by
  have h1:=h 0 x rfl
  have h2:=xY f (L:=L) fun k y hy=>h (k + 1) y hy
  simp only[map_cons,sum_cons];omega
theorem xn {α:Type}(f:α->Int):∀ {L:List α},(∀ (k:Nat)(x:α),L[k]? = some x->f x=0)->(L.map f).sum=0
 | [],_=>rfl
 | x :: L,h=>by
  have h1:=h 0 x rfl
  have h2:=xn f (L:=L) fun k y hy=>h (k + 1) y hy
  simp only[map_cons,sum_cons];omega
theorem JO.jnv {a:YA}{s:YS}(h:JO a s)(AN:s.U.length <= 60)(EI:a.ps.length <= 40):AV a s:=by
 refine⟨h.lanes,h.lies,AN,EI,fun m t ht=>(h.lets m t ht).2.2.2.2,fun m t ht=>?_,fun k ln hk q hq=>?_,fun m t ht=>?_,fun m t ht _=>(h.lets m t ht).2.1,fun m t ht i l hi=>?_,fun m t ht l ln hl=>?_,fun k ln hk i j z q hi=>?_,fun k ln hk m t hm=>?_,?_⟩
 ·rw[(h.lets m t ht).2.1];exact⟨(fun l hl=>by cases hl),nodup_nil⟩
 ·rw[h.q0 k ln hk]at hq;cases hq
 ·obtain⟨h1,h2,h3,h4,_⟩:=h.lets m t ht
  rw[h1];exact⟨by omega,h3,h4⟩
 ·rw[(h.lets m t ht).2.1]at hi;cases hi
 ·rw[(h.lets m t ht).2.1]at hl;cases hl
 ·rw[h.q0 k ln hk]at hi;cases hi
 ·rw[h.q0 k ln hk]at hm;cases hm
 ·have h1:jM s=0:=xY _ fun k ln hk=>by rw[h.q0 k ln hk];rfl
  have h2:iE s=0:=xY _ fun p qs hp=>by rw[h.l0 p qs hp];rfl
  have h3:fZ s=0:=xn _ fun m t ht=>(h.lets m t ht).1
  rw[h1,h2,h3];rfl
theorem JO.post {a:YA}{s:YS}(h:JO a s){x y:Nat}{l u:Int}(hx:x < a.n)(hy:y < a.n)(hl:0 <= l/\l <= 60):JO a (dN s x y l u):=by
 refine⟨h.lanes,h.lies,h.q0,h.l0,fun m t ht=>?_,fun d hd z hz=>?_⟩
 ·have ht:(s.U ++ [⟨(x:Int),(y:Int),l,u,0,[]⟩])[m]? = some t:=ht
  by_cases hm:m < s.U.length
  ·rw[getElem?_append_left hm]at ht;exact h.lets m t ht
  ·have h3:=(gQ0 ht)
   rw[length_append,length_singleton]at h3
   have em:m=s.U.length:=by omega
   subst em
   rw[getElem?_concat_length]at ht
   cases ht
   exact⟨rfl,rfl,hl.1,hl.2,x,y,rfl,rfl,hx,hy⟩
 ·rcases mem_append.mp hd with hd | hd
  ·exact h.done d hd z hz
  ·rw[mem_singleton.mp hd]at hz
   simp only[mem_cons,not_mem_nil,or_false]at hz
   rcases hz with rfl | rfl | rfl | rfl | rfl
   ·exact .inr ⟨_,rfl,by decide +kernel⟩
   ·exact .inl ⟨_,rfl⟩
   ·exact .inl ⟨_,rfl⟩
   ·exact .inl ⟨_,rfl⟩
   ·exact .inl ⟨_,rfl⟩
theorem qJ {n a b:Nat}{wy:Wf}{m:Nat}{l u:Int}(ha:a < n)(hb:b < n)(hl:1 <= l/\l <= 60)(hu:J6 (.int u)=true)(Hq:a ≠ b)(hw:wy a b none ≠ [])(hm:m < 60):lu n wy m (.int a) (.int b) (.int l) (.int u) = .good:=by
 unfold lu
 rw[show jZ (.int (a:Int)) 0 ((n:Int) - 1)=true from decide_eq_true (by omega),show jZ (.int (b:Int)) 0 ((n:Int) - 1)=true from decide_eq_true (by omega),show jZ (.int l) 1 60=true from decide_eq_true hl,hu,if_neg (by decide),if_neg (by decide),if_neg (by decide)]
 rw[if_neg (by
  rintro (h | h)
  ·have h:(a:Int)=(b:Int):=h
   omega
  ·have h:wy ((a:Int)).toNat ((b:Int)).toNat none=[]:=h
   rw[toNat_natCast,toNat_natCast]at h
   exact hw h),if_neg (by omega)]
noncomputable def tV (p:Int × Int):PyData := .tuple [.int p.1, .int p.2]
theorem uP {K:Frag}{H:Hp}:∀ {vs:List V}{ps:List (Int × Int)},Ak H vs ps->jK K H vs (ps.map tV):=fun zS=>by
 induction zS with
 | nil=>exact .nil
 | cons zz r ih=>obtain⟨t,e,h⟩:=zz;exact .cons (by subst e;exact .tup (Ab.of h) (.cons (.int _) (.cons (.int _) .nil))) ih
theorem qD (ps:List (Int × Int)):Cn (.list (ps.map tV)) 64:=(eT (m:=1) fun z hz=>by
 obtain⟨p,_,rfl⟩:=mem_map.mp hz
 exact jX (m:=0) fun y hy=>by
  simp only[mem_cons,not_mem_nil,or_false]at hy
  rcases hy with rfl | rfl<;>exact cU _).le (by decide)
theorem vx (ms:List Mv):Cn (.list (ms.map vf)) 64:=(eT (m:=1) fun z hz=>by
 obtain⟨m,_,rfl⟩:=mem_map.mp hz
 exact kZ m).le (by decide)
theorem FI:Cn (.list []) 64:=(eT (m:=0) fun z hz=>by cases hz).le (by decide)
theorem wQ {α:Type}(f:α->PyData)(l:List α):PyData.eqv (.list (l.map f)) (.list [])=l.isEmpty:=by
 cases l<;>simp[PyData.eqv,PyData.eqvAll]
theorem neN {K:Frag}{x y:V}{H:Hp}{Q:VK}{α:Type}{f:α->PyData}{l:List α}(h1:nJ K H x (.list (l.map f)))(h2:nJ K H y (.list []))(s:Cn (.list (l.map f)) 64)(q:Q (.bl (!l.isEmpty)) H):y2 K x y H Q :=
 ⟨_,_,h1,h2,s.shaped (Nat.le_refl _),FI.shaped (Nat.le_refl _),by rw[wQ];exact q⟩
theorem AV.done {a:YA}{s:YS}(J:AV a s)(d:List (List V)):AV a { s with done:=d }:=⟨J.lanes,J.lies,J.AN,J.EI,J.lets,J.AU,J.Bh,J.Cc,J.AX,J.last,J.head,J.first,J.Eo,J.sum⟩
theorem Sz {a:YA}{Ae:List V}(h:Ae.length=a.ps.length):JO a (Y0 Ae a.n):=by
 refine⟨by show(Ae.map nL).length=_;rw[length_map];exact h,by show(List.replicate a.n []).length=_;rw[length_replicate],fun k ln hk=>?_,fun p qs hp=>?_,fun m t ht=>?_,fun d hd=>?_⟩
 ·have hk:(Ae.map nL)[k]? = some ln:=hk
  rw[getElem?_map]at hk
  cases hr:Ae[k]? with
  | none=>rw[hr]at hk;cases hk
  | some v=>rw[hr]at hk;cases hk;rfl
 ·have hp:(List.replicate a.n ([]:List (Int × Int)))[p]? = some qs:=hp
  exact eq_of_mem_replicate (mem_of_getElem? hp)
 ·have ht:([]:List aY)[m]? = some t:=ht
  cases ht
 ·have hd:d ∈ ([]:List (List V)):=hd
  cases hd
noncomputable def lim (xs:List Nat)(t:Nat):Nat:=if t=0 then 0 else xs.getD (t - 1) 0 + 1
theorem zb {xs:List Nat}(hs:xs.Pairwise (· < ·)){t p:Nat}(h:xs[t]? = some p):lim xs t <= p:=by
 unfold lim
 by_cases h0:t=0
 ·rw[if_pos h0];omega
 ·rw[if_neg h0]
  obtain⟨ht,e⟩:=List.getElem?_eq_some_iff.mp h
  have h1:=pairwise_iff_getElem.mp hs (t - 1) t (by omega) ht (by omega)
  rw[getD_eq_getElem?_getD,getElem?_eq_getElem (by omega)]
  rw[e]at h1
  exact h1
theorem uA {xs:List Nat}{t p:Nat}(h:xs[t]? = some p):lim xs (t + 1)=p + 1:=by
 unfold lim
 rw[if_neg (by omega),Nat.add_sub_cancel,getD_eq_getElem?_getD,h];rfl
theorem wH {xs:List Nat}(h:∀ p ∈ xs,p < 100):lim xs xs.length <= 100:=by
 unfold lim
 by_cases h0:xs.length=0
 ·rw[if_pos h0];omega
 ·rw[if_neg h0,getD_eq_getElem?_getD,getElem?_eq_getElem (show xs.length - 1 < xs.length by omega)]
  exact h _ (getElem_mem _)
end K62
namespace L2
open PySem
theorem zP.ex {P:Program}{w:World}{K:Frag}{mg:Str->Option Value}{base:Heap}{CX:lJ}{k:Nat}{f:Addr}{fd:FuncData}{ps:List Str} {ι:Type} {sp:ι->Sp} (h:∀ i,zP P w K mg base CX k f fd ps (sp i)):zP P w K mg base CX k f fd ps (fun vs H Q E=>∃ i,sp i vs H Q E) :=
 ⟨fun vs H Q E zS=>by obtain⟨i,q⟩:=zS;exact(h i).len vs H Q E q,fun A outer s H args us vs Q E hr he hb hv zS=>by obtain⟨i,hs⟩:=zS;exact(h i).run A outer s H args us vs Q E hr he hb hv hs⟩
end L2
namespace K62
open PySem L2
variable {P:Program}{w:World}{K:Frag}{mg:Str->Option Value}{base:Heap}
noncomputable def bD (ps:List (Int × Int))(p:Nat):List (Option Nat):=none :: (eJ Prod.snd ps (p:Int)).map some
theorem wX (ps:List (Int × Int))(p:Nat):[V.Af] ++ bO (eJ Prod.snd ps (p:Int))=(bD ps p).map cV:=by
 unfold bD bO
 rw[map_cons,map_map];rfl
theorem pf (ps:List (Int × Int))(p:Nat):((bD ps p).map vg).Pairwise (· < ·):=by
 unfold bD
 rw[map_cons,map_map,pairwise_cons]
 refine⟨fun x hx=>?_,?_⟩
 ·obtain⟨k,_,rfl⟩:=mem_map.mp hx
  show 0 < k + 1
  omega
 ·refine List.Pairwise.map _ (fun a b h=>?_) (List.Pairwise.filter _ pairwise_lt_range)
  show a + 1 < b + 1
  omega
theorem kG {ps:List (Int × Int)}{p:Nat}{cc:Option Nat}(h:cc ∈ bD ps p):vg cc <= ps.length/\∀ k,cc=some k->k ∈ eJ Prod.snd ps (p:Int):=by
 rcases mem_cons.mp h with rfl | h
 ·exact⟨zero_le _,fun k e=>by cases e⟩
 ·obtain⟨k,hk,rfl⟩:=mem_map.mp h
  refine⟨?_,fun k' e=>by cases e;exact hk⟩
  have:=mem_range.mp (mem_filter.mp hk).1
  show k + 1 <= _
  omega
noncomputable def sd:Sp:=fun vs H Q _=>∃ (l:Addr)(Ad:List V)(ps:List (Int × Int))(n:Nat)(cl:Int),vs=[.int n, .ref l, .int cl]/\H l=some (.lst Ad)/\Ak H Ad ps/\(∀ p ∈ ps,jx n p=true)/\ps.length <= 10/\2 <= n/\n <= 5 /\
 ∀ (D:Addr)(Ae:List V)(rs:List Rw)(H':Hp),zO H H'->H D=none->H' D=some (.lst Ae)->D4 H' Ae rs->DL n ps 50000 rs->Q (.ref D) H'
noncomputable abbrev Pq:List Str:=["_law_places", "_law_lanes_here", "_law_cell", "_law_rows_here", "_law_place", "_law_out", "_law_cames", "_law_goal", "_law_came", "_law_draw", "_law_ways"]
noncomputable def zH (s:Stmt):Scope:=match s with
 | .Assign _ (.BinOp _ _ (.ListComp _ _ sc _) _) _=>sc
 | _=>zQ0
noncomputable def lw:List Stmt:=pb (qT (aF jn) 1)
noncomputable def wM:List Stmt:=pb (qT (pb (qT lw 2)) 0)
theorem Bz:ao Pq ["_law_places", "_law_lanes_here", "_law_cell"] (ah jn):=L2.Au
theorem MV:Bk Pq (ah jn) (wZ (qT lw 0)) ["_law_lanes_here", "_law_place"] [1,4]:=L2.Cg
theorem MW:Bk Pq (ah jn) (zH (qT lw 1)) ["_law_lanes_here", "_law_place"] [1,4]:=L2.Cg
theorem MX:Bk Pq (ah jn) (wZ (qT wM 1)) ["_law_draw"] [9]:=L2.Cg
theorem x8:(["_law_lane", "_law_lanes_here", "_law_place"]:List Str).Nodup:=by decide +kernel
theorem MY:(["_law_lane", "_law_draw"]:List Str).Nodup:=by decide +kernel
theorem vY {f fm:Addr}{fd dm:FuncData}(F:Al K "_law_rows" "_law_rows" jn f fd)(T:eO mg)(mm:mg "_law_mixed" = some (.ref fm))(km:keepIn K (.ref fm)=true)(bm:Binds K dm ["_law_cell", "_law_k"] [])(Gm:zP P w K mg base aB 1 fm dm ["_law_cell", "_law_k"] ji) :
  zP P w K mg base aB 2 f fd ["_law_places", "_law_lanes_here", "_law_cell"] sd:=by
 refine F.ok Bz (fun _ _ _ _ h=>?_) (fun _ _ _ s H _ Q E hr h=>?_)
 ·obtain⟨l,Ad,ps,n,cl,rfl,_⟩:=h
  rfl
 ·obtain⟨l,Ad,ps,n,cl,rfl,gl,F6,zV,Br,Eh,IU,q⟩:=h
  refine⟨_,af (aC (i:=3) Bz.nd rfl (Or.inl rfl) (aV ad))
   (af (bF PassesOwn.never rfl (aL rfl T.range (aa (pv 0) ad)) (ax (i:=4) Bz.nd rfl (Or.inr rfl))
    (af (e8 (i:=5) (own:=["_law_lane"]) (capN:=["_law_lanes_here", "_law_place"]) (cap:=[1,4]) MV rfl Bz.nd rfl rfl (aL rfl T.range (aa (av aq rfl T.len PySem.boot_len (aa (pv 1) ad)) ad))
     (fun C s' H' fp=>⟨ax (i:=0) x8 rfl (Or.inl rfl),cf (aw bB (ay (show nH _ (js K) from aE) (ay (show nH _ (tK K) from aT) (pv 1) (pv 0) (fun _ _=>rfl)) aj (fun _ _=>rfl)) (pv 2) (aA _)),pv 0⟩))
    (af (aC (i:=6) Bz.nd rfl (Or.inl rfl) (az tY (aV (aa cu ad)) (bv (own:=["_law_lane"]) (capN:=["_law_lanes_here", "_law_place"]) (cap:=[1,4]) MW rfl (aL rfl T.range (aa (av aq rfl T.len PySem.boot_len (aa (pv 1) ad)) ad))
     (fun C s' H' fp=>⟨ax (i:=0) x8 rfl (Or.inl rfl),cf (aw bB (ay (show nH _ (js K) from aE) (ay (show nH _ (tK K) from aT) (pv 1) (pv 0) (fun _ _=>rfl)) aj (fun _ _=>rfl)) (pv 2) (aA _)),pv 0⟩))))
    (ai (bF PassesOwn.never rfl (aL rfl T.range (aa (pv 0) ad)) (ax (i:=7) Bz.nd rfl (Or.inl rfl))
     (ai (bF PassesOwn.never rfl (bT (pv 6)) (ax (i:=8) Bz.nd rfl (Or.inl rfl))
      (af (aC (i:=9) Bz.nd rfl (Or.inr rfl) (au Gm hr rfl mm km bm .nil ap (aa (pv 2) (aa (av aq rfl T.len PySem.boot_len (aa (pv 3) ad)) ad))))
      (af (e8 (i:=10) (own:=["_law_lane"]) (capN:=["_law_draw"]) (cap:=[9]) MX rfl Bz.nd rfl rfl (bT (pv 5))
       (fun C s' H' fp=>⟨ax (i:=0) MY rfl (Or.inl rfl),cf (PW.pt (gL (aw bB (az tZ (az oJ (pv 1) (az bP aj (pv 0))) aj) aj (aA _)) (dZ (aw bB (az bC (pv 1) aj) aj (aA _))))),pv 0⟩))
      (ai (aQ (aw jw (pv 4) (pv 7) (aA _))
       (ai (aM (cp plainAttrs_list PySem.F.slot_list_append PySem.F.type_list_append bE (pv 3) (aa (bK (aa (pv 4) (aa (pv 7) (aa (pv 8) (aa (pv 10) ad))))) ad)))) aH)))))))))))
   (ai (ar (pv 3)))),?_⟩
  have El:Ad.length=ps.length:=Paired.length F6
  refine⟨zero_le _,fun D hD=>?_⟩
  have s0:=(zO.refl H).new (o := .lst []) hD
  have g0:(upd H D (.lst [])) D=some (.lst []):=ac
  show eK 3 (V.ref D) _ _ _
  generalize upd H D (.lst [])=H0 at s0 g0 ⊢
  refine⟨_,rfl,(n:Int),rfl,by omega,by omega,?_⟩
  rw[toNat_natCast]
  refine b8 (n:=n) (fun i σ H2=>∃ (a4 a5 a6 a7 a8 a9 EK:Option V)(Ae:List V)(rs:List Rw),zO H H2/\H2 D=some (.lst Ae)/\Co D H2 Ae rs/\DL n ps (i * 10000) rs/\σ=[some (.int n),some (.ref l),some (.int cl),some (.ref D),a4,a5,a6,a7,a8,a9,EK])
   ⟨none,none,none,none,none,none,none,[],[],s0,g0, .nil,⟨List.Pairwise.nil,(fun r hr=>by cases hr),(fun r hr=>by cases hr),(fun r hr=>by cases hr)⟩,rfl⟩ ?_ ?_
  rotate_left
  ·rintro σ H2 ⟨a4,a5,a6,a7,a8,a9,EK,Ae,rs,s2,g2,hR,hO,rfl⟩
   exact⟨_,rfl,q D Ae rs H2 s2 hD g2 hR.rws (hO.up (by omega))⟩
  rintro p σ H2 hpn ⟨a4,a5,a6,a7,a8,a9,EK,Ae,rs,s2,g2,hR,hO,rfl⟩
  rw[zero_add]
  have pick:∀ (sel:Int × Int->Int)(j:Nat)(Hx:Hp)(sx:zO H Hx)(σ0:St),True:=fun _ _ _ _ _=>True.intro
  refine⟨_,rfl,l,_,rfl, .inl (zU.of (s2 _ _ gl)),(Ad.length:Int),rfl,by omega,by omega,?_⟩
  rw[toNat_natCast,El]
  refine qo (sel:=Prod.fst) (ps:=ps) (pl:=(p:Int)) (by rw[sizeLine_eq];omega) (fun z acc N pr hpr h=>?_) (fun Ou Xe=>?_)
  ·obtain⟨v,hv,u,rfl,gu⟩:=Ak.F1 F6 hpr
   refine⟨_,rfl,_,rfl,l,Ad,_,_,rfl,rfl,zU.of (s2 _ _ gl),ak hv,u,_,0,_,rfl,rfl,Ab.of (s2 _ _ gu),ak (j:=0) rfl,_,rfl,rfl,_,rfl,?_⟩
   rw[gh]
   cases hb:decide (pr.1=(p:Int)) with
   | true =>
    have BS:decide (Prod.fst pr=(p:Int))=true:=hb
    rw[BS]at h
    exact aJ ⟨_,rfl,h⟩
   | false =>
    have BS:decide (Prod.fst pr=(p:Int))=false:=hb
    rw[BS]at h
    exact aI h
  have HF:∀ sel:Int × Int->Int,(eJ sel ps (p:Int)).length <= 10:=fun sel=>by
   have:=length_filter_le (fun k=>decide (sel (ps.getD k (0,0))=(p:Int))) (List.range ps.length)
   rw[length_range]at this
   unfold eJ
   omega
  have u1:=(zO.refl H2).new (o := .lst (bO (eJ Prod.fst ps (p:Int)))) Xe
  have gO:(upd H2 Ou (.lst (bO (eJ Prod.fst ps (p:Int))))) Ou=some (.lst (bO (eJ Prod.fst ps (p:Int)))):=ac
  have nO:Ou ≠ D:=Ne.symm (ag g2 Xe)
  show eK 5 (V.ref Ou) _ (upd H2 Ou (.lst (bO (eJ Prod.fst ps (p:Int))))) _
  generalize upd H2 Ou (.lst (bO (eJ Prod.fst ps (p:Int))))=H3 at u1 gO ⊢
  have s3:=s2.trans u1
  refine⟨by show 1 <= sizeLine;decide,fun o1 MZ=>?_⟩
  have u2:=(zO.refl H3).new (o := .lst [.Af]) MZ
  have JP:(upd H3 o1 (.lst [.Af])) o1=some (.lst [.Af]):=ac
  generalize upd H3 o1 (.lst [.Af])=H4 at u2 JP ⊢
  have s4:=s3.trans u2
  refine⟨_,rfl,l,_,rfl, .inl (zU.of (s4 _ _ gl)),(Ad.length:Int),rfl,by omega,by omega,?_⟩
  rw[toNat_natCast,El]
  refine qo (sel:=Prod.snd) (ps:=ps) (pl:=(p:Int)) (by rw[sizeLine_eq];omega) (fun z acc N pr hpr h=>?_) (fun o2 Bu=>?_)
  ·obtain⟨v,hv,u,rfl,gu⟩:=Ak.F1 F6 hpr
   refine⟨_,rfl,_,rfl,l,Ad,_,_,rfl,rfl,zU.of (s4 _ _ gl),ak hv,u,_,1,_,rfl,rfl,Ab.of (s4 _ _ gu),ak (j:=1) rfl,_,rfl,rfl,_,rfl,?_⟩
   rw[gh]
   cases hb:decide (pr.2=(p:Int)) with
   | true =>
    have BS:decide (Prod.snd pr=(p:Int))=true:=hb
    rw[BS]at h
    exact aJ ⟨_,rfl,h⟩
   | false =>
    have BS:decide (Prod.snd pr=(p:Int))=false:=hb
    rw[BS]at h
    exact aI h
  have u3:=(zO.refl H4).new (o := .lst (bO (eJ Prod.snd ps (p:Int)))) Bu
  have go2:(upd H4 o2 (.lst (bO (eJ Prod.snd ps (p:Int))))) o2=some (.lst (bO (eJ Prod.snd ps (p:Int)))):=ac
  have Na:(upd H4 o2 (.lst (bO (eJ Prod.snd ps (p:Int))))) o1=some (.lst [.Af]):=by rw[ae (ag JP Bu)];exact JP
  generalize upd H4 o2 (.lst (bO (eJ Prod.snd ps (p:Int))))=H5 at u3 go2 Na ⊢
  have OH:=HF Prod.snd
  refine⟨o1,o2,_,_,rfl,rfl,Na,go2,by unfold bO;rw[length_map,sizeLine_eq];simp only[length_singleton];omega,fun C hC=>?_⟩
  rw[wX]
  have u4:=(zO.refl H5).new (o := .lst ((bD ps p).map cV)) hC
  have gC:(upd H5 C (.lst ((bD ps p).map cV))) C=some (.lst ((bD ps p).map cV)):=ac
  have Xf:zO H2 H5:=u1.trans (u2.trans u3)
  have nC:C ≠ D:=Ne.symm (ag (Xf _ _ g2) hC)
  show eK 6 (V.ref C) _ (upd H5 C (.lst ((bD ps p).map cV))) _
  generalize upd H5 C (.lst ((bD ps p).map cV))=H6 at u4 gC ⊢
  have S0:=Xf.trans u4
  have gO6:=u4 _ _ (u3 _ _ (u2 _ _ gO))
  refine⟨_,rfl,(n:Int),rfl,by omega,by omega,?_⟩
  rw[toNat_natCast]
  refine b8 (n:=n) (fun i σ H7=>∃ (a7 a8 a9 EK:Option V)(Ae:List V)(rs:List Rw),zO H H7/\H7 D=some (.lst Ae)/\H7 Ou=some (.lst (bO (eJ Prod.fst ps (p:Int))))/\H7 C=some (.lst ((bD ps p).map cV))/\Co D H7 Ae rs/\DL n ps ((p * 100 + i) * 100) rs/\σ=[some (.int n),some (.ref l),some (.int cl),some (.ref D),some (.int (p:Int)),some (.ref Ou),some (.ref C),a7,a8,a9,EK])
   ⟨_,_,_,_,Ae,rs,s2.trans S0,S0 _ _ g2,gO6,gC,hR.same S0,hO.up (by omega),rfl⟩ ?_ ?_
  rotate_left
  ·rintro σ H7 ⟨a7,a8,a9,EK,Ae,rs,s7,g7,_,_,S1,S2,rfl⟩
   exact⟨_,_,_,_,_,_,_,Ae,rs,s7,g7,S1,S2.up (by omega),rfl⟩
  rintro i σ H7 hi ⟨a7,a8,a9,EK,Ae,rs,s7,g7,gO7,Xg,S1,S2,rfl⟩
  rw[zero_add]
  refine⟨_,rfl,C,rfl,⟨_,zU.of Xg⟩,?_⟩
  have Dk:((bD ps p).map cV).length=(bD ps p).length:=length_map ..
  refine gZ (K:=K) (a:=C) (xs:=(bD ps p).map cV) (fun j σ Hb=>∃ (a8 a9 EK:Option V)(Ae:List V)(rs:List Rw),zO H Hb/\Hb D=some (.lst Ae)/\Hb Ou=some (.lst (bO (eJ Prod.fst ps (p:Int))))/\Hb C=some (.lst ((bD ps p).map cV))/\Co D Hb Ae rs/\DL n ps ((p * 100 + i) * 100 + lim ((bD ps p).map vg) j) rs/\σ=[some (.int n),some (.ref l),some (.int cl),some (.ref D),some (.int (p:Int)),some (.ref Ou),some (.ref C),some (.int (i:Int)),a8,a9,EK])
   ⟨_,_,_,Ae,rs,s7,g7,gO7,Xg,S1,S2.up (by omega),rfl⟩ (fun j σ Hb _ zS=>by obtain⟨_,_,_,_,_,_,_,_,g,_⟩:=zS;exact zU.of g) ?_ ?_
  rotate_left
  ·rintro σ Hb ⟨a8,a9,EK,Ae,rs,sb,gb,IV,Pr,Nb,JQ,rfl⟩
   rw[Dk,← length_map (f:=vg) (as:=bD ps p)]at JQ
   have:=wH (xs:=(bD ps p).map vg) fun x hx=>by
    obtain⟨cc,Er,rfl⟩:=mem_map.mp hx
    have:=(kG Er).1
    omega
   exact⟨_,_,_,_,Ae,rs,sb,gb,IV,Pr,Nb,JQ.up (by omega),rfl⟩
  rintro j v σ Hb hv ⟨a8,a9,EK,Ae,rs,sb,gb,IV,Pr,Nb,JQ,rfl⟩
  obtain⟨cc,hcj,rfl⟩:∃ cc,(bD ps p)[j]? = some cc/\cV cc=v:=by
   rw[getElem?_map]at hv
   cases hx:(bD ps p)[j]? with
   | none=>rw[hx]at hv;cases hv
   | some cc=>rw[hx]at hv;exact⟨cc,rfl,Option.some.inj hv⟩
  obtain⟨hcl2,S3⟩:=kG (mem_of_getElem? hcj)
  have Nc:((bD ps p).map vg)[j]? = some (vg cc):=by rw[getElem?_map,hcj];rfl
  have hlp:=zb (pf ps p) Nc
  have hls:=uA Nc
  have D5:Ae.length=rs.length:=Paired.length Nb
  have hrm:=JQ.len
  refine⟨_,rfl,_,rfl,D,_,rfl, .inl (zU.of gb),cl,Ae.length,rfl,by omega,fun d hd=>?_⟩
  obtain⟨m,rfl⟩:∃ m:Nat,d=(m:Int):=⟨d.toNat,by omega⟩
  generalize Nd:eJ Prod.fst ps (p:Int)=out at IV ⊢
  have Ii:out.length <= 10:=by rw[← Nd];exact HF _
  refine⟨_,rfl,Ou,rfl,⟨_,zU.of IV⟩,?_⟩
  refine r9 (fun k=>m.testBit (3 + k) || decide ((m:Int) % 3=0)) (by rw[sizeLine_eq];omega) (zU.of IV) (fun k acc N hk h=>?_) (fun Wa S4=>?_)
  ·refine⟨_,rfl,_,rfl,_,_,rfl,rfl,_,_,rfl,rfl,(show (0:Int) <= 3 + (k:Int) by omega),_,_,rfl,rfl,rfl,_,rfl,?_⟩
   dsimp only
   rw[show (3:Int) + (k:Int)=((3 + k:Nat):Int) by omega,Sy]
   cases hb:m.testBit (3 + k) with
   | true=>rw[hb,Bool.true_or]at h;exact aJ (aJ ⟨_,rfl,h⟩)
   | false =>
    rw[hb,Bool.false_or]at h
    refine aI ⟨_,rfl,_,_,rfl,rfl,(by show (0:Int) < 3;decide),rfl,_,rfl,?_⟩
    rw[gh]
    cases G9:decide ((m:Int) % 3=0) with
    | true=>rw[G9]at h;exact aJ ⟨_,rfl,h⟩
    | false=>rw[G9]at h;exact aI h
  generalize Xh:(out.filter fun k=>m.testBit (3 + k) || decide ((m:Int) % 3=0))=us at S4 ⊢
  have husl:us.length <= 10:=by rw[← Xh];exact le_trans (length_filter_le _ _) Ii
  have S5:∀ k ∈ us,k ∈ out:=fun k hk=>by rw[← Xh]at hk;exact(mem_filter.mp hk).1
  have u5:=(zO.refl Hb).new (o := .lst (bO us)) S4
  have gW:(upd Hb Wa (.lst (bO us))) Wa=some (.lst (bO us)):=ac
  have nW:Wa ≠ D:=Ne.symm (ag gb S4)
  show eK 10 (V.ref Wa) _ (upd Hb Wa (.lst (bO us))) _
  generalize upd Hb Wa (.lst (bO us))=Hc at u5 gW ⊢
  refine⟨_,rfl,_,rfl,rfl,_,rfl,?_⟩
  rw[gh]
  by_cases S6:(p:Int)=(i:Int)
  ·rw[decide_eq_true S6]
   exact aI ⟨_,_,_,Ae,rs,sb.trans u5,u5 _ _ gb,u5 _ _ IV,u5 _ _ Pr,Nb.same u5,JQ.up (by omega),rfl⟩
  rw[decide_eq_false S6]
  refine aJ ⟨_,rfl, .inl ⟨rfl,_,zU.of (u5 _ _ gb)⟩,_,rfl,_,rfl,_,rfl,_,rfl,by show 4 <= sizeLine;decide,fun tt EX=>?_⟩
  have u6:=u5.new (o := .tup [.int (p:Int), .int (i:Int),cV cc, .ref Wa]) EX
  have gT:(upd Hc tt (.tup [.int (p:Int), .int (i:Int),cV cc, .ref Wa])) tt=some (.tup [.int (p:Int), .int (i:Int),cV cc, .ref Wa]):=ac
  have Xi:(upd Hc tt (.tup [.int (p:Int), .int (i:Int),cV cc, .ref Wa])) Wa=some (.lst (bO us)):=by rw[ae (ag gW EX)];exact gW
  generalize upd Hc tt (.tup [.int (p:Int), .int (i:Int),cV cc, .ref Wa])=Hf at u6 gT Xi ⊢
  have Xj:=u6 _ _ gb
  refine⟨D,Ae,_,rfl,rfl,Xj,by rw[sizeLine_eq];omega,?_⟩
  have S7:eL n ps ⟨(p:Int),(i:Int),cc,us⟩ = true:=by
   unfold eL
   have ho:jx n ((p:Int),(i:Int))=true:=by
    unfold jx
    simp only[Bool.and_eq_true,decide_eq_true_eq,Bool.not_eq_true',decide_eq_false_iff_not]
    exact⟨⟨by omega,by omega⟩,⟨by omega,by omega⟩,S6⟩
   rw[ho,Bool.true_and]
   have hs:(us.all fun z=>decide (z ∈ eJ Prod.fst ps (p:Int)))=true:=by
    rw[all_eq_true]
    exact fun z hz=>decide_eq_true (by rw[Nd];exact S5 z hz)
   dsimp only
   rw[hs,Bool.and_true]
   cases cc with
   | none=>rfl
   | some k=>exact decide_eq_true (S3 k rfl)
  have Xk:tG ⟨(p:Int),(i:Int),cc,us⟩ = (p * 100 + i) * 100 + vg cc:=by
   unfold tG
   show(((p:Int)).toNat * 100 + ((i:Int)).toNat) * 100 + vg cc=_
   rw[toNat_natCast,toNat_natCast]
  have hOn:=JQ.snoc (r:=⟨(p:Int),(i:Int),cc,us⟩) (by rw[Xk];omega) S7 (by show us.length <= 40;omega)
  refine⟨_,_,_,Ae ++ [.ref tt],rs ++ [⟨(p:Int),(i:Int),cc,us⟩],fun b o e=>by rw[ae (ag e hD)];exact u6 _ _ (sb _ _ e),ac,?_,?_,?_,hOn.up (by rw[Xk,hls];omega),rfl⟩
  ·rw[ae nO];exact u6 _ _ IV
  ·rw[ae nC];exact u6 _ _ Pr
  ·have hRf:=Co.snoc (r:=⟨(p:Int),(i:Int),cc,us⟩) ⟨tt,Wa,rfl,⟨gT,Xi⟩,nW⟩ (Nb.same u6)
   exact Co.off Xj hRf
noncomputable def TC (ts:Ts)(tn:nN):Bool->Addr
 | true=>tn.near
 | false=>ts.told
noncomputable def JJ (P:Program)(w:World)(ts:Ts)(tn:nN):Bool->TJ
 | true=>JL P w tn
 | false=>Cw P w ts
noncomputable def okE (n:Nat)(e:Nat × Nat):jx n (zp e)=true↔(e.1 < n/\e.2 < n/\e.1 ≠ e.2):=by
 unfold jx zp
 simp only[Bool.and_eq_true,decide_eq_true_eq,Bool.not_eq_true',decide_eq_false_iff_not]
 constructor
 ·rintro⟨⟨h1,h2⟩,⟨h3,h4⟩,h5⟩;exact⟨by omega,by omega,fun z=>h5 (by rw[z])⟩
 ·rintro⟨h1,h2,h3⟩;exact⟨⟨by omega,by omega⟩,⟨by omega,by omega⟩,by omega⟩
noncomputable def xD (n:Nat)(kvs:List dH):Wf:=fun p g k=>if p < n/\g < n then MU kvs p g k else []
theorem rK {n:Nat}{es:Es}{kvs:List dH}(h:nI n es kvs n)(p g:Nat)(k:Option Nat):(∀ z ∈ xD n kvs p g k,z < es.length)/\(xD n kvs p g k).length <= es.length:=by
 have h1:∀ z ∈ xD n kvs p g k,z < es.length:=fun z hz=>by
  unfold xD at hz
  by_cases Fi:p < n/\g < n
  ·rw[if_pos Fi]at hz;exact xF h Fi.2 hz
  ·rw[if_neg Fi]at hz;cases hz
 refine⟨h1,c6 _ _ ?_ h1⟩
 unfold xD
 by_cases Fi:p < n/\g < n
 ·rw[if_pos Fi];exact mK _
 ·rw[if_neg Fi];exact nodup_nil
noncomputable def sF (P:Program)(w:World)(K:Frag)(c:Cs)(ts:Ts)(tn:nN):Sp:=fun vs H Q _=>∃ (sc:Addr)(ns:List Int),vs=[.ref sc]/\zU K H sc (ns.map V.int) /\
 ∀ (b:Bool)(x lx Ao lt:Addr)(n:Nat)(Aa:List V)(ps:List (Int × Int))(wy:Wf)(H':Hp),zO H H'->H x=none->AS c (TC ts tn b) (JJ P w ts tn b) H' x lx Ao lt n Aa ps wy->(∀ p g k,(wy p g k).length <= 400)->(∀ p ∈ ps,jx n p=true)->ps.length <= 8->2 <= n->n <= 5->Q (.ref x) H'
structure TbM (P:Program)(w:World)(K:Frag)(mg:Str->Option Value)(base:Heap)(c:Cs)(ts:Ts)(tn:nN)(fc fl fi fn ft fr:Addr)(dc dl di dn dt dr:FuncData):Prop where
 mc:mg "_law_cell_at" = some (.ref fc)
 kc:keepIn K (.ref fc)=true
 bc:Binds K dc ["_law_script", "_law_k"] []
 Gc:zP P w K mg base aB 1 fc dc ["_law_script", "_law_k"] (jj K)
 ml:mg "_law_lanes" = some (.ref fl)
 kl:keepIn K (.ref fl)=true
 bl:Binds K dl ["_law_places", "_law_amount", "_law_cell"] []
 Gl:zP P w K mg base aB 2 fl dl ["_law_places", "_law_amount", "_law_cell"] pC
 mi:mg "Land" = some (.ref c.land)
 Mi:Mk K c.land fi
 bi:Binds K di ["self", "places", "lanes"] []
 Gi:zP P w K mg base (dS P w) 4 fi di ["self", "places", "lanes"] (sH K c)
 mn:mg "Nearer" = some (.ref tn.near)
 Mn:Mk K tn.near fn
 bn:Binds K dn ["self", "land"] []
 Gn:zP P w K mg base aB 3 fn dn ["self", "land"] (sm P w c tn)
 mt:mg "Told" = some (.ref ts.told)
 Mt:Mk K ts.told ft
 bt:Binds K dt ["self", "land", "rows"] []
 Gt:zP P w K mg base (dS P w) 5 ft dt ["self", "land", "rows"] (rX P w K c ts)
 mr:mg "_law_rows" = some (.ref fr)
 kr:keepIn K (.ref fr)=true
 br:Binds K dr ["_law_places", "_law_lanes_here", "_law_cell"] []
 Gr:zP P w K mg base aB 2 fr dr ["_law_places", "_law_lanes_here", "_law_cell"] sd
noncomputable def iS (a:YA)(ps:List (Int × Int)):Prop:=∀ p ∈ ps,∃ x y:Nat,p=((x:Int),(y:Int))/\x < a.n/\y < a.n/\x ≠ y/\a.wy x y none ≠ []
noncomputable def pF (c:Cs)(C:Addr)(J:TJ):Sp:=fun vs H Q _=>∃ (a:YA),vs=[.ref a.tb]/\xc c C J H a/\∀ (D:Addr)(AZ:List V)(bs:List (Int × Int))(H':Hp),zO H H'->H D=none->H' D=some (.lst AZ)->Ak H' AZ bs->iS a bs->bs.length <= 1000->Q (.ref D) H'
noncomputable def lP (c:Cs)(C:Addr)(J:TJ):Sp:=fun vs H Q _=>∃ (a:YA)(cl:Int),vs=[.ref a.tb, .int cl]/\xc c C J H a/\∀ (D:Addr)(rs:List Int)(H':Hp),zO H H'->H D=none->H' D=some (.lst (rs.map V.int))->rs.length=a.ps.length->(∀ r ∈ rs,1 <= r/\r <= 60)->Q (.ref D) H'
theorem FJ:ao ["_law_script", "_law_places", "_law_lanes_here", "_law_land"] ["_law_script"] (ah t7):=L2.Au
theorem wq {c:Cs}{ts:Ts}{tn:nN}{f fc fl fi fn ft fr:Addr}{fd dc dl di dn dt dr:FuncData}(F:Al K "_law_table" "_law_table" t7 f fd)(M:TbM P w K mg base c ts tn fc fl fi fn ft fr dc dl di dn dt dr) :
  zP P w K mg base aB 7 f fd ["_law_script"] (sF P w K c ts tn):=by
 refine F.ok FJ (fun _ _ _ _ h=>?_) (fun _ _ _ s H _ Q E hr h=>?_)
 ·obtain⟨sc,ns,rfl,_⟩:=h
  rfl
 ·obtain⟨sc,ns,rfl,hS,q⟩:=h
  have AM:zZ 1 _:=hr.mono (by decide)
  have Be:zZ 2 _:=hr.mono (by decide)
  have CL:zZ 4 _:=hr.mono (by decide)
  have IT:zZ 5 _:=hr.mono (by decide)
  refine⟨_,af (aC (i:=1) FJ.nd rfl (Or.inl rfl) (az bP aj (az bC (au M.Gc AM rfl M.mc M.kc M.bc .nil ap (aa (pv 0) (aa aj ad))) aj)))
   (af (aC (i:=2) FJ.nd rfl (Or.inl rfl) (au M.Gl Be rfl M.ml M.kl M.bl .nil ap (aa (pv 1) (aa (az bC (az dq (au M.Gc AM rfl M.mc M.kc M.bc .nil ap (aa (pv 0) (aa aj ad))) aj) aj) (aa (au M.Gc AM rfl M.mc M.kc M.bc .nil ap (aa (pv 0) (aa aj ad))) ad)))))
   (af (aC (i:=3) FJ.nd rfl (Or.inl rfl) (cY M.Mi M.Gi IT rfl M.mi M.bi .nil im (aa (pv 1) (aa (pv 2) ad))))
   (af (aQ (aw bB (az bC (au M.Gc AM rfl M.mc M.kc M.bc .nil ap (aa (pv 0) (aa aj ad))) aj) aj (aA _)) (ai (ar (cY M.Mn M.Gn CL rfl M.mn M.bn .nil ap (aa (pv 3) ad)))) aH)
   (ai (ar (cY M.Mt M.Gt hr rfl M.mt M.bt .nil im (aa (pv 3) (aa (au M.Gr Be rfl M.mr M.kr M.br .nil ap (aa (pv 1) (aa (pv 2) (aa (az dq (au M.Gc AM rfl M.mc M.kc M.bc .nil ap (aa (pv 0) (aa aj ad))) aj) ad)))) ad)))))))),?_⟩
  refine⟨_,rfl,sc,ns,0,rfl,hS,fun d0=>⟨_,_,rfl,rfl,(by show (0:Int) < 4;decide),_,_,rfl,rfl,?_⟩⟩
  obtain⟨n,hn,Eh,IU⟩:∃ n:Nat,(2:Int) + d0 % 4=(n:Int)/\2 <= n/\n <= 5:=⟨(2 + d0 % 4).toNat,by omega,by omega,by omega⟩
  dsimp only
  rw[hn]
  refine⟨_,rfl,_,rfl,sc,ns,0,rfl,hS,fun d1=>⟨_,_,rfl,rfl,⟨by decide,by decide⟩,_,_,rfl,rfl,(by show (0:Int) < 9;decide),_,rfl,sc,ns,1,rfl,hS,fun d2=>?_⟩⟩
  obtain⟨m,hm,hm9⟩:∃ m:Nat,d1 / 4 % 9=(m:Int)/\m < 9:=⟨(d1 / 4 % 9).toNat,by omega,by omega⟩
  refine⟨n,m,d2,by rw[← hm];rfl,Eh,by omega,by omega,fun l Ad es H1 s1 nl gl F6 Cd Ay HC=>?_⟩
  have El:Ad.length=es.length:=by rw[Paired.length F6,length_map]
  have Br:(es.map zp).length=es.length:=length_map ..
  have zV:∀ p ∈ es.map zp,jx n p=true:=fun p hp=>by
   obtain⟨e,he,rfl⟩:=mem_map.mp hp
   exact(okE n e).mpr ⟨(Cd e he).1,(Cd e he).2,Ay e he⟩
  have gd:=uK (ps:=es.map zp) (n:=n) (by omega) (by omega) (by omega) zV
  refine⟨_,rfl,_,rfl,fun xl BL nx LR GQ=>?_⟩
  have s2:zO H1 (upd (upd H1 BL (.own xl)) xl (.ins c.land BL [])):=zO.new (zO.new (zO.refl H1) LR) (by rw[ae (Ne.symm GQ)];exact nx)
  refine⟨xl,BL,(n:Int),l,Ad,_,rfl,ac,zU.of (s2 _ _ gl),Ak.same s2 F6,by omega,(fun h=>by rw[gd]at h;cases h),(fun k h=>by rw[gd]at h;cases h),(fun k h=>by rw[gd]at h;cases h),fun _ H3 lt Aa off hL=>⟨rfl,?_⟩⟩
  have s3:zO H1 H3:=fun b o e=>off b o (ag e nx) (s2 _ _ e)
  have Fj:=s1.trans s3
  refine⟨_,rfl,sc,ns,2,rfl,Fj.seq hS,fun d3=>⟨_,_,rfl,rfl,(by show (0:Int) < 2;decide),rfl,_,rfl,?_⟩⟩
  cases hb:decide (V.int (d3 % 2)=V.int 0) with
  | true =>
   refine aJ ⟨_,rfl,fun tb EL nt S8 S9=>?_⟩
   have s4:zO H3 (upd (upd H3 EL (.own tb)) tb (.ins tn.near EL [])):=zO.new (zO.new (zO.refl H3) S8) (by rw[ae (Ne.symm S9)];exact nt)
   refine⟨tb,EL,xl,BL,lt,Aa,n,es,rfl,ac,⟨s4 _ _ hL.1,s4 _ _ hL.2.1,Ak.same s4 hL.2.2⟩,Cd,by omega,by omega,fun H5 de kvs SA Xl hE=>⟨rfl,?_⟩⟩
   have s5:zO H3 H5:=fun b o e=>SA b o (ag e nt) (s4 _ _ e)
   refine q true tb xl BL lt n Aa (es.map zp) (xD n kvs) H5 (Fj.trans s5) (Fj.free nt) ⟨⟨EL,xl,de,kvs,es,Xl,hE,by omega,fun p g k hp hg=>by unfold xD;rw[if_pos ⟨hp,hg⟩]⟩,⟨EL,_,Xl.1,rfl,rfl⟩,⟨s5 _ _ hL.1,s5 _ _ hL.2.1,Ak.same s5 hL.2.2⟩,by omega,by omega,fun p g k _ _ z hz=>by rw[Br];exact(rK hE p g k).1 z hz⟩ (fun p g k=>by have:=(rK hE p g k).2;omega) zV (by omega) Eh IU
  | false =>
   refine aI ⟨_,rfl,_,rfl,_,rfl,_,rfl,sc,ns,2,rfl,Fj.seq hS,fun d4=>⟨_,_,rfl,rfl,⟨by decide,by decide⟩,?_⟩⟩
   refine⟨l,Ad,es.map zp,n,_,rfl,s3 _ _ gl,Ak.same s3 F6,zV,by omega,Eh,IU,fun D Ae rs H4 s4 hD gD hR hO=>?_⟩
   have D5:Ae.length=rs.length:=Paired.length hR
   have hrm:=hO.len
   refine fun tb EL nt S8 S9=>?_
   have s6:zO H4 (upd (upd H4 EL (.own tb)) tb (.ins ts.told EL [])):=zO.new (zO.new (zO.refl H4) S8) (by rw[ae (Ne.symm S9)];exact nt)
   have SD:=s4.trans s6
   refine⟨tb,EL,xl,BL,lt,D,(n:Int),Aa,Ae,es.map zp,rs,rfl,ac,⟨SD _ _ hL.1,SD _ _ hL.2.1,Ak.same SD hL.2.2⟩,zU.of (s6 _ _ gD),D4.same s6 hR,by omega,by omega,fun r hr=>⟨fun k hk=>by have:=kA (hO.fit r hr) k hk;omega,by have:=hO.AN r hr;omega⟩,(fun i e=>by rw[hO.good]at e;cases e),fun _ H7 de kvs SE Xm hd7 hv7=>⟨rfl,?_⟩⟩
   have s7:zO H4 H7:=fun b o e=>SE b o (ag e nt) (s6 _ _ e)
   have Pt:=s4.trans s7
   have FE:∀ r ∈ rs,∀ k ∈ r.s,k < (es.map zp).length:=fun r hr=>kA (hO.fit r hr)
   refine q false tb xl BL lt n Aa (es.map zp) (JN rs) H7 (Fj.trans Pt) (Fj.free (s4.free nt)) ⟨⟨EL,de,_,kvs,rs,Xm,hd7,hv7,(fun r hr k hk=>by have:=FE r hr k hk;omega),rfl⟩,⟨EL,_,Xm,rfl,rfl⟩,⟨Pt _ _ hL.1,Pt _ _ hL.2.1,Ak.same Pt hL.2.2⟩,by omega,by omega,fun p g k _ _ z hz=>(rJ FE p g k).1 z hz⟩ (fun p g k=>by have:=(rJ FE p g k).2;omega) zV (by omega) Eh IU
abbrev NBg:List Str:=["_law_table_here", "_law_found", "_law_place", "_law_goal"]
theorem FK:ao NBg ["_law_table_here"] (ah oF):=L2.Au
theorem uo {c:Cs}{J:TJ}{C f fw:Addr}{fd dw:FuncData}(F:Al K "_law_begins" "_law_begins" oF f fd)(T:eO mg)(L:kL K c)(W:Wy K C fw dw J)(Gw:zP P w K mg base aB 3 fw dw ["self", "place", "goal", "came"] (dY J)) :
  zP P w K mg base aB 4 f fd ["_law_table_here"] (pF c C J):=by
 refine F.ok FK (fun _ _ _ _ h=>?_) (fun _ _ _ s H _ Q E hr h=>?_)
 ·obtain⟨a,rfl,_⟩:=h
  rfl
 ·obtain⟨a,rfl,hT,q⟩:=h
  have hu:=hr.units
  have hn:=hT.OW
  refine⟨_,af (aC (i:=1) FK.nd rfl (Or.inl rfl) (aV ad))
   (af (bF PassesOwn.never rfl (aL rfl T.range (aa (al (al (pv 0) rfl) rfl) ad)) (ax (i:=2) FK.nd rfl (Or.inl rfl))
    (ai (bF PassesOwn.never rfl (aL rfl T.range (aa (al (al (pv 0) rfl) rfl) ad)) (ax (i:=3) FK.nd rfl (Or.inl rfl))
     (ai (aQ (iR (PW.pt (lj (aw jw (pv 2) (pv 3) (aA _)) (iQ (aw (yD hu) (aD (pv 0) W.cl W.m Gw hr W.b .nil ap (aa (pv 2) (aa (pv 3) (aa cu ad)))) (aV ad) (aA _))))))
      (ai (aM (cp plainAttrs_list PySem.F.slot_list_append PySem.F.type_list_append bE (pv 1) (aa (bK (aa (pv 2) (aa (pv 3) ad))) ad)))) aH)))))
   (ai (ar (pv 1)))),?_⟩
  obtain⟨Ca,fst,BF,As,Bi⟩:=hT.i
  refine⟨zero_le _,fun D hD=>?_⟩
  have s0:=(zO.refl H).new (o := .lst []) hD
  have g0:(upd H D (.lst [])) D=some (.lst []):=ac
  show eK 1 (V.ref D) _ _ _
  generalize upd H D (.lst [])=H0 at s0 g0 ⊢
  refine⟨_,rfl,a.tb,C,Ca,fst,_,rfl,s0 _ _ BF,W.cl,W.nl,As,a.lx,c.land,a.Ao,_,_,rfl,s0 _ _ hT.l.1,L.cl,L.np,rfl,(a.n:Int),rfl,by omega,by omega,?_⟩
  rw[toNat_natCast]
  refine b8 (n:=a.n) (fun i σ H2=>∃ (a2 a3:Option V)(AZ:List V)(bs:List (Int × Int)),zO H H2/\H2 D=some (.lst AZ)/\Ak H2 AZ bs/\iS a bs/\bs.length <= i * 12/\σ=[some (.ref a.tb),some (.ref D),a2,a3])
   ⟨none,none,[],[],s0,g0, .nil,(fun p hp=>by cases hp),by show 0 <= _;omega,rfl⟩ ?_ ?_
  rotate_left
  ·rintro σ H2 ⟨a2,a3,AZ,bs,s2,g2,hL,hP,Pu,rfl⟩
   exact⟨_,rfl,q D AZ bs H2 s2 hD g2 hL hP (by omega)⟩
  rintro i σ H2 hi ⟨a2,a3,AZ,bs,s2,g2,hL,hP,Pu,rfl⟩
  rw[zero_add]
  refine⟨_,rfl,a.tb,C,Ca,fst,_,rfl,s2 _ _ BF,W.cl,W.nl,As,a.lx,c.land,a.Ao,_,_,rfl,s2 _ _ hT.l.1,L.cl,L.np,rfl,(a.n:Int),rfl,by omega,by omega,?_⟩
  rw[toNat_natCast]
  refine b8 (n:=a.n) (fun j σ H3=>∃ (a3:Option V)(AZ:List V)(bs:List (Int × Int)),zO H H3/\H3 D=some (.lst AZ)/\Ak H3 AZ bs/\iS a bs/\bs.length <= i * 12 + j/\σ=[some (.ref a.tb),some (.ref D),some (.int (i:Int)),a3])
   ⟨_,AZ,bs,s2,g2,hL,hP,by omega,rfl⟩ ?_ ?_
  rotate_left
  ·rintro σ H3 ⟨a3,AZ,bs,s3,g3,C5,Pw,hb3,rfl⟩
   exact⟨_,_,AZ,bs,s3,g3,C5,Pw,by omega,rfl⟩
  rintro j σ H3 hj ⟨a3,AZ,bs,s3,g3,C5,Pw,hb3,rfl⟩
  rw[zero_add]
  have hbl3:AZ.length=bs.length:=Paired.length C5
  refine⟨fun b H4=>zO H3 H4/\b=decide (i ≠ j/\a.wy i j none ≠ []),?_,?_⟩
  ·refine⟨_,rfl,_,rfl,rfl,_,rfl,?_⟩
   rw[bN]
   by_cases Xn:(i:Int)=(j:Int)
   ·rw[decide_eq_true Xn]
    exact aI ⟨zO.refl H3,by rw[decide_eq_false (fun z=>z.1 (by omega))]⟩
   ·rw[decide_eq_false Xn]
    refine aJ ⟨_,rfl,a.tb,Ca,fst,rfl,s3 _ _ BF,Bi,_,rfl,_,rfl,a.tb,a.n,a.wy,i,j,none,rfl,(AS.keep W hT (zO.Ah s3)).j,hi,hj,fun Dw H4 s4 hDw Xo=>⟨zero_le _,fun o7 JR=>?_⟩⟩
    have s5:=s4.new (o := .lst []) JR
    have Nf:(upd H4 o7 (.lst [])) Dw=some (.lst (nV (a.wy i j none))):=by rw[ae (ag Xo JR)];exact Xo
    have g7:(upd H4 o7 (.lst [])) o7=some (.lst (([]:List Int).map V.int)):=ac
    generalize upd H4 o7 (.lst [])=H5 at s5 Nf g7 ⊢
    refine⟨Dw,o7,iz (a.wy i j none),[],rfl,rfl,by rw[← pW];exact zU.of Nf,zU.of g7,_,rfl,s5,?_⟩
    by_cases hw:a.wy i j none=[]
    ·rw[decide_eq_true (show iz (a.wy i j none)=[] by rw[hw];rfl),decide_eq_false (fun z=>z.2 hw)];rfl
    ·rw[decide_eq_false (show ¬ iz (a.wy i j none)=[] from fun z=>hw (by unfold iz at z;exact List.map_eq_nil_iff.mp z)),decide_eq_true ⟨by omega,hw⟩];rfl
  rintro b H4 ⟨s4,rfl⟩
  by_cases hw:i ≠ j/\a.wy i j none ≠ []
  ·rw[decide_eq_true hw]
   refine aJ ⟨_,rfl, .inl ⟨rfl,_,zU.of (s4 _ _ g3)⟩,_,rfl,_,rfl,by show 2 <= sizeLine;decide,fun t1 h1=>?_⟩
   have u1:=s4.new (o := .tup [.int (i:Int), .int (j:Int)]) h1
   have v1:(upd H4 t1 (.tup [.int (i:Int), .int (j:Int)])) t1=some (.tup [.int (i:Int), .int (j:Int)]):=ac
   generalize upd H4 t1 (.tup [.int (i:Int), .int (j:Int)])=H5 at u1 v1 ⊢
   have Px:=u1 _ _ g3
   have Xp:Ap H5 (upd H5 D (.lst (AZ ++ [.ref t1]))):=mO Px
   refine⟨D,AZ,_,rfl,rfl,Px,by rw[sizeLine_eq];omega,?_⟩
   refine⟨_,AZ ++ [.ref t1],bs ++ [((i:Int),(j:Int))],fun b o e=>by rw[ae (ag e hD)];exact u1 _ _ (s3 _ _ e),ac,Ak.snoc (p:=((i:Int),(j:Int))) ⟨t1,rfl,Xp _ _ v1 True.intro⟩ (Xp.DD (Ak.same u1 C5)),fun p hp=>?_,by rw[length_append,length_singleton];omega,rfl⟩
   rcases mem_append.mp hp with hp | hp
   ·exact Pw p hp
   ·rw[mem_singleton.mp hp];exact⟨i,j,rfl,hi,hj,hw.1,hw.2⟩
  ·rw[decide_eq_false hw]
   exact aI ⟨_,AZ,bs,s3.trans s4,s4 _ _ g3,Ak.same s4 C5,Pw,by omega,rfl⟩
theorem SG:ao ["_law_table_here", "_law_cell"] ["_law_table_here", "_law_cell"] (ah gH):=L2.Au
theorem SH:Bk ["_law_table_here", "_law_cell"] (ah gH) (vD ((aF gH).getD 0 (.Pass ⟨0,0,0,0⟩))) ["_law_cell"] [1]:=L2.Cg
theorem SI:(["_law_lane", "_law_cell"]:List Str).Nodup:=by decide +kernel
theorem qS {c:Cs}{J:TJ}{C f fw fm:Addr}{fd dw dm:FuncData}(F:Al K "_law_rooms" "_law_rooms" gH f fd)(T:eO mg)(L:kL K c)(W:Wy K C fw dw J)(mm:mg "_law_mixed" = some (.ref fm))(km:keepIn K (.ref fm)=true)(bm:Binds K dm ["_law_cell", "_law_k"] [])(Gm:zP P w K mg base aB 1 fm dm ["_law_cell", "_law_k"] ji) :
  zP P w K mg base aB 2 f fd ["_law_table_here", "_law_cell"] (lP c C J):=by
 refine F.ok SG (fun _ _ _ _ h=>?_) (fun _ _ _ s H _ Q E hr h=>?_)
 ·obtain⟨a,cl,rfl,_⟩:=h
  rfl
 ·obtain⟨a,cl,rfl,hT,q⟩:=h
  have h40:=hT.AN
  refine⟨_,ai (ar (bv (own:=["_law_lane"]) (capN:=["_law_cell"]) (cap:=[1]) SH rfl (aL rfl T.range (aa (av aq rfl T.len PySem.boot_len (aa (al (al (pv 0) rfl) rfl) ad)) ad)) (fun C s' H' fp=>⟨ax (i:=0) SI rfl (Or.inl rfl),ci,az bP aj (az bC (au Gm hr rfl mm km bm .nil ap (aa (pv 1) (aa (pv 0) ad))) aj)⟩))),?_⟩
  obtain⟨Ca,fst,BF,As,Bi⟩:=hT.i
  have JS:a.Aa.length=a.ps.length:=Paired.length hT.l.2.2
  refine⟨_,rfl,a.tb,C,Ca,fst,_,rfl,BF,W.cl,W.nl,As,a.lx,c.land,a.Ao,_,_,rfl,hT.l.1,L.cl,L.nl,rfl,a.lt,_,rfl, .inr (Ab.of hT.l.2.1),((a.Aa.length:Nat):Int),rfl,by omega,by omega,?_⟩
  rw[toNat_natCast,JS]
  refine bH a.ps.length (by rw[sizeLine_eq];omega) (fun i acc H'=>H' = H/\∃ rs:List Int,acc=rs.map V.int/\rs.length=i/\∀ r ∈ rs,1 <= r/\r <= 60) ⟨rfl,[],rfl,rfl,fun r hr=>by cases hr⟩ (fun i acc H' h=>by obtain⟨_,rs,rfl,e,_⟩:=h;rw[length_map];omega) (fun i acc H' hi h=>?_) (fun acc H' h=>?_)
  ·obtain⟨rfl,rs,rfl,e,L8⟩:=h
   refine⟨hi,fun v H2 y=>?_⟩
   obtain⟨rfl,rfl⟩:=y
   rw[zero_add]
   refine⟨_,rfl,_,rfl,cl,i,rfl,by omega,fun d hd=>⟨_,_,rfl,rfl,(by show (0:Int) < 3;decide),_,_,rfl,rfl,rfl,rs ++ [1 + d % 3],by rw[map_append];rfl,by rw[length_append,e];rfl,fun r hr=>?_⟩⟩
   rcases mem_append.mp hr with hr | hr
   ·exact L8 r hr
   ·rw[mem_singleton.mp hr];omega
  ·obtain⟨rfl,rs,rfl,e,L8⟩:=h
   exact⟨Nat.le_refl _,fun D hD=>q D rs _ ((zO.refl H').new hD) hD ac e L8⟩
abbrev yx (ys:Ys)(ex:List Addr):Ys:={ ys with ex:=ex }
theorem Cv.len {a:YA}{s s':YS}{m:Mv}(h:Cv a s m s'):s'.U.length=s.U.length:=by
 cases h with
 | @B3 k l t ln ht hg hl Ar ho =>
  show(if t.gone=0 then (cz s k t).U.set k _ else (cz s k t).U).length=_
  have:(cz s k t).U.length=s.U.length:=length_set ..
  split
  ·rw[length_set];exact this
  ·exact this
 | @on k l m c lk ln t hk hq ht hl Ar ho =>
  show(if c=0 then s.U.set m _ else s.U).length=_
  split
  ·exact length_set ..
  ·rfl
 | By=>rfl
 | back=>rfl
theorem AV.post {a:YA}{s:YS}(J:AV a s){x y:Nat}{l u:Int}(hx:x < a.n)(hy:y < a.n)(hl:0 <= l/\l <= 60)(hf:s.U.length < 60):AV a (dN s x y l u):=by
 have el:∀ (m:Nat)(t:aY),(dN s x y l u).U[m]? = some t->s.U[m]? = some t∨(m=s.U.length/\t = ⟨x,y,l,u,0,[]⟩):=fun m t ht=>by
  have ht:(s.U ++ [(⟨(x:Int),(y:Int),l,u,0,[]⟩:aY)])[m]? = some t:=ht
  by_cases hm:m < s.U.length
  ·rw[getElem?_append_left hm]at ht;exact .inl ht
  ·have h3:=(gQ0 ht)
   rw[length_append,length_singleton]at h3
   have em:m=s.U.length:=by omega
   subst em
   rw[getElem?_concat_length]at ht
   cases ht
   exact .inr ⟨rfl,rfl⟩
 have eo:∀ (m:Nat)(t:aY),s.U[m]? = some t->(dN s x y l u).U[m]? = some t:=fun m t ht=>by
  show(s.U ++ [(⟨(x:Int),(y:Int),l,u,0,[]⟩:aY)])[m]? = some t
  rw[getElem?_append_left (gQ0 ht)];exact ht
 refine⟨J.lanes,J.lies,?_,J.EI,fun m t ht=>?_,fun m t ht=>?_,fun k ln hk q hq=>?_,fun m t ht=>?_,fun m t ht hg=>?_,fun m t ht i l' hi he=>?_,fun m t ht l' ln Dv Ar=>?_,J.first,fun k ln hk m t hm ht=>?_,?_⟩
 ·show(s.U ++ [_]).length <= 60
  rw[length_append,length_singleton];omega
 ·rcases el m t ht with h | ⟨_,rfl⟩
  ·exact J.lets m t h
  ·exact⟨x,y,rfl,rfl,hx,hy⟩
 ·rcases el m t ht with h | ⟨_,rfl⟩
  ·exact J.AU m t h
  ·exact⟨(fun l hl=>by cases hl),nodup_nil⟩
 ·obtain⟨m,t,e,ht,FD⟩:=J.Bh k ln hk q hq
  exact⟨m,t,e,eo m t ht,FD⟩
 ·rcases el m t ht with h | ⟨_,rfl⟩
  ·exact J.Cc m t h
  ·exact⟨Int.le_refl _,hl.1,hl.2⟩
 ·rcases el m t ht with h | ⟨_,rfl⟩
  ·exact J.AX m t h hg
  ·rfl
 ·rcases el m t ht with h | ⟨_,rfl⟩
  ·exact J.last m t h i l' hi he
  ·cases hi
 ·rcases el m t ht with h | ⟨_,rfl⟩
  ·exact J.head m t h l' ln Dv Ar
  ·cases Dv
 ·obtain⟨m2,t2,e2,FF,_⟩:=J.Bh k ln hk _ hm
  have e2:(m:Int)=(m2:Int):=e2
  have e2:m=m2:=by omega
  subst e2
  rcases el m t ht with h | ⟨e,_⟩
  ·exact J.Eo k ln hk m t hm h
  ·rw[e]at FF
   rw[List.getElem?_eq_none (Nat.le_refl _)]at FF
   cases FF
 ·have h:=J.sum
  have e:fZ (dN s x y l u)=fZ s:=by
   show((s.U ++ [(⟨(x:Int),(y:Int),l,u,0,[]⟩:aY)]).map _).sum=_
   rw[map_append,sum_append]
   simp[fZ]
  rw[e];exact h
theorem AE.SJ {K:Frag}{ys:Ys}{e e':List Addr}{H H':Hp}{a:YA}{s:YS}(h:AE K (yx ys e) H a s)(o:zO H H')(hx:∀ b ∈ e',b ∈ e∨(H b=none/\∃ zs,H' b=some (.lst zs))):AE K (yx ys e') H' a s:=by
 have Xq:∀ p:Addr,(∃ u,H p=some u)->p ∉ a.la :: a.le :: a.li :: a.dn :: e->p ∉ a.la :: a.le :: a.li :: a.dn :: e':=fun p ⟨u,hu⟩ hn z=>by
  have en:∀ q:List Addr,a.la :: a.le :: a.li :: a.dn :: q=[a.la,a.le,a.li,a.dn] ++ q:=fun _=>rfl
  rw[en]at z hn
  rcases mem_append.mp z with z | z
  ·exact hn (mem_append_left _ z)
  ·rcases hx p z with z | ⟨z,_⟩
   ·exact hn (mem_append_right _ z)
   ·rw[z]at hu;cases hu
 obtain⟨v1,h1,p1⟩:=h.AW
 obtain⟨v2,h2,p2⟩:=h.hle
 have h':=zX.same h o
 refine⟨h'.ins,h'.J7,⟨v1,o _ _ h1,Paired.mono (fun v ln z=>?_) p1⟩,⟨v2,o _ _ h2,Paired.mono (fun v t z=>?_) p2⟩,h'.Cu,h'.Ci,h'.ne,fun b hb=>?_⟩
 ·obtain⟨x,dx,pa,Am,ev,L,n⟩:=z
  exact⟨x,dx,pa,Am,ev,L.same o,Xq pa ⟨_,L.lst⟩ n⟩
 ·obtain⟨x,dx,wa,ev,Ct,hw,n⟩:=z
  exact⟨x,dx,wa,ev,o _ _ Ct,o _ _ hw,Xq wa ⟨_,hw⟩ n⟩
 ·rcases hx b hb with z | ⟨_,z⟩
  ·obtain⟨zs,hz⟩:=h.hex b z
   exact⟨zs,o _ _ hz⟩
  ·exact z
theorem AE.Ng {K:Frag}{ys:Ys}{e:List Addr}{H H':Hp}{a:YA}{s:YS}(h:AE K ys H a s)(o:zW e H H')(hs:∀ b ∈ e,b ∈ ys.ex)(hn:∀ b ∈ a.four,b ∉ e)(hl:∀ b ∈ e,∃ zs,H' b=some (.lst zs)):AE K ys H' a s:=by
 have o2:zW (a.la :: a.le :: a.li :: a.dn :: ys.ex) H H':=o.mono fun b hb=>by simp[hs b hb]
 obtain⟨h1,h2,f1,f2,f3,f4⟩:=zX.off h o2
 obtain⟨v1,a1,p1⟩:=h.AW
 obtain⟨v2,a2,p2⟩:=h.hle
 obtain⟨v3,a3,p3⟩:=h.Cu
 obtain⟨v4,a4,p4⟩:=h.Ci
 refine⟨h1,h2,⟨v1,o _ _ (hn _ (by simp)) a1,f1 _ _ p1⟩,⟨v2,o _ _ (hn _ (by simp)) a2,f2 _ _ p2⟩,⟨v3,o _ _ (hn _ (by simp)) a3,f3 _ _ p3⟩,⟨v4,o _ _ (hn _ (by simp)) a4,f4 _ _ p4⟩,h.ne,fun b hb=>?_⟩
 by_cases Cj:b ∈ e
 ·exact hl b Cj
 ·obtain⟨zs,hz⟩:=h.hex b hb
  exact⟨zs,o _ _ Cj hz⟩
theorem wV (xs:List V)(k:Nat):hW xs none (some (k:Int))=xs.take k:=by
 unfold hW
 have e0:HT.BY xs.length 0 none=0:=rfl
 rw[e0,show HT.BY xs.length xs.length (some (k:Int))=min k xs.length from HT.BQ _ _ k,List.drop_zero,sub_zero]
 rcases Nat.le_total k xs.length with h | h
 ·rw[min_eq_left h]
 ·rw[min_eq_right h,take_of_length_le h,take_of_length_le (Nat.le_refl _)]
theorem yW {m:Nat}{rs:List Int}(D5:rs.length=m)(EM:∀ r ∈ rs,1 <= r/\r <= 60):pS m (rs.map V.int)=true:=by
 unfold pS
 rw[length_map,D5,decide_eq_true rfl,Bool.true_and,all_eq_true]
 intro v hv
 obtain⟨r,Gq,rfl⟩:=mem_map.mp hv
 exact decide_eq_true (EM r Gq)
noncomputable def Xr (K:Frag)(c:Cs)(TC:Addr)(J:TJ)(ys:Ys)(ex:List Addr)(H:Hp)(tb:Addr)(ps:List (Int × Int))(n:Nat)(wy:Wf)(rs:List Int):VK:=fun v H'=>∃ a:YA,v = .ref a.y/\a.tb=tb/\a.ps=ps/\a.n=n/\a.wy=wy/\zO H H'/\(∀ z ∈ a.four,H z=none)/\C8 K c TC J (yx ys ex) H' a (Y0 (rs.map V.int) n)/\AV a (Y0 (rs.map V.int) n)
theorem vn {P:Program}{w:World}{K:Frag}{c:Cs}{TC fw nr:Addr}{dw:FuncData}{J:TJ}{ys:Ys}{ex:List Addr}{H:Hp}{tb lx Ao lt ra:Addr}{n:Nat}{Aa:List V}{ps:List (Int × Int)}{wy:Wf}{rs:List Int}{E:XK}(W:Wy K TC fw dw J)
  (hT:AS c TC J H tb lx Ao lt n Aa ps wy) (Dr:∀ p g k,(wy p g k).length <= 400) (zV:∀ p ∈ ps,jx n p=true) (hR:zU K H ra (rs.map V.int)) (D5:rs.length=ps.length) (EM:∀ r ∈ rs,1 <= r/\r <= 60) (hp:ps.length <= 8) (hex:∀ b ∈ ex,∃ xs,H b=some (.lst xs)) :
  ∀ y dy,H y=none->H dy=none->dy ≠ y->lO K c TC J (yx ys ex) nr [.ref y, .ref tb, .ref ra] (upd (upd H dy (.own y)) y (.ins ys.zR dy [])) (fun v H2=>v = .Af/\Xr K c TC J ys ex H tb ps n wy rs (.ref y) H2) E:=by
 intro y dy ny SK SM
 have s4:zO H (upd (upd H dy (.own y)) y (.ins ys.zR dy [])):=zO.new (zO.new (zO.refl H) SK) (by rw[ae (Ne.symm SM)];exact ny)
 have SN:=yW D5 EM
 refine⟨y,dy,tb,lx,Ao,lt,n,Aa,ps,wy,_,rs.map V.int,rfl,ac,hT.keep W (zO.Ah s4),(fun b hb=>let ⟨xs,hz⟩:=hex b hb; ⟨xs,s4 _ _ hz⟩), .inr ⟨ra,rfl, .inl (s4.seq hR),by rw[length_map];omega,(fun v hv=>by obtain⟨r,_,rfl⟩:=mem_map.mp hv;exact .int r),fun h=>by rw[SN]at h;cases h⟩,fun _ ro la le li dn H5 o5 GS Iw Mb Pe hY=>⟨rfl,?_⟩⟩
 have s5:zO H H5:=fun b o e=>o5 b o (fun z=>by rw[mem_singleton.mp z,ny]at e;cases e) (s4 _ _ e)
 have hO:MB ⟨y,dy,tb,ro,la,le,li,dn,lx,Ao,lt,n,Aa,ps,wy⟩:=by
  refine⟨fun l pr hl=>?_,Dr⟩
  have Nh:=zV pr (mem_of_getElem? hl)
  unfold jx at Nh
  simp only[Bool.and_eq_true,decide_eq_true_eq,Bool.not_eq_true',decide_eq_false_iff_not]at Nh
  exact⟨pr.2.toNat,by omega,by show pr.2.toNat < n;omega⟩
 have hJ:AV ⟨y,dy,tb,ro,la,le,li,dn,lx,Ao,lt,n,Aa,ps,wy⟩ (Y0 (rs.map V.int) n):=(Sz (a:=⟨y,dy,tb,ro,la,le,li,dn,lx,Ao,lt,n,Aa,ps,wy⟩) (by rw[length_map];exact D5)).jnv (zero_le _) (by show ps.length <= 40;omega)
 refine⟨⟨y,dy,tb,ro,la,le,li,dn,lx,Ao,lt,n,Aa,ps,wy⟩,rfl,rfl,rfl,rfl,rfl,s5,fun z hz=>?_,⟨hY,hT.keep W (zO.Ah s5),hO,hJ.ok⟩,hJ⟩
 have hz:z ∈ [la,le,li,dn]:=hz
 simp only[mem_cons,not_mem_nil,or_false]at hz
 rcases hz with rfl | rfl | rfl | rfl
 ·exact s4.free GS
 ·exact s4.free Iw
 ·exact s4.free Mb
 ·exact s4.free Pe
theorem nj {α:Type}{R:Hp->V->α->Prop}{g:TG}{te:TE}{σ0:St}{H:Hp}{Q:VK}(mono:∀ {H H':Hp},zO H H'->∀ v a,R H v a->R H' v a)(as:List α)(hn:as.length < sizeLine)
  (hs:∀ (i:Nat)(a:α)(H1:Hp)(N:V->Hp->Prop),as[i]? = some a->zO H H1->(∀ v H2,zO H1 H2->R H2 v a->N v H2)->g (.int i) σ0 H1 fun σ2 H2=>te σ2 H2 N)
  (hq:∀ D vs H1,zO H H1->H1 D=none->Paired (R H1) vs as->Q (.ref D) (upd H1 D (.lst vs))):du (vi 0 as.length) g nZ te σ0 Q H:=by
 refine bH as.length hn (fun i acc H'=>zO H H'/\Paired (R H') acc (as.take i)) ⟨zO.refl _, .nil⟩ (fun i acc H' h=>by rw[Paired.length h.2];exact length_take_le _ _) (fun i acc H' hi h=>?_) (fun acc H' h=>?_)
 ·obtain⟨s,hL⟩:=h
  refine⟨hi,fun v H2 y=>?_⟩
  obtain⟨rfl,rfl⟩:=y
  rw[zero_add]
  refine hs i as[i] H2 (fun y H4=>zO H H4/\Paired (R H4) (acc ++ [y]) (as.take (i + 1))) (getElem?_eq_getElem hi) s fun v H3 s3 hv=>⟨s.trans s3,?_⟩
  rw[take_succ,getElem?_eq_getElem hi]
  exact Paired.snoc hv (Paired.mono (mono s3) hL)
 ·obtain⟨s,hL⟩:=h
  rw[take_length]at hL
  exact⟨Nat.le_refl _,fun D hD=>hq D acc H' s hD hL⟩
noncomputable def cnt (m:Nat)(qs:List (Int × Int)):List Int:=(qs.filter fun q=>decide (q.1=(m:Int))).map (·.2)
noncomputable def iO (x y:Nat):List Int:=(List.range' x (y - x)).map fun z:Nat=>(z:Int)
theorem eE (m:Nat)(xs ys:List (Int × Int)):cnt m (xs ++ ys)=cnt m xs ++ cnt m ys:=by
 unfold cnt;rw[filter_append,map_append]
theorem fN (m m':Nat)(c:Int):cnt m [((m':Int),c)]=if m' = m then [c] else []:=by
 unfold cnt
 by_cases h:m' = m
 ·subst h;simp
 ·rw[if_neg h,filter_cons_of_neg (by simp;omega)];rfl
theorem qq {m:Nat}{qs:List (Int × Int)}(h:∀ q ∈ qs,q.1 ≠ (m:Int)):cnt m qs=[]:=by
 unfold cnt
 rw[List.filter_eq_nil_iff.mpr (fun q hq=>by simpa using h q hq)];rfl
theorem tH {x y:Nat}(h:x < y):iO x y=(x:Int) :: iO (x + 1) y:=by
 unfold iO
 rw[show y - x=(y - (x + 1)) + 1 by omega,List.range'_succ];rfl
theorem gJ {x y:Nat}(h:y <= x):iO x y=[]:=by
 unfold iO
 rw[show y - x=0 by omega];rfl
theorem jp {x y:Nat}(h:x <= y):iO x (y + 1)=iO x y ++ [(y:Int)]:=by
 unfold iO
 rw[show y + 1 - x=(y - x) + 1 by omega,List.range'_1_concat,map_append]
 show _ ++ [((x + (y - x):Nat):Int)]=_
 rw[show x + (y - x)=y by omega]
theorem vC (x y:Nat):(iO x y).length=y - x:=by unfold iO;rw[length_map,List.length_range']
theorem rB {m:Nat}{qs:List (Int × Int)}{c:Int}{x y:Nat}(h:qs.head? = some ((m:Int),c))(e:cnt m qs=iO x y):x < y/\c=(x:Int)/\cnt m qs.tail=iO (x + 1) y/\∀ m',m' ≠ m->cnt m' qs.tail=cnt m' qs:=by
 cases qs with
 | nil=>cases h
 | cons q qs =>
  cases h
  rw[show((m:Int),c) :: qs=[((m:Int),c)] ++ qs from rfl,eE,fN,if_pos rfl]at e
  have JT:x < y:=by
   rcases lt_or_ge x y with h | h
   ·exact h
   ·rw[gJ h]at e;cases e
  rw[tH JT]at e
  have e1:c :: cnt m qs=(x:Int) :: iO (x + 1) y:=e
  refine⟨JT,(List.cons.inj e1).1,(List.cons.inj e1).2,fun m' hm=>?_⟩
  rw[show((m:Int),c) :: qs=[((m:Int),c)] ++ qs from rfl,eE,fN,if_neg (Ne.symm hm)];rfl
theorem uW {m:Nat}{qs:List (Int × Int)}{q:Int × Int}{x y:Nat}(h:qs.getLast? = some q)(hq:q.1=(m:Int))(e:cnt m qs=iO x y):q.2 + 1=(y:Int)/\x < y:=by
 obtain⟨ys,rfl⟩:=List.getLast?_eq_some_iff.mp h
 obtain⟨q1,q2⟩:=q
 have hq:q1=(m:Int):=hq
 subst hq
 rw[eE,fN,if_pos rfl]at e
 rcases lt_or_ge x y with JT | JT
 ·obtain⟨z,rfl⟩:∃ z,y=z + 1:=⟨y - 1,by omega⟩
  rw[jp (by omega)]at e
  have:=List.append_inj_right' e rfl
  have:q2=(z:Int):=(List.cons.inj this).1
  exact⟨by show q2 + 1=_;omega,JT⟩
 ·rw[gJ JT]at e
  exact absurd e (by simp)
noncomputable def Ni (s:YS)(p q:Int × Int):Prop:=(q.1=p.1/\q.2=p.2 + 1)∨(q.2=0/\∃ (m:Nat)(t:aY),p.1=(m:Int)/\s.U[m]? = some t/\p.2=t.len - 1)
structure BO (a:YA)(s:YS)(N D:Nat->Nat->Nat):Prop where
 g0:∀ (m:Nat)(t:aY),s.U[m]? = some t->((N m 0 + D m 0:Nat):Int)=t.gone
 gl:∀ (m:Nat)(t:aY),s.U[m]? = some t->t.gone <= t.len
 DJ:∀ (m:Nat)(t:aY),s.U[m]? = some t->∀ i,t.way.length < i->N m i + D m i=0
 top:∀ (m:Nat)(t:aY),s.U[m]? = some t->t.way=[]->N m 0=0
 dn:∀ (m:Nat)(t:aY),s.U[m]? = some t->∀ i,i < t.way.length->N m (i + 1) + D m (i + 1) <= N m i/\0 < N m i/\(N m i:Int) <= t.len
 q:∀ (m:Nat)(t:aY),s.U[m]? = some t->∀ (i k:Nat)(ln:bS),t.way[i]? = some k->s.lanes[k]? = some ln->cnt m ln.qs=iO (N m (i + 1) + D m (i + 1)) (N m i)
 own:∀ (k:Nat)(ln:bS),s.lanes[k]? = some ln->∀ p ∈ ln.qs,∃ (m:Nat)(t:aY),p.1=(m:Int)/\s.U[m]? = some t/\k ∈ t.way
 nd:∀ (m:Nat)(t:aY),s.U[m]? = some t->t.way.Nodup
 By:∀ (m:Nat)(t:aY),s.U[m]? = some t->∀ (p:Nat)(qs:List (Int × Int)),s.lies[p]? = some qs->cnt m qs=if (p:Int)=t.goal then iO 0 (N m t.way.length) else []
 CF:∀ (p:Nat)(qs:List (Int × Int)),s.lies[p]? = some qs->∀ q ∈ qs,∃ (m:Nat)(t:aY),q.1=(m:Int)/\s.U[m]? = some t
 hold:∀ (k:Nat)(ln:bS),s.lanes[k]? = some ln->∀ (m:Nat)(t:aY),s.U[m]? = some t->(ln.h=some (m:Int)↔∃ i,t.way[i]? = some k/\(N m i:Int) < t.len)
 CG:∀ (k:Nat)(ln:bS),s.lanes[k]? = some ln->∀ z,ln.h=some z->∃ (m:Nat)(t:aY),z=(m:Int)/\s.U[m]? = some t
 room:∀ (k:Nat)(ln:bS),s.lanes[k]? = some ln->s.rooms[k]? = some (.int (ln.r + ln.b + ln.qs.length))/\0 <= ln.r/\0 <= ln.b
 FL:∀ (k:Nat)(ln:bS),s.lanes[k]? = some ln->∀ (i:Nat)(p q:Int × Int),ln.qs[i]? = some p->ln.qs[i + 1]? = some q->Ni s p q
 lst:∀ (k:Nat)(ln:bS),s.lanes[k]? = some ln->∀ q,ln.qs.getLast? = some q->ln.h=some q.1∨(ln.h=none/\∃ (m:Nat)(t:aY),q.1=(m:Int)/\s.U[m]? = some t/\q.2=t.len - 1)
noncomputable def zr:Nat->Nat->Nat:=fun _ _=>0
noncomputable def c5 (m0 i0:Nat):Nat->Nat->Nat:=fun m i=>if m=m0/\i=i0 then 1 else 0
theorem fj (m i:Nat):c5 m i m i=1:=if_pos ⟨rfl,rfl⟩
theorem eI {m0 i0 m i:Nat}(h:m ≠ m0):c5 m0 i0 m i=0:=if_neg fun z=>h z.1
theorem cr {m0 i0 m i:Nat}(h:i ≠ i0):c5 m0 i0 m i=0:=if_neg fun z=>h z.2
theorem cC {l:List Nat}(h:l.Nodup){i j x:Nat}(hi:l[i]? = some x)(hj:l[j]? = some x):i=j:=by
 obtain⟨h1,e1⟩:=List.getElem?_eq_some_iff.mp hi
 obtain⟨h2,e2⟩:=List.getElem?_eq_some_iff.mp hj
 exact(List.getElem_inj h).mp (e1.trans e2.symm)
theorem vb {s:YS}{qs:List (Int × Int)}(h:∀ (i:Nat) (p q:Int × Int),qs[i]? = some p->qs[i + 1]? = some q->Ni s p q):∀ (i:Nat)(p q:Int × Int),qs.tail[i]? = some p->qs.tail[i + 1]? = some q->Ni s p q:=fun i p q hp hq=>by
 rw[List.getElem?_tail]at hp hq
 exact h (i + 1) p q hp hq
theorem rb {α:Type}{qs:List α}{q:α}(h:qs.tail.getLast? = some q):qs.getLast? = some q:=by
 cases qs with
 | nil=>cases h
 | cons x qs =>
  cases qs with
  | nil=>cases h
  | cons y qs=>rw[List.getLast?_cons_cons];exact h
theorem BO.pull {a:YA}{s:YS}{N:Nat->Nat->Nat}(G:BO a s N zr){k m:Nat}{c:Int}{lk:bS}{t:aY}(hk:s.lanes[k]? = some lk)(hq:lk.qs.head? = some ((m:Int),c))(ht:s.U[m]? = some t) :
  ∃ i,t.way[i]? = some k/\c=(N m (i + 1):Int)/\N m (i + 1) < N m i/\BO a { s with lanes:=s.lanes.set k (bM lk) } N (c5 m (i + 1)):=by
 have IJ:((m:Int),c) ∈ lk.qs:=List.mem_of_mem_head? hq
 obtain⟨m',t',e,IW,FD⟩:=G.own k lk hk _ IJ
 have e:(m:Int)=(m':Int):=e
 have e:m' = m:=by omega
 subst e
 rw[ht]at IW;cases IW
 obtain⟨i,hi⟩:=List.getElem?_of_mem FD
 have HF:=(gQ0 hi)
 obtain⟨f1,f2,f3,f4⟩:=rB hq (G.q m' t ht i k lk hi hk)
 have f1:N m' (i + 1) < N m' i:=f1
 have f3:cnt m' lk.qs.tail=iO (N m' (i + 1) + 1) (N m' i):=f3
 refine⟨i,hi,f2,f1,?_⟩
 have tl:lk.qs=((m':Int),c) :: lk.qs.tail:=by
  cases hx:lk.qs with
  | nil=>rw[hx]at hq;cases hq
  | cons x xs=>rw[hx]at hq;cases hq;rfl
 refine⟨fun m t h=>?_,G.gl,fun m t h j hj=>?_,G.top,fun m t h j hj=>?_,fun m t h j kk ln hj hl=>?_,fun kk ln hl p hp=>?_,G.nd,G.By,G.CF,fun kk ln hl=>?_,fun kk ln hl=>?_,fun kk ln hl=>?_,fun kk ln hl=>?_,fun kk ln hl=>?_⟩
 ·have:=G.g0 m t h
  rw[cr (by omega)];exact this
 ·have h1:=G.DJ m t h j hj
  by_cases e:m=m'
  ·subst e
   rw[ht]at h;cases h
   rw[cr (by omega)];exact h1
  ·rw[eI e];exact h1
 ·obtain⟨h1,h2,h3⟩:=G.dn m t h j hj
  refine⟨?_,h2,h3⟩
  have h1:N m (j + 1) <= N m j:=h1
  by_cases e:m=m'/\j + 1=i + 1
  ·obtain⟨rfl,e⟩:=e
   have:j=i:=by omega
   subst this
   rw[fj];omega
  ·show N m (j + 1) + c5 m' (i + 1) m (j + 1) <= _
   unfold c5;rw[if_neg e];omega
 ·rcases bz hl with ⟨rfl,rfl⟩ | ⟨Ay,hl⟩
  ·show cnt m lk.qs.tail=_
   by_cases e:m=m'
   ·subst e
    rw[ht]at h;cases h
    have:j=i:=cC (G.nd _ _ ht) hj hi
    subst this
    rw[fj];exact f3
   ·rw[eI e,f4 m e];exact G.q m t h j kk lk hj hk
  ·by_cases e:m=m'/\j + 1=i + 1
   ·obtain⟨rfl,e⟩:=e
    have:j=i:=by omega
    subst this
    rw[ht]at h;cases h
    rw[hi]at hj;cases hj
    exact absurd rfl Ay
   ·unfold c5;rw[if_neg e];exact G.q m t h j kk ln hj hl
 ·rcases bz hl with ⟨rfl,rfl⟩ | ⟨_,hl⟩
  ·exact G.own kk lk hk p (by rw[tl];exact mem_cons_of_mem _ hp)
  ·exact G.own kk ln hl p hp
 ·rcases bz hl with ⟨rfl,rfl⟩ | ⟨_,hl⟩
  ·exact G.hold kk lk hk
  ·exact G.hold kk ln hl
 ·rcases bz hl with ⟨rfl,rfl⟩ | ⟨_,hl⟩
  ·exact G.CG kk lk hk
  ·exact G.CG kk ln hl
 ·rcases bz hl with ⟨rfl,rfl⟩ | ⟨_,hl⟩
  ·obtain⟨r1,r2,r3⟩:=G.room kk lk hk
   refine⟨?_,r2,?_⟩
   ·show s.rooms[kk]? = some (.int (lk.r + (lk.b + 1) + lk.qs.tail.length))
    rw[r1]
    have:lk.qs.length=lk.qs.tail.length + 1:=by rw[tl];rfl
    rw[this]
    congr 2;omega
   ·show 0 <= lk.b + 1;omega
  ·exact G.room kk ln hl
 ·rcases bz hl with ⟨rfl,rfl⟩ | ⟨_,hl⟩
  ·exact vb (s:={ s with lanes:=s.lanes.set kk (bM lk) }) (G.FL kk lk hk)
  ·exact G.FL kk ln hl
 ·rcases bz hl with ⟨rfl,rfl⟩ | ⟨_,hl⟩
  ·exact fun q hq=>G.lst kk lk hk q (rb hq)
  ·exact G.lst kk ln hl
theorem BO.leave {a:YA}{s:YS}{N:Nat->Nat->Nat}(G:BO a s N zr){m:Nat}{t:aY}(ht:s.U[m]? = some t)(hg:t.gone ≠ t.len):BO a (cz s m t) N (c5 m 0):=by
 have gl:=G.gl m t ht
 have key:∀ (m':Nat)(t':aY),(cz s m t).U[m']? = some t'->∃ t2,s.U[m']? = some t2/\t'.way=t2.way/\t'.len=t2.len/\t'.goal=t2.goal/\(m' ≠ m->t' = t2)/\(m' = m->t'.gone=t.gone + 1/\t2=t):=fun m' t' h=>by
  have h:(s.U.set m { t with gone:=t.gone + 1 })[m']? = some t':=h
  rcases bz h with ⟨rfl,rfl⟩ | ⟨Ay,h⟩
  ·exact⟨t,ht,rfl,rfl,rfl,fun z=>absurd rfl z,fun _=>⟨rfl,rfl⟩⟩
  ·exact⟨t',h,rfl,rfl,rfl,fun _=>rfl,fun z=>absurd z Ay⟩
 have back:∀ (m':Nat)(t2:aY),s.U[m']? = some t2->∃ t',(cz s m t).U[m']? = some t'/\t'.way=t2.way/\t'.len=t2.len:=fun m' t2 h=>by
  by_cases e:m' = m
  ·subst e
   rw[ht]at h;cases h
   exact⟨{ t with gone:=t.gone + 1 },cX ht,rfl,rfl⟩
  ·exact⟨t2,by show(s.U.set m _)[m']? = _;rw[getElem?_set_ne (Ne.symm e)];exact h,rfl,rfl⟩
 refine⟨fun m' t' h=>?_,fun m' t' h=>?_,fun m' t' h j hj=>?_,fun m' t' h hw=>?_,fun m' t' h j hj=>?_,fun m' t' h j kk ln hj hl=>?_,fun kk ln hl p hp=>?_,fun m' t' h=>?_,fun m' t' h p qs hp=>?_,fun p qs hp q hq=>?_,fun kk ln hl m' t' h=>?_,fun kk ln hl z hz=>?_,G.room,fun kk ln hl i p q hp hq=>?_,fun kk ln hl q hq=>?_⟩
 ·obtain⟨t2,h2,ew,el,eg,ne,eq⟩:=key m' t' h
  have h0:=G.g0 m' t2 h2
  by_cases e:m' = m
  ·obtain⟨e1,rfl⟩:=eq e
   subst e
   rw[fj,e1,← h0];show((N m' 0 + 1:Nat):Int)=((N m' 0 + 0:Nat):Int) + 1;omega
  ·rw[eI e,ne e];exact h0
 ·obtain⟨t2,h2,ew,el,eg,ne,eq⟩:=key m' t' h
  by_cases e:m' = m
  ·obtain⟨e1,rfl⟩:=eq e
   rw[e1,el];omega
  ·rw[ne e];exact G.gl m' t2 h2
 ·obtain⟨t2,h2,ew,el,eg,ne,eq⟩:=key m' t' h
  rw[cr (by omega)];exact G.DJ m' t2 h2 j (by rw[← ew];exact hj)
 ·obtain⟨t2,h2,ew,el,eg,ne,eq⟩:=key m' t' h
  exact G.top m' t2 h2 (by rw[← ew];exact hw)
 ·obtain⟨t2,h2,ew,el,eg,ne,eq⟩:=key m' t' h
  rw[cr (by omega),el];exact G.dn m' t2 h2 j (by rw[← ew];exact hj)
 ·obtain⟨t2,h2,ew,el,eg,ne,eq⟩:=key m' t' h
  rw[cr (by omega)];exact G.q m' t2 h2 j kk ln (by rw[← ew];exact hj) hl
 ·obtain⟨m',t2,e,h2,hw⟩:=G.own kk ln hl p hp
  obtain⟨t',h',ew,_⟩:=back m' t2 h2
  exact⟨m',t',e,h',by rw[ew];exact hw⟩
 ·obtain⟨t2,h2,ew,_⟩:=key m' t' h
  rw[ew];exact G.nd m' t2 h2
 ·obtain⟨t2,h2,ew,el,eg,_⟩:=key m' t' h
  rw[ew,eg];exact G.By m' t2 h2 p qs hp
 ·obtain⟨m',t2,e,h2⟩:=G.CF p qs hp q hq
  obtain⟨t',h',_⟩:=back m' t2 h2
  exact⟨m',t',e,h'⟩
 ·obtain⟨t2,h2,ew,el,eg,_⟩:=key m' t' h
  rw[ew,el];exact G.hold kk ln hl m' t2 h2
 ·obtain⟨m',t2,e,h2⟩:=G.CG kk ln hl z hz
  obtain⟨t',h',_⟩:=back m' t2 h2
  exact⟨m',t',e,h'⟩
 ·rcases G.FL kk ln hl i p q hp hq with z | ⟨z,m',t2,e,h2,e2⟩
  ·exact .inl z
  ·obtain⟨t',h',_,el⟩:=back m' t2 h2
   exact .inr ⟨z,m',t',e,h',by rw[el];exact e2⟩
 ·rcases G.lst kk ln hl q hq with z | ⟨z,m',t2,e,h2,e2⟩
  ·exact .inl z
  ·obtain⟨t',h',_,el⟩:=back m' t2 h2
   exact .inr ⟨z,m',t',e,h',by rw[el];exact e2⟩
theorem BO.enter {a:YA}{s:YS}{N:Nat->Nat->Nat}{m i l:Nat}{c:Int}{t:aY}{ln:bS}(G:BO a s N (c5 m i))(ht:s.U[m]? = some t)(hc:c=(N m i:Int))(h0:c=0->i=t.way.length/\l ∉ t.way)(h1:c ≠ 0->t.way[i]? = some l)(hlen:c + 1 <= t.len)(Ar:s.lanes[l]? = some ln)(ho:ce ln.r ln.h m c=true) :
  BO a (bV s m c l t ln) (fun m' i'=>N m' i' + c5 m i m' i') zr:=by
 obtain⟨LC,CP⟩:ln.r ≠ 0/\if c=0 then ln.h=none else ln.h=some (m:Int):=by
  unfold ce at ho
  by_cases hr:ln.r=0
  ·rw[if_pos hr]at ho;cases ho
  ·rw[if_neg hr]at ho
   by_cases h:c=0
   ·rw[if_pos h]at ho ⊢;exact⟨hr,of_decide_eq_true ho⟩
   ·rw[if_neg h]at ho ⊢;exact⟨hr,of_decide_eq_true ho⟩
 obtain⟨t1,FN,w1,el,eg,Xt,hw⟩:∃ t1:aY,(bV s m c l t ln).U[m]? = some t1/\t1.way=(if c=0 then t.way ++ [l] else t.way)/\t1.len=t.len/\t1.goal=t.goal/\t1.gone=t.gone/\t1.way[i]? = some l:=by
  by_cases h:c=0
  ·refine⟨{ t with way:=t.way ++ [l] },?_,by rw[if_pos h],rfl,rfl,rfl,?_⟩
   ·show(if c=0 then s.U.set m { t with way:=t.way ++ [l] } else s.U)[m]? = _
    rw[if_pos h];exact cX ht
   ·show(t.way ++ [l])[i]? = some l
    rw[(h0 h).1,getElem?_concat_length]
  ·refine⟨t,?_,by rw[if_neg h],rfl,rfl,rfl,h1 h⟩
   show(if c=0 then s.U.set m { t with way:=t.way ++ [l] } else s.U)[m]? = _
   rw[if_neg h];exact ht
 have key:∀ (m':Nat)(t':aY),(bV s m c l t ln).U[m']? = some t'->(m' = m/\t' = t1)∨(m' ≠ m/\s.U[m']? = some t'):=fun m' t' h=>by
  by_cases e:m' = m
  ·subst e
   rw[FN]at h;cases h;exact .inl ⟨rfl,rfl⟩
  ·refine .inr ⟨e,?_⟩
   have h:(if c=0 then s.U.set m { t with way:=t.way ++ [l] } else s.U)[m']? = some t':=h
   by_cases hc0:c=0
   ·rw[if_pos hc0,getElem?_set_ne (Ne.symm e)]at h;exact h
   ·rw[if_neg hc0]at h;exact h
 have back:∀ (m':Nat)(t2:aY),s.U[m']? = some t2->∃ t',(bV s m c l t ln).U[m']? = some t'/\(∀ x ∈ t2.way,x ∈ t'.way)/\t'.len=t2.len:=fun m' t2 h=>by
  by_cases e:m' = m
  ·subst e
   rw[ht]at h;cases h
   refine⟨t1,FN,fun x hx=>?_,el⟩
   rw[w1];split
   ·exact mem_append_left _ hx
   ·exact hx
  ·refine⟨t2,?_,fun x hx=>hx,rfl⟩
   show(if c=0 then s.U.set m { t with way:=t.way ++ [l] } else s.U)[m']? = _
   split
   ·rw[getElem?_set_ne (Ne.symm e)];exact h
   ·exact h
 have Nj:∀ (j k:Nat),t1.way[j]? = some k->j ≠ i->t.way[j]? = some k:=fun j k hj Ay=>by
  rw[w1]at hj
  by_cases h:c=0
  ·rw[if_pos h]at hj
   have AG:=(gQ0 hj)
   rw[length_append,length_singleton]at AG
   have:=(h0 h).1
   rwa [getElem?_append_left (by omega)]at hj
  ·rw[if_neg h]at hj;exact hj
 have IX:t1.way.length=if c=0 then i + 1 else t.way.length:=by
  rw[w1];split
  ·rename_i h
   rw[length_append,length_singleton,(h0 h).1]
  ·rfl
 have HF:c ≠ 0->i < t.way.length:=fun h=>(List.getElem?_eq_some_iff.mp (h1 h)).1
 have L5:t1.way.Nodup:=by
  rw[w1];split
  ·rename_i h
   refine nodup_append.mpr ⟨G.nd m t ht,by simp,fun x hx y hy e=>?_⟩
   rw[mem_singleton]at hy
   subst hy;subst e
   exact(h0 h).2 hx
  ·exact G.nd m t ht
 have Bq:∀ {kk:Nat}{AF:bS},(bV s m c l t ln).lanes[kk]? = some AF->(kk=l/\AF = eD ln m c t.len)∨(kk ≠ l/\s.lanes[kk]? = some AF):=fun h=>bz h
 have DP:∀ m',m' ≠ m->cnt m' (ln.qs ++ [((m:Int),c)])=cnt m' ln.qs:=fun m' hm=>by
  rw[eE,fN,if_neg (Ne.symm hm),append_nil]
 have Py:cnt m ln.qs=iO (N m (i + 1)) (N m i)/\N m (i + 1) <= N m i:=by
  by_cases h:c=0
  ·have e0:N m i=0:=by omega
   have f1:=G.DJ m t ht (i + 1) (by have:=(h0 h).1;omega)
   rw[cr (by omega)]at f1
   have f1:N m (i + 1)=0:=by omega
   rw[e0,f1]
   refine⟨?_,Nat.le_refl _⟩
   rw[gJ (Nat.le_refl _)]
   refine qq fun q hq e=>?_
   obtain⟨m',t',e',IW,HA⟩:=G.own l ln Ar q hq
   have:m' = m:=by rw[e]at e';omega
   subst this
   rw[ht]at IW;cases IW
   exact(h0 h).2 HA
  ·have:=G.q m t ht i l ln (h1 h) Ar
   rw[cr (by omega)]at this
   have hd:=(G.dn m t ht i (HF h)).1
   rw[cr (by omega)]at hd
   exact⟨this,hd⟩
 have z0:∀ m' j,(zr m' j)=0:=fun _ _=>rfl
 refine⟨fun m' t' h=>?_,fun m' t' h=>?_,fun m' t' h j hj=>?_,fun m' t' h HA=>?_,fun m' t' h j hj=>?_,fun m' t' h j kk AF hj hl=>?_,fun kk AF hl p hp=>?_,fun m' t' h=>?_,fun m' t' h p qs hp=>?_,fun p qs hp q hq=>?_,fun kk AF hl m' t' h=>?_,fun kk AF hl z hz=>?_,fun kk AF hl=>?_,fun kk AF hl j p q hp hq=>?_,fun kk AF hl q hq=>?_⟩
 ·rcases key m' t' h with ⟨rfl,rfl⟩ | ⟨Ay,h⟩
  ·rw[Xt,← G.g0 _ t ht];rfl
  ·exact G.g0 m' t' h
 ·rcases key m' t' h with ⟨rfl,rfl⟩ | ⟨Ay,h⟩
  ·rw[Xt,el];exact G.gl _ t ht
  ·exact G.gl m' t' h
 ·rcases key m' t' h with ⟨rfl,rfl⟩ | ⟨Ay,h⟩
  ·refine G.DJ _ t ht j ?_
   rw[IX]at hj
   by_cases hc0:c=0
   ·rw[if_pos hc0]at hj;have:=(h0 hc0).1;omega
   ·rw[if_neg hc0]at hj;exact hj
  ·exact G.DJ m' t' h j hj
 ·rcases key m' t' h with ⟨rfl,rfl⟩ | ⟨Ay,h⟩
  ·rw[HA]at hw;cases hw
  ·show N m' 0 + c5 m i m' 0=0
   rw[eI Ay];exact G.top m' t' h HA
 ·rcases key m' t' h with ⟨rfl,rfl⟩ | ⟨Ay,h⟩
  ·show N m' (j + 1) + c5 m' i m' (j + 1) + 0 <= N m' j + c5 m' i m' j/\0 < N m' j + c5 m' i m' j/\((N m' j + c5 m' i m' j:Nat):Int) <= t'.len
   rw[el]
   by_cases e:j=i
   ·subst e
    rw[fj,cr (by omega)]
    have:=Py.2
    exact⟨by omega,by omega,by omega⟩
   ·have Sv:j < t.way.length:=by
     rw[IX]at hj
     by_cases hc0:c=0
     ·rw[if_pos hc0]at hj;have:=(h0 hc0).1;omega
     ·rw[if_neg hc0]at hj;exact hj
    obtain⟨d1,d2,d3⟩:=G.dn _ t ht j Sv
    have:c5 m' i m' j=0:=cr e
    rw[this]
    exact⟨by omega,by omega,by omega⟩
  ·show N m' (j + 1) + c5 m i m' (j + 1) + 0 <= N m' j + c5 m i m' j/\0 < N m' j + c5 m i m' j/\((N m' j + c5 m i m' j:Nat):Int) <= t'.len
   have:=G.dn m' t' h j hj
   rw[eI Ay]at this ⊢
   rw[eI Ay];exact this
 ·show cnt m' AF.qs=iO (N m' (j + 1) + c5 m i m' (j + 1) + 0) (N m' j + c5 m i m' j)
  rcases key m' t' h with ⟨rfl,rfl⟩ | ⟨Ay,h2⟩
  ·rcases Bq hl with ⟨rfl,rfl⟩ | ⟨BM,hl⟩
   ·have:j=i:=cC L5 hj hw
    subst this
    show cnt m' (ln.qs ++ [((m':Int),c)])=_
    rw[eE,fN,if_pos rfl,fj,cr (by omega),Py.1,hc,add_zero,add_zero]
    exact(jp Py.2).symm
   ·have Nk:j ≠ i:=fun e=>by rw[e,hw]at hj;cases hj;exact BM rfl
    rw[show c5 m' i m' j=0 from cr Nk]
    exact G.q _ t ht j kk AF (Nj j kk hj Nk) hl
  ·rcases Bq hl with ⟨rfl,rfl⟩ | ⟨BM,hl⟩
   ·show cnt m' (ln.qs ++ [((m:Int),c)])=_
    rw[DP m' Ay,show c5 m i m' j=0 from eI Ay]
    exact G.q m' t' h2 j kk ln hj Ar
   ·rw[show c5 m i m' j=0 from eI Ay]
    exact G.q m' t' h2 j kk AF hj hl
 ·rcases Bq hl with ⟨rfl,rfl⟩ | ⟨BM,hl⟩
  ·rcases mem_append.mp hp with hp | hp
   ·obtain⟨m',t2,e,h2,Hs⟩:=G.own kk ln Ar p hp
    obtain⟨t',h',sub,_⟩:=back m' t2 h2
    exact⟨m',t',e,h',sub _ Hs⟩
   ·rw[mem_singleton.mp hp]
    exact⟨m,t1,rfl,FN,mem_of_getElem? hw⟩
  ·obtain⟨m',t2,e,h2,Hs⟩:=G.own kk AF hl p hp
   obtain⟨t',h',sub,_⟩:=back m' t2 h2
   exact⟨m',t',e,h',sub _ Hs⟩
 ·rcases key m' t' h with ⟨rfl,rfl⟩ | ⟨Ay,h⟩
  ·exact L5
  ·exact G.nd m' t' h
 ·show cnt m' qs=if (p:Int)=t'.goal then iO 0 (N m' t'.way.length + c5 m i m' t'.way.length) else []
  rcases key m' t' h with ⟨rfl,rfl⟩ | ⟨Ay,h⟩
  ·have e:=G.By _ t ht p qs hp
   rw[eg,e]
   by_cases C2:(p:Int)=t.goal
   ·rw[if_pos C2,if_pos C2,IX]
    by_cases hc0:c=0
    ·rw[if_pos hc0,cr (by omega),← (h0 hc0).1]
     have f1:=G.DJ _ t ht (i + 1) (by have:=(h0 hc0).1;omega)
     have e1:N m' (i + 1)=0:=by omega
     have e2:N m' i=0:=by omega
     rw[e1,e2]
    ·rw[if_neg hc0,cr (by have:=HF hc0;omega)];rfl
   ·rw[if_neg C2,if_neg C2]
  ·rw[eI Ay];exact G.By m' t' h p qs hp
 ·obtain⟨m',t2,e,h2⟩:=G.CF p qs hp q hq
  obtain⟨t',h',_⟩:=back m' t2 h2
  exact⟨m',t',e,h'⟩
 ·show AF.h=some (m':Int)↔∃ j,t'.way[j]? = some kk/\((N m' j + c5 m i m' j:Nat):Int) < t'.len
  rcases key m' t' h with ⟨rfl,rfl⟩ | ⟨Ay,h2⟩
  ·rcases Bq hl with ⟨rfl,rfl⟩ | ⟨BM,hl⟩
   ·show(if decide (c=t.len - 1)=true then none else some (m':Int))=_↔_
    rw[el]
    constructor
    ·intro z
     refine⟨i,hw,?_⟩
     rw[fj]
     by_cases e:c=t.len - 1
     ·rw[if_pos (decide_eq_true e)]at z;cases z
     ·omega
    ·rintro⟨j,hj,Ep⟩
     have:j=i:=cC L5 hj hw
     subst this
     rw[fj]at Ep
     rw[if_neg (by rw[decide_eq_true_eq];omega)]
   ·have e:=G.hold kk AF hl _ t ht
    rw[e,el]
    constructor
    ·rintro⟨j,hj,Ep⟩
     refine⟨j,?_,?_⟩
     ·rw[w1];split
      ·rw[getElem?_append_left (gQ0 hj)];exact hj
      ·exact hj
     ·rw[show c5 m' i m' j=0 from cr fun e=>by
       subst e
       by_cases hc0:c=0
       ·have:=(gQ0 hj);have:=(h0 hc0).1;omega
       ·rw[h1 hc0]at hj;cases hj;exact BM rfl]
      exact Ep
    ·rintro⟨j,hj,Ep⟩
     have Nk:j ≠ i:=fun e=>by rw[e,hw]at hj;cases hj;exact BM rfl
     rw[show c5 m' i m' j=0 from cr Nk]at Ep
     exact⟨j,Nj j kk hj Nk,Ep⟩
  ·have eN:∀ j,N m' j + c5 m i m' j=N m' j:=fun j=>by rw[eI Ay];rfl
   simp only[eN]
   rcases Bq hl with ⟨rfl,rfl⟩ | ⟨BM,hl⟩
   ·show(if decide (c=t.len - 1)=true then none else some (m:Int))=_↔_
    rw[← G.hold kk ln Ar m' t' h2]
    have a1:ln.h ≠ some (m':Int):=fun z=>by
     rw[z]at CP
     by_cases hc0:c=0
     ·rw[if_pos hc0]at CP;cases CP
     ·rw[if_neg hc0]at CP
      have:=Option.some.inj CP
      omega
    refine⟨fun z=>?_,fun z=>absurd z a1⟩
    split at z
    ·cases z
    ·have:=Option.some.inj z
     exact absurd (show m' = m by omega) Ay
   ·exact G.hold kk AF hl m' t' h2
 ·rcases Bq hl with ⟨rfl,rfl⟩ | ⟨BM,hl⟩
  ·have z:(if decide (c=t.len - 1)=true then none else some (m:Int))=some z:=hz
   split at z
   ·cases z
   ·exact⟨m,t1,(Option.some.inj z).symm,FN⟩
  ·obtain⟨m',t2,e,h2⟩:=G.CG kk AF hl z hz
   obtain⟨t',h',_⟩:=back m' t2 h2
   exact⟨m',t',e,h'⟩
 ·rcases Bq hl with ⟨rfl,rfl⟩ | ⟨BM,hl⟩
  ·obtain⟨r1,r2,r3⟩:=G.room kk ln Ar
   refine⟨?_,by show 0 <= ln.r - 1;omega,r3⟩
   show s.rooms[kk]? = some (.int (ln.r - 1 + ln.b + ((ln.qs ++ [((m:Int),c)]).length:Nat)))
   rw[r1,length_append,length_singleton]
   congr 2;omega
  ·exact G.room kk AF hl
 ·have up:Ni s p q->Ni (bV s m c l t ln) p q:=fun z=>by
   rcases z with z | ⟨z,m',t2,e,h2,e2⟩
   ·exact .inl z
   ·obtain⟨t',h',_,SO⟩:=back m' t2 h2
    exact .inr ⟨z,m',t',e,h',by rw[SO];exact e2⟩
  rcases Bq hl with ⟨rfl,rfl⟩ | ⟨BM,hl⟩
  ·have hp:(ln.qs ++ [((m:Int),c)])[j]? = some p:=hp
   have hq:(ln.qs ++ [((m:Int),c)])[j + 1]? = some q:=hq
   by_cases hj:j + 1 < ln.qs.length
   ·rw[getElem?_append_left (by omega)]at hp
    rw[getElem?_append_left hj]at hq
    exact up (G.FL kk ln Ar j p q hp hq)
   ·have AG:=(gQ0 hq)
    rw[length_append,length_singleton]at AG
    have ej:j + 1=ln.qs.length:=by omega
    rw[ej,getElem?_concat_length]at hq
    cases hq
    rw[getElem?_append_left (by omega)]at hp
    have HG:ln.qs.getLast? = some p:=by rw[List.getLast?_eq_getElem?,← ej];exact hp
    rcases G.lst kk ln Ar p HG with z | ⟨z,m',t2,e,h2,e2⟩
    ·by_cases hc0:c=0
     ·rw[if_pos hc0,z]at CP;cases CP
     ·rw[if_neg hc0,z]at CP
      have e1:p.1=(m:Int):=Option.some.inj CP
      obtain⟨e2,_⟩:=uW HG e1 Py.1
      exact .inl ⟨e1.symm,by show c=p.2 + 1;omega⟩
    ·by_cases hc0:c=0
     ·exact up (.inr ⟨hc0,m',t2,e,h2,e2⟩)
     ·rw[if_neg hc0,z]at CP;cases CP
  ·exact up (G.FL kk AF hl j p q hp hq)
 ·rcases Bq hl with ⟨rfl,rfl⟩ | ⟨BM,hl⟩
  ·have hq:(ln.qs ++ [((m:Int),c)]).getLast? = some q:=hq
   rw[List.getLast?_concat]at hq
   cases hq
   show(if decide (c=t.len - 1)=true then none else some (m:Int))=_∨_
   by_cases e:c=t.len - 1
   ·exact .inr ⟨by show(if decide (c=t.len - 1)=true then none else some (m:Int))=none;rw[if_pos (decide_eq_true e)],m,t1,rfl,FN,by rw[el];exact e⟩
   ·exact .inl (by rw[if_neg (by rw[decide_eq_true_eq];exact e)])
  ·rcases G.lst kk AF hl q hq with z | ⟨z,m',t2,e,h2,e2⟩
   ·exact .inl z
   ·obtain⟨t',h',_,SO⟩:=back m' t2 h2
    exact .inr ⟨z,m',t',e,h',by rw[SO];exact e2⟩
theorem BO.lay {a:YA}{s:YS}{N:Nat->Nat->Nat}{m e:Nat}{c:Int}{t:aY}{qs:List (Int × Int)}(G:BO a s N (c5 m t.way.length))(ht:s.U[m]? = some t)(hc:c=(N m t.way.length:Int))(hg:t.goal=(e:Int))(BW:s.lies[e]? = some qs)(hw:t.way ≠ []) :
  BO a { s with lies:=s.lies.set e (qs ++ [((m:Int),c)]) } (fun m' i'=>N m' i' + c5 m t.way.length m' i') zr:=by
 have Nl:0 < t.way.length:=List.length_pos_iff.mpr hw
 have eN:∀ m' j,(m' = m->j ≠ t.way.length)->N m' j + c5 m t.way.length m' j=N m' j:=fun m' j h=>by
  by_cases e:m' = m
  ·rw[cr (h e)];rfl
  ·rw[eI e];rfl
 refine⟨fun m' t' h=>?_,G.gl,fun m' t' h j hj=>?_,fun m' t' h HA=>?_,fun m' t' h j hj=>?_,fun m' t' h j kk ln hj hl=>?_,G.own,G.nd,fun m' t' h p Nm hp=>?_,fun p Nm hp q hq=>?_,fun kk ln hl m' t' h=>?_,G.CG,G.room,G.FL,G.lst⟩
 ·rw[← G.g0 m' t' h];rfl
 ·exact G.DJ m' t' h j hj
 ·show N m' 0 + c5 m t.way.length m' 0=0
  rw[eN m' 0 (fun _=>by omega)];exact G.top m' t' h HA
 ·show N m' (j + 1) + c5 m t.way.length m' (j + 1) + 0 <= N m' j + c5 m t.way.length m' j/\0 < N m' j + c5 m t.way.length m' j/\((N m' j + c5 m t.way.length m' j:Nat):Int) <= t'.len
  rw[eN m' j (fun e=>by subst e;rw[ht]at h;cases h;omega)]
  exact G.dn m' t' h j hj
 ·show cnt m' ln.qs=iO (N m' (j + 1) + c5 m t.way.length m' (j + 1) + 0) (N m' j + c5 m t.way.length m' j)
  have Ep:=(gQ0 hj)
  rw[eN m' j (fun e=>by subst e;rw[ht]at h;cases h;omega)]
  exact G.q m' t' h j kk ln hj hl
 ·show cnt m' Nm = if (p:Int)=t'.goal then iO 0 (N m' t'.way.length + c5 m t.way.length m' t'.way.length) else []
  have h:s.U[m']? = some t':=h
  rcases bz hp with ⟨rfl,rfl⟩ | ⟨Ay,GC⟩
  ·rw[eE,fN]
   have e1:=G.By m' t' h p qs BW
   by_cases em:m' = m
   ·subst em
    rw[ht]at h;cases h
    rw[if_pos hg.symm]at e1
    rw[if_pos rfl,if_pos hg.symm,e1,fj,hc]
    exact(jp (zero_le _)).symm
   ·rw[if_neg (Ne.symm em),append_nil,eN m' _ (fun z=>absurd z em)];exact e1
  ·by_cases em:m' = m
   ·subst em
    rw[ht]at h;cases h
    have e1:=G.By m' t ht p Nm GC
    rw[if_neg (by rw[hg];omega)]at e1 ⊢
    exact e1
   ·rw[eN m' _ (fun z=>absurd z em)];exact G.By m' t' h p Nm GC
 ·rcases bz hp with ⟨rfl,rfl⟩ | ⟨Ay,hp⟩
  ·rcases mem_append.mp hq with hq | hq
   ·exact G.CF p qs BW q hq
   ·rw[mem_singleton.mp hq];exact⟨m,t,rfl,ht⟩
  ·exact G.CF p Nm hp q hq
 ·show ln.h=some (m':Int)↔∃ j,t'.way[j]? = some kk/\((N m' j + c5 m t.way.length m' j:Nat):Int) < t'.len
  have h:s.U[m']? = some t':=h
  rw[G.hold kk ln hl m' t' h]
  constructor
  ·rintro⟨j,hj,Ep⟩
   have hjw:=(gQ0 hj)
   exact⟨j,hj,by rw[eN m' j (fun e=>by subst e;rw[ht]at h;cases h;omega)];exact Ep⟩
  ·rintro⟨j,hj,Ep⟩
   have hjw:=(gQ0 hj)
   rw[eN m' j (fun e=>by subst e;rw[ht]at h;cases h;omega)]at Ep
   exact⟨j,hj,Ep⟩
theorem BO.back {a:YA}{s:YS}{N D:Nat->Nat->Nat}(G:BO a s N D){k:Nat}{lk:bS}(hk:s.lanes[k]? = some lk)(hb:0 < lk.b):BO a { s with lanes:=s.lanes.set k (mQ lk) } N D:=by
 have kl:∀ {kk:Nat}{ln:bS},(s.lanes.set k (mQ lk))[kk]? = some ln->∃ l0,s.lanes[kk]? = some l0/\ln.qs=l0.qs/\ln.h=l0.h/\ln.r + ln.b=l0.r + l0.b/\l0.r <= ln.r/\(0 <= l0.b->0 <= ln.b):=fun h=>by
  rcases bz h with ⟨rfl,rfl⟩ | ⟨_,h⟩
  ·exact⟨lk,hk,rfl,rfl,by show lk.r + 1 + (lk.b - 1)=_;omega,by show lk.r <= lk.r + 1;omega,fun _=>by show 0 <= lk.b - 1;omega⟩
  ·exact⟨_,h,rfl,rfl,rfl,Int.le_refl _,id⟩
 refine⟨G.g0,G.gl,G.DJ,G.top,G.dn,fun m' t' h j kk ln hj hl=>?_,fun kk ln hl p hp=>?_,G.nd,G.By,G.CF,fun kk ln hl m' t' h=>?_,fun kk ln hl z hz=>?_,fun kk ln hl=>?_,fun kk ln hl j p q hp hq=>?_,fun kk ln hl q hq=>?_⟩
 ·obtain⟨l0,h0,e1,e2,e3,e4,e5⟩:=kl hl
  rw[e1];exact G.q m' t' h j kk l0 hj h0
 ·obtain⟨l0,h0,e1,e2,e3,e4,e5⟩:=kl hl
  rw[e1]at hp;exact G.own kk l0 h0 p hp
 ·obtain⟨l0,h0,e1,e2,e3,e4,e5⟩:=kl hl
  rw[e2];exact G.hold kk l0 h0 m' t' h
 ·obtain⟨l0,h0,e1,e2,e3,e4,e5⟩:=kl hl
  rw[e2]at hz;exact G.CG kk l0 h0 z hz
 ·obtain⟨l0,h0,e1,e2,e3,e4,e5⟩:=kl hl
  obtain⟨r1,r2,r3⟩:=G.room kk l0 h0
  exact⟨by rw[e1,e3];exact r1,by omega,e5 r3⟩
 ·obtain⟨l0,h0,e1,e2,e3,e4,e5⟩:=kl hl
  rw[e1]at hp hq;exact G.FL kk l0 h0 j p q hp hq
 ·obtain⟨l0,h0,e1,e2,e3,e4,e5⟩:=kl hl
  rw[e1]at hq;rw[e2];exact G.lst kk l0 h0 q hq
theorem vo {a:YA}{s:YS}{k m:Nat}{c:Int}{lk:bS}{t:aY}{l:Nat}(hk:s.lanes[k]? = some lk)(hq:lk.qs.head? = some ((m:Int),c))(ht:s.U[m]? = some t)(hl:l ∈ cy a s k):if c=0 then l ∉ t.way else l ∈ (t.way.drop (t.way.idxOf k + 1)).take 1:=by
 have ef:bL s k=some ((m:Int),c):=by unfold bL;rw[hk];exact hq
 unfold cy at hl
 rw[ef]at hl
 have hl:l ∈ (match s.U[(m:Int).toNat]? with | none=>[] | some t=>if c=0 then (pP a k t.goal.toNat).filter fun l=>!decide (l ∈ t.way) else (t.way.drop (t.way.idxOf k + 1)).take 1):=hl
 rw[toNat_natCast,ht]at hl
 have hl:l ∈ (if c=0 then (pP a k t.goal.toNat).filter fun l=>!decide (l ∈ t.way) else (t.way.drop (t.way.idxOf k + 1)).take 1):=hl
 by_cases h:c=0
 ·rw[if_pos h]at hl ⊢
  have:=(mem_filter.mp hl).2
  simpa using this
 ·rw[if_neg h]at hl ⊢;exact hl
theorem ku {l:List Nat}{j x:Nat}(h:x ∈ (l.drop j).take 1):l[j]? = some x:=by
 cases hd:l.drop j with
 | nil=>rw[hd]at h;cases h
 | cons y ys =>
  rw[hd]at h
  have h:x ∈ [y]:=h
  rw[mem_singleton]at h
  subst h
  have:=List.getElem?_drop (xs:=l) (i:=j) (j:=0)
  rw[hd]at this
  exact this.symm
theorem zl {l:List Nat}(h:l.Nodup){i x:Nat}(hi:l[i]? = some x):l.idxOf x=i:=by
 obtain⟨h1,e1⟩:=List.getElem?_eq_some_iff.mp hi
 have hx:x ∈ l:=mem_of_getElem? hi
 have h2:l.idxOf x < l.length:=List.idxOf_lt_length_of_mem hx
 have h3:l[l.idxOf x]? = some x:=by rw[getElem?_eq_getElem h2,List.getElem_idxOf h2]
 exact cC h h3 hi
theorem BO.dn' {a:YA}{s:YS}{N D:Nat->Nat->Nat}(G:BO a s N D)(d:List (List V)):BO a { s with done:=d } N D:=⟨G.g0,G.gl,G.DJ,G.top,G.dn,G.q,G.own,G.nd,G.By,G.CF,G.hold,G.CG,G.room,G.FL,G.lst⟩
theorem BO.Nn {a:YA}{s:YS}{N:Nat->Nat->Nat}(G:BO a s N zr){x y l u:Int}(hl:0 <= l):∃ N':Nat->Nat->Nat,(∀ m i,m ≠ s.U.length->N' m i=N m i)/\BO a (dN s x y l u) N' zr:=by
 have el:∀ (m:Nat)(t:aY),(dN s x y l u).U[m]? = some t->(m ≠ s.U.length/\s.U[m]? = some t)∨(m=s.U.length/\t = ⟨x,y,l,u,0,[]⟩):=fun m t ht=>by
  have ht:(s.U ++ [(⟨x,y,l,u,0,[]⟩:aY)])[m]? = some t:=ht
  by_cases hm:m < s.U.length
  ·rw[getElem?_append_left hm]at ht;exact .inl ⟨by omega,ht⟩
  ·have h3:=(gQ0 ht)
   rw[length_append,length_singleton]at h3
   have em:m=s.U.length:=by omega
   subst em
   rw[getElem?_concat_length]at ht
   cases ht
   exact .inr ⟨rfl,rfl⟩
 have eo:∀ {m:Nat}{t:aY},s.U[m]? = some t->(dN s x y l u).U[m]? = some t:=fun ht=>by
  show(s.U ++ [(⟨x,y,l,u,0,[]⟩:aY)])[_]? = some _
  rw[getElem?_append_left (gQ0 ht)];exact ht
 have nw:∀ {m:Nat}{t:aY},s.U[m]? = some t->m ≠ s.U.length:=fun ht z=>by
  rw[z,List.getElem?_eq_none (Nat.le_refl _)]at ht;cases ht
 refine⟨fun m i=>if m=s.U.length then 0 else N m i,(fun m i h=>if_neg h),fun m t h=>?_,fun m t h=>?_,fun m t h j hj=>?_,fun m t h hw=>?_,fun m t h j hj=>?_,fun m t h j kk ln hj hl=>?_,fun kk ln hl p hp=>?_,fun m t h=>?_,fun m t h p qs hp=>?_,fun p qs hp q hq=>?_,fun kk ln hl m t h=>?_,fun kk ln hl z hz=>?_,G.room,fun kk ln hl j p q hp hq=>?_,fun kk ln hl q hq=>?_⟩
 ·rcases el m t h with ⟨Ay,h⟩ | ⟨e,rfl⟩
  ·simp only[if_neg Ay];exact G.g0 m t h
  ·simp only[if_pos e];rfl
 ·rcases el m t h with ⟨Ay,h⟩ | ⟨e,rfl⟩
  ·exact G.gl m t h
  ·exact hl
 ·rcases el m t h with ⟨Ay,h⟩ | ⟨e,rfl⟩
  ·simp only[if_neg Ay];exact G.DJ m t h j hj
  ·simp only[if_pos e];rfl
 ·rcases el m t h with ⟨Ay,h⟩ | ⟨e,rfl⟩
  ·simp only[if_neg Ay];exact G.top m t h hw
  ·simp only[if_pos e]
 ·rcases el m t h with ⟨Ay,h⟩ | ⟨e,rfl⟩
  ·simp only[if_neg Ay];exact G.dn m t h j hj
  ·cases hj
 ·rcases el m t h with ⟨Ay,h⟩ | ⟨e,rfl⟩
  ·simp only[if_neg Ay];exact G.q m t h j kk ln hj hl
  ·cases hj
 ·obtain⟨m,t,e,h,hw⟩:=G.own kk ln hl p hp
  exact⟨m,t,e,eo h,hw⟩
 ·rcases el m t h with ⟨Ay,h⟩ | ⟨e,rfl⟩
  ·exact G.nd m t h
  ·exact nodup_nil
 ·rcases el m t h with ⟨Ay,h⟩ | ⟨e,rfl⟩
  ·simp only[if_neg Ay];exact G.By m t h p qs hp
  ·simp only[if_pos e]
   rw[gJ (Nat.le_refl _),ite_self]
   refine qq fun q hq e2=>?_
   obtain⟨m',t',e3,h'⟩:=G.CF p qs hp q hq
   have:=nw h'
   rw[e2]at e3
   omega
 ·obtain⟨m,t,e,h⟩:=G.CF p qs hp q hq
  exact⟨m,t,e,eo h⟩
 ·rcases el m t h with ⟨Ay,h⟩ | ⟨e,rfl⟩
  ·simp only[if_neg Ay];exact G.hold kk ln hl m t h
  ·refine⟨fun z=>?_,fun zS=>by obtain⟨j,hj,_⟩:=zS;cases hj⟩
   obtain⟨m',t',e3,h'⟩:=G.CG kk ln hl _ z
   have:=nw h'
   omega
 ·obtain⟨m,t,e,h⟩:=G.CG kk ln hl z hz
  exact⟨m,t,e,eo h⟩
 ·rcases G.FL kk ln hl j p q hp hq with z | ⟨z,m',t2,e,h2,e2⟩
  ·exact .inl z
  ·exact .inr ⟨z,m',t2,e,eo h2,e2⟩
 ·rcases G.lst kk ln hl q hq with z | ⟨z,m',t2,e,h2,e2⟩
  ·exact .inl z
  ·exact .inr ⟨z,m',t2,e,eo h2,e2⟩
theorem SQ {a:YA}{rs:List Int}{n:Nat}(h:∀ r ∈ rs,1 <= r/\r <= 60):BO a (Y0 (rs.map V.int) n) zr zr:=by
 have Ar:∀ {k:Nat}{ln:bS},(Y0 (rs.map V.int) n).lanes[k]? = some ln->∃ r,rs[k]? = some r/\ln = ⟨r,0,none,[]⟩:=fun {k ln} hl=>by
  have hl:(((rs.map V.int).map nL))[k]? = some ln:=hl
  rw[getElem?_map,getElem?_map]at hl
  cases hr:rs[k]? with
  | none=>rw[hr]at hl;cases hl
  | some r=>rw[hr]at hl;cases hl;exact⟨r,rfl,rfl⟩
 have nl:∀ {m:Nat}{t:aY},(Y0 (rs.map V.int) n).U[m]? = some t->False:=fun h=>by cases h
 have EN:∀ {p:Nat}{qs:List (Int × Int)},(Y0 (rs.map V.int) n).lies[p]? = some qs->qs=[]:=fun {p qs} hp=>by
  have hp:(List.replicate n ([]:List (Int × Int)))[p]? = some qs:=hp
  rw[List.getElem?_replicate]at hp
  split at hp
  ·cases hp;rfl
  ·cases hp
 refine⟨fun m t h=>(nl h).elim,fun m t h=>(nl h).elim,fun m t h=>(nl h).elim,fun m t h=>(nl h).elim,fun m t h=>(nl h).elim,fun m t h=>(nl h).elim,fun kk ln hl p hp=>?_,fun m t h=>(nl h).elim,fun m t h=>(nl h).elim,fun p qs hp q hq=>?_,fun kk ln hl m t h=>(nl h).elim,fun kk ln hl z hz=>?_,fun kk ln hl=>?_,fun kk ln hl j p q hp hq=>?_,fun kk ln hl q hq=>?_⟩
 ·obtain⟨r,hr,rfl⟩:=Ar hl
  cases hp
 ·rw[EN hp]at hq;cases hq
 ·obtain⟨r,hr,rfl⟩:=Ar hl
  cases hz
 ·obtain⟨r,hr,rfl⟩:=Ar hl
  have EM:=h r (mem_of_getElem? hr)
  refine⟨?_,by show 0 <= r;omega,Int.le_refl _⟩
  show(rs.map V.int)[kk]? = some (.int (r + 0 + ((0:Nat):Int)))
  rw[getElem?_map,hr]
  show some (V.int r)=_
  congr 2;omega
 ·obtain⟨r,hr,rfl⟩:=Ar hl
  cases hp
 ·obtain⟨r,hr,rfl⟩:=Ar hl
  cases hq
abbrev vh (s s1:YS)(m:Mv):YS:={ s1 with done:=s.done ++ [fP m] }
inductive JU (a:YA)(s0:YS):Nat->YS->Prop
 | nil:JU a s0 0 s0
 | snoc {n:Nat} {s s1:YS} {m:Mv} (h:JU a s0 n s) (st:Cv a s m s1):JU a s0 (n + 1) (vh s s1 m)
theorem eC {l:List aY}{k:Nat}{x y:aY}(h:l[k]? = some x)(e:y.len=x.len):(l.set k y).map (·.len)=l.map (·.len):=by
 refine List.ext_getElem? fun i=>?_
 rw[getElem?_map,getElem?_map,List.getElem?_set]
 by_cases hi:k=i
 ·subst hi
  rw[if_pos rfl,if_pos (gQ0 h),h]
  show some y.len=some x.len
  rw[e]
 ·rw[if_neg hi]
theorem Cv.SR {a:YA}{s s':YS}{m:Mv}(h:Cv a s m s'):s'.U.map (·.len)=s.U.map (·.len):=by
 cases h with
 | @B3 k l t ln ht hg hl Ar ho =>
  have e1:(cz s k t).U.map (·.len)=s.U.map (·.len):=eC ht rfl
  have FN:(cz s k t).U[k]? = some { t with gone:=t.gone + 1 }:=cX ht
  show(if t.gone=0 then (cz s k t).U.set k _ else (cz s k t).U).map (·.len)=_
  split
  ·exact(eC (y:={ ({ t with gone:=t.gone + 1 }:aY) with way:=t.way ++ [l] }) FN rfl).trans e1
  ·exact e1
 | @on k l m c lk ln t hk hq ht hl Ar ho =>
  show(if c=0 then s.U.set m _ else s.U).map (·.len)=_
  split
  ·exact eC (y:={ t with way:=t.way ++ [l] }) ht rfl
  ·rfl
 | By=>rfl
 | back=>rfl
inductive Fl (a:YA)(s0:YS):YS->Prop
 | nil:Fl a s0 s0
 | snoc {s:YS} {x y l u:Int} (h:Fl a s0 s) (hl:1 <= l/\l <= 4):Fl a s0 (dN s x y l u)
noncomputable def og (s:YS):Int:=(s.lanes.map (·.b)).sum
noncomputable def wt (i:Nat):Nat:=if i=0 then 1 else 2
noncomputable def ik (L:Nat)(f:Nat->Nat):Nat:=((List.range (L + 1)).map fun i=>wt i * f i).sum
noncomputable def ig (k L:Nat)(N:Nat->Nat->Nat):Nat:=((List.range k).map fun m=>ik L (N m)).sum
noncomputable def iH (s:YS):Int:=(s.U.map (·.len)).sum
theorem kP {f g:Nat->Nat}:∀ l:List Nat,(l.map fun i=>f i + g i).sum=(l.map f).sum + (l.map g).sum
 | []=>rfl
 | x :: l=>by rw[map_cons,map_cons,map_cons,sum_cons,sum_cons,sum_cons,kP l];omega
theorem iJ {c:Nat}{i0:Nat}:∀ n:Nat,((List.range n).map fun i=>if i=i0 then c else 0).sum=if i0 < n then c else 0
 | 0=>rfl
 | n + 1=>by
  rw[range_succ,map_append,sum_append,iJ n]
  show _ + (if n=i0 then c else 0) + 0=_
  by_cases h1:n=i0
  ·rw[if_pos h1,if_neg (by omega),if_pos (by omega)];omega
  ·rw[if_neg h1]
   by_cases h2:i0 < n
   ·rw[if_pos h2,if_pos (by omega)];omega
   ·rw[if_neg h2,if_neg (by omega)]
theorem tF {L m i:Nat}{N:Nat->Nat->Nat}(hi:i <= L):ik L (fun j=>N m j + c5 m i m j)=ik L (N m) + wt i:=by
 unfold ik
 rw[show(fun j=>wt j * (N m j + c5 m i m j))=fun j=>wt j * N m j + (if j=i then wt i else 0) from funext fun j=>by
  unfold c5
  by_cases h:j=i
  ·subst h;rw[if_pos ⟨rfl,rfl⟩,if_pos rfl,Nat.mul_add];omega
  ·rw[if_neg (fun z=>h z.2),if_neg h,add_zero,add_zero]]
 rw[kP,iJ,if_pos (by omega)]
theorem je {k L m i:Nat}{N:Nat->Nat->Nat}(hm:m < k)(hi:i <= L):ig k L (fun m' i'=>N m' i' + c5 m i m' i')=ig k L N + wt i:=by
 unfold ig
 rw[show(fun m'=>ik L fun i'=>N m' i' + c5 m i m' i')=fun m'=>ik L (N m') + (if m' = m then wt i else 0) from funext fun m'=>by
  by_cases h:m' = m
  ·subst h;rw[if_pos rfl];exact tF hi
  ·rw[if_neg h,show(fun i'=>N m' i' + c5 m i m' i')=N m' from funext fun i'=>by rw[eI h];omega];omega]
 rw[kP,iJ,if_pos hm]
theorem dJ:∀ {l:List bS}{k:Nat}{x:bS}(y:bS),l[k]? = some x->((l.set k y).map (·.b)).sum=(l.map (·.b)).sum + (y.b - x.b)
 | [],_,_,_,h=>by cases h
 | z :: l,0,x,y,h=>by
  cases h
  rw[set_cons_zero,map_cons,map_cons,sum_cons,sum_cons];omega
 | z :: l,k + 1,x,y,h=>by
  rw[set_cons_succ,map_cons,map_cons,sum_cons,sum_cons,dJ y (show l[k]? = some x from h)];omega
theorem p5:∀ {l:List bS},(∀ x ∈ l,0 <= x.b)->0 <= (l.map (·.b)).sum
 | [],_=>Int.le_refl _
 | x :: l,h=>by
  rw[map_cons,sum_cons]
  have:=h x mem_cons_self
  have:=p5 fun y hy=>h y (mem_cons_of_mem _ hy)
  omega
theorem rM {a:YA}{s:YS}(J:AV a s){m:Nat}{t:aY}(ht:s.U[m]? = some t):t.way.length <= a.ps.length:=c6 _ _ (J.AU m t ht).2 (J.AU m t ht).1
structure Dh (a:YA)(s:YS)(N:Nat->Nat->Nat):Prop where
 G:BO a s N zr
 c:(s.done.length:Int) + og s=s.U.length + ig s.U.length a.ps.length N
theorem Dh.step {a:YA}{s s':YS}{N:Nat->Nat->Nat}{mv:Mv}(C:Dh a s N)(J:AV a s)(h:Cv a s mv s'):∃ N',Dh a (vh s s' mv) N':=by
 have G:=C.G
 have hc:=C.c
 have hd:((s.done ++ [fP mv]).length:Int)=s.done.length + 1:=by rw[length_append,length_singleton];omega
 have hlen:=h.len
 have fin:∀ {N':Nat->Nat->Nat}{x:Nat}{b:Int},BO a s' N' zr->ig s.U.length a.ps.length N' = ig s.U.length a.ps.length N + x->og s' = og s + b->1 + b=x->∃ N',Dh a (vh s s' mv) N':=fun {N' x b} G' h1 h2 h3 =>
  ⟨N',G'.dn' _,by
   show((s.done ++ [fP mv]).length:Int) + og s' = (s'.U.length:Int) + ig s'.U.length a.ps.length N'
   rw[hd,h2,hlen,h1];omega⟩
 have lt:∀ {m:Nat}{t:aY},s.U[m]? = some t->m < s.U.length:=fun ht=>(gQ0 ht)
 cases h with
 | @B3 m l t ln ht hg hl Ar ho =>
  have G1:=G.leave ht hg
  have g0:(N m 0:Int)=t.gone:=G.g0 m t ht
  have gl:=G.gl m t ht
  have FN:(cz s m t).U[m]? = some { t with gone:=t.gone + 1 }:=cX ht
  refine fin (b:=0) (G1.enter FN g0.symm (fun h0=>?_) (fun h0=>?_) (by show t.gone + 1 <= t.len;omega) Ar ho) (je (lt ht) (zero_le _)) ?_ rfl
  ·have:=J.AX m t ht h0
   show 0=t.way.length/\l ∉ t.way
   rw[this];exact⟨rfl,not_mem_nil⟩
  ·unfold cv at hl
   rw[if_neg h0]at hl
   exact ku (j:=0) hl
  ·exact(dJ _ Ar).trans (by show(s.lanes.map (·.b)).sum + (ln.b - ln.b)=(s.lanes.map (·.b)).sum + 0;omega)
 | @on k l m c lk ln t hk hq ht hl Ar ho =>
  obtain⟨i,hi,Er,AG,G1⟩:=G.pull hk hq ht
  have hw:=vo hk hq ht hl
  have HF:=(gQ0 hi)
  obtain⟨d1,d2,d3⟩:=G.dn m t ht i HF
  have wl:=rM J ht
  refine fin (b:=1) (G1.enter (t:=t) ht Er (fun h0=>?_) (fun h0=>?_) (by omega) Ar ho) (je (lt ht) (by omega)) ?_ rfl
  ·rw[if_pos h0]at hw
   refine⟨?_,hw⟩
   rcases lt_or_ge (i + 1) t.way.length with h | h
   ·have:=(G.dn m t ht (i + 1) h).2.1
    omega
   ·omega
  ·rw[if_neg h0]at hw
   rw[zl (G.nd m t ht) hi]at hw
   exact ku hw
  ·have e1:=dJ (bM lk) hk
   have e2:=dJ (eD ln (m:Int) c t.len) Ar
   have e3:(bM lk).b=lk.b + 1:=rfl
   have e4:(eD ln (m:Int) c t.len).b=ln.b:=rfl
   show(((s.lanes.set k (bM lk)).set l (eD ln (m:Int) c t.len)).map (·.b)).sum=(s.lanes.map (·.b)).sum + 1
   rw[e2,e1,e3,e4];omega
 | @By k m e c lk t qs hk hq ht hg he BW =>
  obtain⟨i,hi,Er,AG,G1⟩:=G.pull hk hq ht
  have ew:i + 1=t.way.length:=J.last m t ht i k hi (by show(a.ps.getD k (0,0)).2=_;rw[he,hg])
  rw[ew]at Er G1
  have wl:=rM J ht
  refine fin (b:=1) (G1.lay (t:=t) ht Er hg BW (fun z=>by rw[z]at hi;cases hi)) (je (lt ht) wl) ?_ (by unfold wt;rw[if_neg (by omega)];rfl)
  exact(dJ (bM lk) hk).trans (by show(s.lanes.map (·.b)).sum + (lk.b + 1 - lk.b)=(s.lanes.map (·.b)).sum + 1;omega)
 | @back k lk hk hb =>
  refine fin (x:=0) (b:=-1) (G.back hk hb) rfl ?_ rfl
  exact(dJ (mQ lk) hk).trans (by show(s.lanes.map (·.b)).sum + (lk.b - 1 - lk.b)=(s.lanes.map (·.b)).sum + -1;omega)
theorem Dh.Xu {a:YA}{s s':YS}{N:Nat->Nat->Nat}{n:Nat}(h:JU a s n s')(C:Dh a s N)(J:AV a s):(∃ N',Dh a s' N')/\AV a s'/\s'.done.length=s.done.length + n/\s'.U.length=s.U.length/\s'.U.map (·.len)=s.U.map (·.len):=by
 induction h with
 | nil=>exact⟨⟨N,C⟩,J,rfl,rfl,rfl⟩
 | @snoc n s1 s2 m h st ih =>
  obtain⟨⟨N1,C1⟩,J1,e1,e2,e3⟩:=ih
  refine⟨C1.step J1 st,(J1.step st).done _,?_,st.len.trans e2,?_⟩
  ·show(s1.done ++ [_]).length=_
   rw[length_append,length_singleton];omega
  ·rw[← e3]
   exact st.SR
theorem Dh.post {a:YA}{s:YS}{N:Nat->Nat->Nat}(C:Dh a s N){x y l u:Int}(hl:1 <= l):∃ N',Dh a (dN s x y l u) N':=by
 obtain⟨N',he,G'⟩:=C.G.Nn (x:=x) (y:=y) (l:=l) (u:=u) (by omega)
 refine⟨N',G',?_⟩
 have ht:(dN s x y l u).U[s.U.length]? = some ⟨x,y,l,u,0,[]⟩:=getElem?_concat_length
 have h0:∀ i,N' s.U.length i=0:=fun i=>by
  cases i with
  | zero=>have:=G'.g0 _ _ ht;have:((N' s.U.length 0 + 0:Nat):Int)=0:=this;omega
  | succ i=>have:N' s.U.length (i + 1) + 0=0:=G'.DJ _ _ ht (i + 1) (succ_pos _);omega
 have e1:ik a.ps.length (N' s.U.length)=0:=by
  unfold ik
  rw[show(fun i=>wt i * N' s.U.length i)=fun i=>if i=a.ps.length + 1 then 0 else 0 from funext fun i=>by rw[h0,Nat.mul_zero,ite_self]]
  rw[iJ,ite_self]
 have e2:ig (s.U.length + 1) a.ps.length N' = ig s.U.length a.ps.length N:=by
  unfold ig
  rw[range_succ,map_append,sum_append]
  show _ + (ik a.ps.length (N' s.U.length) + 0)=_
  rw[e1,add_zero]
  congr 1
  refine List.map_congr_left fun m hm=>?_
  have:=mem_range.mp hm
  rw[show N' m=N m from funext fun i=>he m i (by omega)]
 show((s.done ++ [_]).length:Int) + og s=((s.U ++ [(⟨x,y,l,u,0,[]⟩:aY)]).length:Int) + ig (s.U ++ [(⟨x,y,l,u,0,[]⟩:aY)]).length a.ps.length N'
 rw[length_append,length_singleton,length_append,length_singleton,e2]
 have:=C.c
 omega
theorem Dh.Xv {a:YA}{s s':YS}{N:Nat->Nat->Nat}(h:Fl a s s')(C:Dh a s N):∃ N',Dh a s' N':=by
 induction h with
 | nil=>exact⟨N,C⟩
 | snoc h hl ih=>obtain⟨N1,C1⟩:=ih;exact C1.post hl.1
theorem Fl.AN {a:YA}{s s':YS}(h:Fl a s s')(hs:∀ t ∈ s.U,0 <= t.len/\t.len <= 4):∀ t ∈ s'.U,0 <= t.len/\t.len <= 4:=by
 induction h with
 | nil=>exact hs
 | @snoc s x y l u h hl ih =>
  intro t ht
  have ht:t ∈ s.U ++ [(⟨x,y,l,u,0,[]⟩:aY)]:=ht
  rcases mem_append.mp ht with ht | ht
  ·exact ih t ht
  ·rw[mem_singleton.mp ht];exact⟨by show 0 <= l;omega,hl.2⟩
theorem yz {L n W:Nat}{f:Nat->Nat}(h:∀ i,i <= L->f i <= n):ik L f <= n * (2 * L + 1):=by
 unfold ik
 have key:∀ L,(∀ i,i <= L->f i <= n)->((List.range (L + 1)).map fun i=>wt i * f i).sum <= n * (2 * L + 1):=by
  intro L
  induction L with
  | zero =>
   intro h
   show wt 0 * f 0 + 0 <= n * (2 * 0 + 1)
   have:=h 0 (Nat.le_refl _)
   show 1 * f 0 + 0 <= _
   omega
  | succ L ih =>
   intro h
   rw[range_succ,map_append,sum_append]
   have h1:=ih fun i hi=>h i (by omega)
   have h2:=h (L + 1) (Nat.le_refl _)
   show _ + (wt (L + 1) * f (L + 1) + 0) <= _
   have e:wt (L + 1)=2:=if_neg (by omega)
   rw[e,show n * (2 * (L + 1) + 1)=n * (2 * L + 1) + 2 * n by rw[show 2 * (L + 1) + 1=(2 * L + 1) + 2 by omega,Nat.mul_add];omega]
   omega
 exact key L h
theorem rT:∀ (l:List aY)(f:Nat->Nat)(c k0:Nat),(∀ (m:Nat)(t:aY),l[m]? = some t->(f (k0 + m):Int) <= t.len * c)->((((List.range' k0 l.length).map f).sum:Nat):Int) <= (l.map (·.len)).sum * c
 | [],f,c,k0,_=>by simp
 | t :: l,f,c,k0,h=>by
  have h1:=h 0 t rfl
  have h2:=rT l f c (k0 + 1) fun m t' hm=>by
   have:=h (m + 1) t' hm
   rw[show k0 + 1 + m=k0 + (m + 1) by omega];exact this
  rw[length_cons,List.range'_succ,map_cons,sum_cons,map_cons,sum_cons,Int.add_mul,Int.natCast_add]
  have h1:(f k0:Int) <= t.len * c:=h1
  omega
theorem Dh.most {a:YA}{s:YS}{N:Nat->Nat->Nat}(C:Dh a s N)(J:AV a s):(s.done.length:Int) <= s.U.length + iH s * (2 * a.ps.length + 1:Nat):=by
 have hb:0 <= og s:=p5 fun ln hl=>by
  obtain⟨k,hk⟩:=List.getElem?_of_mem hl
  exact(C.G.room k ln hk).2.2
 have hc:=C.c
 have hs:=rT s.U (fun m=>ik a.ps.length (N m)) (2 * a.ps.length + 1) 0 (fun m t ht=>?_)
 ·unfold iH
  have e:ig s.U.length a.ps.length N=((List.range' 0 s.U.length).map fun m=>ik a.ps.length (N m)).sum:=by unfold ig;rw[List.range_eq_range']
  rw[e]at hc
  omega
 ·rw[Nat.zero_add]
  have G:=C.G
  have g0:((N m 0 + 0:Nat):Int)=t.gone:=G.g0 m t ht
  have gl:=G.gl m t ht
  have hle:∀ i,i <= a.ps.length->N m i <= t.len.toNat:=fun i _=>by
   rcases lt_or_ge i t.way.length with h | h
   ·have:=(G.dn m t ht i h).2.2;omega
   ·rcases lt_or_ge t.way.length i with h2 | h2
    ·have:N m i + 0=0:=G.DJ m t ht i h2;omega
    ·have ei:i=t.way.length:=by omega
     cases hw:t.way.length with
     | zero=>rw[ei,hw];omega
     | succ j =>
      obtain⟨d1,d2,d3⟩:=G.dn m t ht j (by omega)
      have d1:N m (j + 1) + 0 <= N m j:=d1
      rw[ei,hw];omega
  have:=yz (W:=0) hle
  have h0:0 <= t.len:=by omega
  have e:((t.len.toNat * (2 * a.ps.length + 1):Nat):Int)=t.len * ((2 * a.ps.length + 1:Nat):Int):=by rw[Int.natCast_mul,Int.toNat_of_nonneg h0]
  rw[← e]
  exact Int.ofNat_le.mpr this
theorem SS {a:YA}{rs:List Int}{n:Nat}(h:∀ r ∈ rs,1 <= r/\r <= 60):Dh a (Y0 (rs.map V.int) n) zr:=by
 refine⟨SQ h,?_⟩
 have e:og (Y0 (rs.map V.int) n)=0:=by
  show((((rs.map V.int).map nL).map (·.b))).sum=0
  have:∀ l:List Int,((((l.map V.int).map nL).map (·.b))).sum=0:=by
   intro l
   induction l with
   | nil=>rfl
   | cons x l ih=>show (0:Int) + _=0;rw[zero_add];exact ih
  exact this rs
 rw[e]
 rfl
noncomputable def se (K:Frag)(c:Cs)(TC:Addr)(J:TJ)(ys:Ys):Sp:=fun vs H Q _=>∃ (a:YA)(s:YS)(bg cs:Addr)(AZ:List V)(bs:List (Int × Int))(ns:List Int),vs=[.ref a.y, .ref bg, .ref cs]/\AE K ys H a s/\xc c TC J H a/\AV a s/\H bg=some (.lst AZ)/\Ak H AZ bs/\iS a bs/\bs.length <= 1000/\bg ∉ a.four/\H cs=some (.lst (ns.map V.int))/\cs ∉ a.four/\ns.length <= 10/\s.U.length + ns.length <= 59/\s.done.length <= 9000 /\
 ∀ (H':Hp)(s':YS),zW [a.le,a.dn] H H'->AE K ys H' a s'->AV a s'->Fl a s s'->s'.U.length <= s.U.length + ns.length->s'.done.length <= s.done.length + ns.length->Q .Af H'
noncomputable abbrev NLp:List Str:=["_law_yard", "_law_begins_here", "_law_cells", "_law_cell", "_law_start", "_law_goal"]
theorem FO:ao NLp ["_law_yard", "_law_begins_here", "_law_cells"] (ah lg):=L2.Au
theorem wb {c:Cs}{ys:Ys}{x:Xs}{J:TJ}{TC f fw fp:Addr}{fd dw dp:FuncData}(F:Al K "_law_posts" "_law_posts" lg f fd)(T:eO mg)(Y:iD K ys)(W:Wy K TC fw dw J)
  (mp:bu K ys.zR "post" fp) (bp:Binds K dp Ms []) (Gp:zP P w K mg base (dS P w) 4 fp dp Ms (oj K c TC J ys x)) :
  zP P w K mg base aB 5 f fd ["_law_yard", "_law_begins_here", "_law_cells"] (se K c TC J ys):=by
 refine F.ok FO (fun _ _ _ _ h=>?_) (fun _ _ _ s H _ Q E hr h=>?_)
 ·obtain⟨a,s,bg,cs,AZ,bs,ns,rfl,_⟩:=h
  rfl
 ·obtain⟨a,st,bg,cs,AZ,bs,ns,rfl,hY,hT,hJ,gbg,Pz,SU,Pu,nbg,Xw,ncs,hnl,OH,hdl0,q⟩:=h
  have hu:=hr.units
  refine⟨_,ai (bF PassesOwn.never rfl (bT (pv 2)) (ax (i:=3) FO.nd rfl (Or.inl rfl))
   (ai (aQ (aw (jv hu) (pv 1) (aV ad) (aA _))
    (af (lp (ay aT (pv 1) (az bC (az dq (pv 3) aj) (av aq rfl T.len PySem.boot_len (aa (pv 1) ad))) (fun _ _=>rfl)) (il rfl (bG (ax (i:=4) FO.nd rfl (Or.inl rfl)) (bG (ax (i:=5) FO.nd rfl (Or.inl rfl)) fH))))
    (ai (aM (aD (pv 0) Y.cl mp Gp hr bp .nil im (aa (pv 4) (aa (pv 5) (aa (az bP aj (az bC (pv 3) aj)) (aa (az bC (az dq (pv 3) aj) (az oK aj aj)) ad)))))))) aH))),?_⟩
  refine⟨_,rfl,cs,rfl,⟨_,zU.of Xw⟩,?_⟩
  refine gZ (K:=K) (a:=cs) (xs:=ns.map V.int) (fun i σ H2=>∃ (a4 a5 a6:Option V)(s2:YS),zW [a.le,a.dn] H H2/\H2 cs=some (.lst (ns.map V.int))/\H2 bg=some (.lst AZ)/\AE K ys H2 a s2/\AV a s2/\Fl a st s2/\s2.U.length <= st.U.length + i/\s2.done.length <= st.done.length + i/\σ=[some (.ref a.y),some (.ref bg),some (.ref cs),a4,a5,a6])
   ⟨none,none,none,st,zO.Aq (zO.refl H),Xw,gbg,hY,hJ, .nil,by omega,by omega,rfl⟩ (fun i σ H2 _ zS=>by obtain⟨_,_,_,_,_,g,_⟩:=zS;exact zU.of g) ?_ ?_
  rotate_left
  ·rintro σ H2 ⟨a4,a5,a6,s2,o2,_,_,CN,P0,BU,h1,h2,rfl⟩
   rw[length_map]at h1 h2
   exact q H2 s2 o2 CN P0 BU h1 h2
  rintro i v σ H2 hv ⟨a4,a5,a6,s2,o2,g2,Np,CN,P0,BU,h1,h2,rfl⟩
  have hi:i < ns.length:=by have:=(gQ0 hv);rw[length_map]at this;exact this
  obtain⟨d,rfl⟩:∃ d,v=V.int d:=by
   rw[getElem?_map,getElem?_eq_getElem hi]at hv
   exact⟨_,(Option.some.inj hv).symm⟩
  have Nq:∀ b ∈ [a.le,a.dn],∃ xs,H b=some (.lst xs):=fun b hb=>by
   simp only[mem_cons,not_mem_nil,or_false]at hb
   rcases hb with rfl | rfl
   ·exact hY.Bx _ (by simp)
   ·exact hY.Bx _ (by simp)
  have hT2:xc c TC J H2 a:=AS.keep W hT (zW.Ah Nq o2)
  have IY:Ak H2 AZ bs:=(zW.Ah Nq o2).DD Pz
  have hbv:AZ.length=bs.length:=Paired.length Pz
  have in4:∀ z:Addr,z ∉ a.four->z ∉ [a.le,a.dn]:=fun z hz h=>hz (by simp only[mem_cons,not_mem_nil,or_false]at h ⊢;rcases h with h | h<;>simp[h])
  refine⟨_,rfl,zero_le _,fun o7 JR=>?_⟩
  have s4:=(zO.refl H2).new (o := .lst []) JR
  have g7:(upd H2 o7 (.lst [])) o7=some (.lst []):=ac
  generalize upd H2 o7 (.lst [])=H4 at s4 g7 ⊢
  have Ht:=zX.same CN s4
  have o4:zW [a.le,a.dn] H H4:=o2.trans (zO.Aq s4)
  have Nr:=Ak.same s4 IY
  refine neN (f:=tV) (l:=bs) (.lst (zU.of (s4 _ _ Np)) (uP Nr)) (.lst (zU.of g7) .nil) (qD _) ⟨_,rfl,?_⟩
  cases Cj:bs.isEmpty with
  | true=>exact aI ⟨_,_,_,s2,o4,s4 _ _ g2,s4 _ _ Np,Ht,P0,BU,by omega,by omega,rfl⟩
  | false =>
  have Nl:0 < AZ.length:=by
   rw[hbv]
   cases bs with
   | nil=>cases Cj
   | cons _ _=>exact succ_pos _
  have np:(0:Int) < ((AZ.length:Nat):Int):=by omega
  have z1:=emod_nonneg (d / 4) (show((AZ.length:Nat):Int) ≠ 0 by omega)
  have z2:=emod_lt_of_pos (d / 4) np
  obtain⟨k,hk,SV⟩:∃ k:Nat,d / 4 % ((AZ.length:Nat):Int)=(k:Int)/\k < AZ.length:=⟨(d / 4 % ((AZ.length:Nat):Int)).toNat,by omega,by omega⟩
  have IZ:=getElem?_eq_getElem SV
  obtain⟨pr,hpr,pt,SW,Dg⟩:=Paired.at Nr IZ
  rw[SW]at IZ
  obtain⟨a',b',rfl,Xx,Xy,Hq,hw⟩:=SU pr (mem_of_getElem? hpr)
  refine aJ ⟨_,rfl,_,rfl,_,_,rfl,rfl,⟨by decide,by decide⟩,_,rfl,bg,_,rfl, .inl (zU.of (s4 _ _ Np)),_,_,rfl,rfl,np,bg,AZ,(k:Int), .ref pt,rfl,congrArg V.int hk,zU.of (s4 _ _ Np),ak IZ,pt,_,rfl,Ab.of Dg,rfl,_,_,rfl,_,_,rfl,rfl,?_⟩
  refine⟨_,rfl,a.y,a.dy,_,rfl,Ht.ins,rfl,_,rfl,_,rfl,_,rfl,_,_,rfl,rfl,(by show (0:Int) < 4;decide),_,_,rfl,rfl,_,rfl,_,_,rfl,rfl,⟨by decide,by decide⟩,_,_,rfl,rfl,⟨by decide,by decide,by decide⟩,_,_,rfl,rfl,(by show (0:Int) < 10 ^ (60:Int).toNat;decide +kernel),?_⟩
  have w1:=emod_nonneg (d / 4) (show(10 ^ (60:Int).toNat:Int) ≠ 0 by decide +kernel)
  have w2:=emod_lt_of_pos (d / 4) (show (0:Int) < 10 ^ (60:Int).toNat by decide +kernel)
  have l1:=emod_nonneg d (show (4:Int) ≠ 0 by decide)
  have l2:=emod_lt_of_pos d (show (0:Int) < 4 by decide)
  dsimp only
  generalize d / 4 % 10 ^ (60:Int).toNat=wd at w1 w2 ⊢
  have hwd:J6 (.int wd)=true:=by
   unfold J6
   exact decide_eq_true (by rw[if_neg (by omega)];exact w2)
  obtain⟨len,hlen,OV⟩:∃ len:Int,1 + d % 4=len/\1 <= len/\len <= 4:=⟨_,rfl,by omega,by omega⟩
  rw[hlen]
  have gd:=qJ (n:=a.n) (wy:=a.wy) (m:=s2.U.length) Xx Xy ⟨OV.1,by omega⟩ hwd Hq hw (by omega)
  have Iu:xc c TC J H4 a:=AS.keep W hT2 (zO.Ah s4)
  have E5:s2.done.length <= 10000:=by omega
  refine⟨a.y,a.dy,a.tb,a.ro,a.la,a.le,a.li,a.dn,a.lx,a.Ao,a.lt,a.n,a.Aa,a.ps,a.wy,s2, .int a', .int b', .int len, .int wd,rfl,Ht,Iu, .int _, .int _, .int _, .int _,by omega,E5,(fun h=>by rw[gd]at h;cases h),(fun h=>by rw[gd]at h;cases h),(fun h=>by rw[gd]at h;cases h),(fun h=>by rw[gd]at h;cases h),(fun h=>by rw[gd]at h;cases h),fun _ H5 o5 Ff=>?_⟩
  refine⟨_,_,_,dN s2 a' b' len wd,o4.trans o5,o5 _ _ (in4 _ ncs) (s4 _ _ g2),o5 _ _ (in4 _ nbg) (s4 _ _ Np),Ff,P0.post Xx Xy ⟨by omega,by omega⟩ (by omega), .snoc BU (x:=a') (y:=b') (l:=len) (u:=wd) ⟨by omega,by omega⟩,?_,?_,rfl⟩
  ·show(s2.U ++ [_]).length <= _
   rw[length_append,length_singleton];omega
  ·show(s2.done ++ [_]).length <= _
   rw[length_append,length_singleton];omega
abbrev dL:Stmt:=(aF gG).getD 5 (.Pass ⟨0,0,0,0⟩)
abbrev NPk:List Str:=["_law_moves", "_law_script", "_law_asked"]
abbrev SX:List Str:=["_law_script", "_law_asked"]
noncomputable def kS (la:Addr)(S:Hp->Prop)(Ok:List V->Nat->Prop):Sp:=fun vs H Q _=>∃ (p:Addr)(Aj Bj:List V)(k:Nat),vs=[.ref p]/\H p=some (.lst Aj)/\p ≠ la/\H la=some (.lst Bj)/\Ok Bj (k + 1)/\(∀ H',zW [la] H H'->S H') /\
 ∀ (Nt:List V)(d:Int)(H':Hp),zW [la] H H'->H' la=some (.lst Nt)->Ok Nt k->Q (.int d) H'
noncomputable def kR (K:Frag)(c:Cs)(TC:Addr)(J:TJ)(ys:Ys)(pk la:Addr)(S:Hp->Prop)(Ok:List V->Nat->Prop):Sp:=fun vs H Q _=>∃ (a:YA)(s:YS)(most:Int)(Bj:List V),vs=[.ref a.y, .ref pk, .int most]/\C8 K c TC J ys H a s/\AV a s/\la ∈ ys.ex/\la ∉ a.four/\H la=some (.lst Bj)/\Ok Bj most.toNat/\s.done.length <= 20000/\most <= 10000/\(∀ H',zW (la :: a.four) H H'->S H') /\
 ∀ (D:Addr)(Aw Bj:List V)(n:Nat)(s':YS)(H':Hp),zW (la :: a.four) H H'->AE K ys H' a s'->AV a s'->JU a s n s'->H D=none->H' D=some (.lst Aw)->Aw.length=n->H' la=some (.lst Bj)->Ok Bj (most.toNat - n)->(n:Int) <= max 0 most->((n:Int) < most->cj a s' = [])->Q (.ref D) H'
noncomputable abbrev NRu:List Str:=["yard", "pick", "most", "made", "moves", "number", "move"]
theorem Ec:ao NRu ["yard", "pick", "most"] (ah yl):=L2.Au
theorem yI {c:Cs}{ys:Ys}{J:TJ}{TC f fw fm Xz pk la:Addr}{fd dw dm dd dp:FuncData}{S:Hp->Prop}{Ok:List V->Nat->Prop}(F:Al K "run" "run" yl f fd)(T:eO mg)(Y:iD K ys)(W:Wy K TC fw dw J)
  (mm:bu K ys.zR "moves" fm) (bm:Binds K dm ["self"] []) (Gm:∀ ex,zP P w K mg base aB 7 fm dm ["self"] (kU K c TC J (yx ys ex)))
  (md:bu K ys.zR "do" Xz) (bd:Binds K dd ["self", "move"] []) (Gd:∀ ex,zP P w K mg base (dS P w) 8 Xz dd ["self", "move"] (ya K c TC J (yx ys ex)))
  (hp:PySem.W.FnAt pk base) (bp:Binds K dp ["_law_moves"] []) (Gp:zP P w K mg base aB 3 pk dp ["_law_moves"] (kS la S Ok)) :
  zP P w K mg base aB 9 f fd ["yard", "pick", "most"] (kR K c TC J ys pk la S Ok):=by
 refine F.ok Ec (fun _ _ _ _ h=>?_) (fun _ _ _ s H _ Q E hr h=>?_)
 ·obtain⟨a,s,most,Bj,rfl,_⟩:=h
  rfl
 ·obtain⟨a,st,most,SY,rfl,hI,hJ,hlx,Ph,AJ,Ta,VS,hmo,DF,q⟩:=h
  have hr3:zZ 3 _:=hr.mono (by decide)
  have Nu:zZ 7 _:=hr.mono (by decide)
  have GM:=zP.ex Gm
  have GD:=zP.ex Gd
  refine⟨_,af (aC (i:=3) Ec.nd rfl (Or.inl rfl) (aV ad))
   (af (aC (i:=4) Ec.nd rfl (Or.inl rfl) (bA (pv 0) Y.cl mm GM Nu bm .nil ap))
   (af (mj PassesOwn.never (PW.pt (lj (gN (pv 4) (fun _=>rfl)) (iQ (aw m9 (av aq rfl T.len PySem.boot_len (aa (pv 3) ad)) (pv 2) (aA _)))))
    (af (aC (i:=5) Ec.nd rfl (Or.inl rfl) (tU (i:=1) Gp hp hr3 rfl (Or.inl rfl) bp .nil ap (aa (bU c4 rfl T.list PySem.Pv.boot_list (aa (pv 4) ad)) ad)))
    (af (aC (i:=6) Ec.nd rfl (Or.inl rfl) (ay aT (pv 4) (az bC (pv 5) (av aq rfl T.len PySem.boot_len (aa (pv 4) ad))) (fun _ _=>rfl)))
    (af (aM (aD (pv 0) Y.cl md GD hr bd .nil im (aa (pv 6) ad)))
    (af (aM (cp plainAttrs_list PySem.F.slot_list_append PySem.F.type_list_append bE (pv 3) (aa (pv 6) ad)))
    (ai (aC (i:=4) Ec.nd rfl (Or.inl rfl) (bA (pv 0) Y.cl mm GM Nu bm .nil ap))))))))
   (ai (ar (pv 3))))),?_⟩
  refine⟨zero_le _,fun D hD=>?_⟩
  have s1:=(zO.refl H).new (o := .lst []) hD
  have JV:(upd H D (.lst [])) D=some (.lst []):=ac
  generalize upd H D (.lst [])=H1 at s1 JV ⊢
  have Bs:AE K (yx ys (D :: ys.ex)) H1 a st:=AE.SJ (e:=ys.ex) hI.Y s1 fun b hb=>by
   rcases mem_cons.mp hb with rfl | hb
   ·exact .inr ⟨hD,_,JV⟩
   ·exact .inl hb
  have D6:C8 K c TC J (yx ys (D :: ys.ex)) H1 a st:=⟨Bs,AS.keep W hI.T (zO.Ah s1),hI.O,hI.G⟩
  have four:∀ z ∈ la :: a.four,∃ xs,H z=some (.lst xs):=fun z hz=>by
   rcases mem_cons.mp hz with rfl | hz
   ·exact⟨_,AJ⟩
   ·exact hI.Y.Bx z hz
  have EO:∀ z,H z=none->z ∉ la :: a.four:=fun z hz hm=>by obtain⟨xs,e⟩:=four z hm;rw[hz]at e;cases e
  have nD:=EO D hD
  refine⟨_,rfl,a.y,a.dy,_,rfl,Bs.ins,rfl,D :: ys.ex,a,st,rfl,D6,fun M Aj H2 s2 hM gM pM=>?_⟩
  have JA:=s1.trans s2
  refine⟨fun m σ H'=>∃ (a5 a6:Option V)(M:Addr)(Aj Aw Bj:List V)(n:Nat)(s':YS),m=most.toNat - n/\zW (la :: a.four) H H'/\AE K (yx ys (D :: ys.ex)) H' a s'/\AV a s'/\s'.done.length=st.done.length + n/\JU a st n s'/\H' D=some (.lst Aw)/\Aw.length=n/\H' la=some (.lst Bj)/\Ok Bj (most.toNat - n)/\(n:Int) <= max 0 most/\H M=none/\M ≠ D/\H' M=some (.lst Aj)/\Paired (Bw H') Aj ((cj a s').map fP) /\
    σ=[some (.ref a.y),some (.ref pk),some (.int most),some (.ref D),some (.ref M),a5,a6],
   ⟨most.toNat - 0,none,none,M,Aj,[],SY,0,st,rfl,zO.Aq JA,zX.same Bs s2,hJ,rfl, .nil,s2 _ _ JV,rfl,JA _ _ AJ,Ta,by show (0:Int) <= _;omega,s1.free hM,Ne.symm (ag JV hM),gM,pM,rfl⟩,?_⟩
  rintro m σ H3 ⟨a5,a6,M,Aj,Aw,Bj,n,s',rfl,o3,B9,Nv,Ci,X0,JM,E5,HH,X6,hlen,nM,nMD,Tc,X7,rfl⟩
  have JC:Aj.length=(cj a s').length:=by rw[Paired.length X7,length_map]
  have fin:((n:Int) < most->cj a s' = [])->Q (.ref D) H3:=fun h2 =>
   q D Aw Bj n s' H3 o3 (AE.SJ (e:=D :: ys.ex) (e':=ys.ex) B9 (zO.refl _) fun b hb => .inl (mem_cons_of_mem _ hb)) Nv X0 hD JM E5 HH X6 hlen h2
  refine⟨_,rfl,_, .inl ⟨Aj,zU.of Tc,rfl⟩,?_⟩
  cases X8:Aj.isEmpty with
  | true =>
   refine aI (aI ⟨_,rfl,fin fun _=>?_⟩)
   have:Aj=[]:=List.isEmpty_iff.mp X8
   rw[this]at JC
   exact List.length_eq_zero_iff.mp JC.symm
  | false =>
  refine aJ ⟨_,rfl,D,_,rfl, .inl (zU.of JM),_,rfl,_,_,rfl,rfl,_,rfl,?_⟩
  rw[E5]
  by_cases Td:(n:Int) < most
  rotate_left
  ·rw[decide_eq_false Td]
   exact aI ⟨_,rfl,fin fun h=>absurd h Td⟩
  rw[decide_eq_true Td]
  have Nl:0 < Aj.length:=by
   cases Aj with
   | nil=>cases X8
   | cons _ _=>exact succ_pos _
  have Nw:∀ z ∈ la :: a.four,∃ xs,H3 z=some (.lst xs):=fun z hz=>by
   rcases mem_cons.mp hz with rfl | hz
   ·exact⟨_,HH⟩
   ·exact B9.Bx z hz
  have old3:∀ z,H3 z=none->H z=none:=fun z hz=>by
   cases e:H z with
   | none=>rfl
   | some o =>
    by_cases hm:z ∈ la :: a.four
    ·obtain⟨xs,g⟩:=Nw z hm;rw[hz]at g;cases g
    ·rw[o3 z o hm e]at hz;cases hz
  have nl4:la ≠ D:=fun e=>nD (by rw[e];exact mem_cons_self)
  refine aJ ⟨fun σ' H'=>∃ (M:Addr)(Aj Aw Bj:List V)(s1:YS)(mv:Mv)(a5 a6:Option V),zW (la :: a.four) H H'/\AE K (yx ys (D :: ys.ex)) H' a (vh s' s1 mv)/\Cv a s' mv s1/\H' D=some (.lst Aw)/\Aw.length=n + 1/\H' la=some (.lst Bj)/\Ok Bj (most.toNat - (n + 1))/\H M=none/\M ≠ D/\H' M=some (.lst Aj)/\Paired (Bw H') Aj ((cj a (vh s' s1 mv)).map fP) /\
    σ' = [some (.ref a.y),some (.ref pk),some (.int most),some (.ref D),some (.ref M),a5,a6],fun σ' H' q=>?_,?_⟩
  ·obtain⟨M,Aj,Aw,Bj,s1,mv,a5,a6,h1,h2,h4,h5,h6,h7,h8,h9,h10,h11,h12,h13⟩:=q
   refine⟨most.toNat - (n + 1),by omega,a5,a6,M,Aj,Aw,Bj,n + 1,vh s' s1 mv,rfl,h1,h2,(Nv.step h4).done _,?_, .snoc X0 h4,h5,h6,h7,h8,by omega,h9,h10,h11,h12,h13⟩
   show(s'.done ++ [_]).length=_
   rw[length_append,length_singleton];omega
  refine⟨rfl,_,rfl,M,Aj,rfl, .inl (zU.of Tc),fun p hp=>?_⟩
  have s4:=(zO.refl H3).new (o := .lst Aj) hp
  have hk1:most.toNat - n=most.toNat - (n + 1) + 1:=by omega
  refine⟨p,Aj,Bj,most.toNat - (n + 1),rfl,ac,Ne.symm (ag HH hp),s4 _ _ HH,hk1 ▸ X6,fun H' o'=>DF H' fun b o hb e=>o' b o (fun z=>hb (by rw[mem_singleton.mp z];exact mem_cons_self)) (s4 _ _ (o3 b o hb e)),fun Te d H5 o5 X9 Tf=>?_⟩
  have Nx:zW [la] H3 H5:=fun b o hb e=>o5 b o hb (s4 _ _ e)
  clear o5
  have k35:Ap H3 H5:=zW.Ah (fun b hb=>by rw[mem_singleton.mp hb];exact⟨_,HH⟩) Nx
  have Ff:AE K (yx ys (D :: ys.ex)) H5 a s':=AE.Ng B9 Nx (fun b hb=>by rw[mem_singleton.mp hb];exact mem_cons_of_mem _ hlx) (fun b hb z=>Ph (by rw[← mem_singleton.mp z];exact hb)) fun b hb=>by rw[mem_singleton.mp hb];exact⟨_,X9⟩
  have n1:∀ {z:Addr},z ∉ la :: a.four->z ∉ [la]:=fun h z=>h (by rw[mem_singleton.mp z];exact mem_cons_self)
  have XA:=Nx _ _ (n1 (EO M nM)) Tc
  have Px:=Nx _ _ (n1 nD) JM
  have o5:zW (la :: a.four) H H5:=o3.trans (Nx.mono fun b hb=>by rw[mem_singleton.mp hb];exact mem_cons_self)
  have pM5:=Paired.mono (fun v m z=>Bw.keep k35 z) X7
  have k5:Ap H H5:=zW.Ah four o5
  have np:(0:Int) < ((Aj.length:Nat):Int):=by omega
  have z1:=emod_nonneg (d) (show((Aj.length:Nat):Int) ≠ 0 by omega)
  have z2:=emod_lt_of_pos (d) np
  obtain⟨k,hk,SV⟩:∃ k:Nat,d % ((Aj.length:Nat):Int)=(k:Int)/\k < Aj.length:=⟨(d % ((Aj.length:Nat):Int)).toNat,by omega,by omega⟩
  have IZ:=getElem?_eq_getElem SV
  obtain⟨mv,Ja,pm,SW,hpm⟩:=Paired.at pM5 IZ
  obtain⟨m,hmk,rfl⟩:∃ m,(cj a s')[k]? = some m/\fP m=mv:=by
   rw[getElem?_map]at Ja
   cases hx:(cj a s')[k]? with
   | none=>rw[hx]at Ja;cases Ja
   | some m=>rw[hx]at Ja;exact⟨m,rfl,Option.some.inj Ja⟩
  rw[SW]at IZ
  refine⟨_,rfl,_,rfl,_,rfl,M,_,rfl, .inl (zU.of XA),_,_,rfl,rfl,np,M,Aj,(k:Int), .ref pm,rfl,congrArg V.int hk,zU.of XA,ak IZ,?_⟩
  have hI5:C8 K c TC J (yx ys (D :: ys.ex)) H5 a s':=⟨Ff,AS.keep W hI.T k5,hI.O,Nv.ok⟩
  refine⟨_,rfl,a.y,a.dy,_,rfl,Ff.ins,rfl,_,rfl,D :: ys.ex,a,s',pm,m,rfl,hI5,hpm,mem_of_getElem? hmk,Nv.sml (by omega),fun H6 s6 Dn o6 hY6=>?_⟩
  have n4:∀ {z:Addr},z ∉ la :: a.four->z ∉ a.four:=fun h z=>h (mem_cons_of_mem _ z)
  have k56:Ap H5 H6:=zW.Ah (fun z hz=>Ff.Bx z hz) o6
  have Tg:=o6 _ _ (n4 nD) Px
  have ga6:=o6 _ _ Ph X9
  refine⟨_,rfl, .inl ⟨rfl,_,zU.of Tg⟩,_,rfl,D,Aw, .ref pm,rfl,rfl,Tg,by rw[sizeLine_eq];omega,?_⟩
  have Ny:zW [D] H6 (upd H6 D (.lst (Aw ++ [.ref pm]))):=fun b o hb e=>by rw[ae (fun z=>hb (by rw[z];exact mem_cons_self))];exact e
  have Jb:(upd H6 D (.lst (Aw ++ [.ref pm]))) D=some (.lst (Aw ++ [.ref pm])):=ac
  generalize upd H6 D (.lst (Aw ++ [.ref pm]))=H7 at Ny Jb ⊢
  have k67:Ap H6 H7:=zW.Ah (fun b hb=>by rw[mem_singleton.mp hb];exact⟨_,Tg⟩) Ny
  have FP:AE K (yx ys (D :: ys.ex)) H7 a (vh s' s6 m):=AE.Ng hY6 Ny (fun b hb=>by rw[mem_singleton.mp hb];exact mem_cons_self) (fun b hb z=>nD (by rw[← mem_singleton.mp z];exact mem_cons_of_mem _ hb)) fun b hb=>by rw[mem_singleton.mp hb];exact⟨_,Jb⟩
  have o7:zW (la :: a.four) H H7:=fun b o hb e=>Ny b o (fun z=>by rw[mem_singleton.mp z,hD]at e;cases e) (o6 b o (n4 hb) (o5 b o hb e))
  have k7:Ap H H7:=zW.Ah four o7
  have hJ7:AV a (vh s' s6 m):=(Nv.step Dn).done _
  have hI7:C8 K c TC J (yx ys (D :: ys.ex)) H7 a (vh s' s6 m):=⟨FP,AS.keep W hI.T k7,hI.O,hJ7.ok⟩
  have P2:=Ny la _ (fun z=>nl4 (mem_singleton.mp z)) ga6
  refine⟨_,rfl,a.y,a.dy,_,rfl,FP.ins,rfl,D :: ys.ex,a,vh s' s6 m,rfl,hI7,fun M8 Th H8 s8 JW gM8 pM8=>?_⟩
  have Ti:H M8=none:=by
   cases e:H M8 with
   | none=>rfl
   | some o =>
    by_cases hm:M8 ∈ la :: a.four
    ·rcases mem_cons.mp hm with z | z
     ·rw[z,P2]at JW;cases JW
     ·obtain⟨xs,g⟩:=FP.Bx M8 z;rw[JW]at g;cases g
    ·rw[o7 M8 o hm e]at JW;cases JW
  exact⟨M8,Th,Aw ++ [.ref pm],Te,s6,m,_,_,fun b o hb e=>s8 _ _ (o7 b o hb e),zX.same FP s8,Dn,s8 _ _ Jb,by rw[length_append,length_singleton,E5],s8 _ _ P2,Tf,Ti,Ne.symm (ag Jb JW),gM8,pM8,rfl⟩
noncomputable def XB (cap:Nat)(Bj:List V)(k:Nat):Prop:=Bj.length + k <= cap/\cap <= 10000
noncomputable def so (K:Frag)(c:Cs)(TC:Addr)(J:TJ)(ys:Ys):Sp:=fun vs H Q _=>∃ (a:YA)(s:YS),vs=[.ref a.y]/\C8 K c TC J ys H a s/\s.U.length <= 900/\∀ H',zO H H'->Q (.int (iH s * ((2 * a.ps.length + 1:Nat):Int))) H'
noncomputable def sE (K:Frag)(ys:Ys):Sp:=fun vs H Q _=>∃ (a:YA)(s:YS)(N:Nat->Nat->Nat),vs=[.ref a.y, .int a.n]/\AE K ys H a s/\AV a s/\BO a s N zr/\a.n <= 12/\∀ H',Q (.bl true) H'
theorem uV (m:Nat)(qs:List (Int × Int))(l c:Int):cnt m (qs ++ [(l,c)])=if l=(m:Int) then cnt m qs ++ [c] else cnt m qs:=by
 rw[eE]
 unfold cnt
 by_cases h:l=(m:Int)
 ·rw[if_pos h,filter_cons_of_pos (by simpa using h)];rfl
 ·rw[if_neg h,filter_cons_of_neg (by simpa using h)];simp
theorem qr (m:Nat)(qs:List (Int × Int)):(cnt m qs).length <= qs.length:=by
 unfold cnt;rw[length_map];exact length_filter_le _ _
theorem uT {K:Frag}{a:Addr}{vs:List V}{qs:List (Int × Int)}{m:Nat}{g:TG}{tt:TT}{te:TE}{σ0:St}{H:Hp}{Q:VK}(ha:H a=some (.lst vs))(hL:Ak H vs qs)(hn:qs.length < sizeLine)
  (hs:∀ (x:Addr)(l c:Int)(acc:List V)(N:List V->Hp->Prop),H x=some (.tup [.int l, .int c])->N (if l=(m:Int) then acc ++ [.int c] else acc) H->g (.ref x) σ0 H fun σ2 H2=>tt σ2 H2 fun b H3=>if b=true then te σ2 H3 fun y H4=>N (acc ++ [y]) H4 else N acc H3)
  (hq:∀ D,H D=none->Q (.ref D) (upd H D (.lst ((cnt m qs).map V.int)))):du (vj K a) g tt te σ0 Q H:=by
 have hl:vs.length=qs.length:=Paired.length hL
 refine bH qs.length hn (fun i acc H'=>H' = H/\acc=(cnt m (qs.take i)).map V.int) ⟨rfl,rfl⟩ (fun i acc H' h=>by rw[h.2,length_map];exact le_trans (qr _ _) (length_take_le _ _)) (fun i acc H' hi h=>?_) (fun acc H' h=>?_)
 ·obtain⟨rfl,rfl⟩:=h
  have hx:vs[i]? = some (vs[i]'(by omega)):=getElem?_eq_getElem (by omega)
  refine⟨⟨vs,_,zU.of ha,hx⟩,fun v H2 y=>?_⟩
  obtain⟨rfl,y⟩:=y
  have hv:=y vs (zU.of ha)
  obtain⟨pr,hpr,x,rfl,gx⟩:=Paired.at hL hv
  obtain⟨l,c⟩:=pr
  refine hs x l c _ (fun AL H3=>H3=H2/\AL = (cnt m (qs.take (i + 1))).map V.int) gx ⟨rfl,?_⟩
  rw[take_succ,hpr]
  show _=(cnt m (qs.take i ++ [(l,c)])).map V.int
  rw[uV]
  split
  ·rw[map_append];rfl
  ·rfl
 ·obtain⟨rfl,rfl⟩:=h
  rw[take_of_length_le (Nat.le_refl _)]
  exact⟨⟨vs,zU.of ha,by omega⟩,fun D hD=>hq D hD⟩
theorem jD {K:Frag}{H:Hp}:∀ xs:List Int,jK K H (xs.map V.int) (xs.map PyData.int)
 | [] => .nil
 | x :: xs => .cons (.int x) (jD xs)
theorem sK (xs:List Int):Cn (.list (xs.map PyData.int)) 64:=(eT (m:=0) fun z hz=>by
 obtain⟨x,_,rfl⟩:=mem_map.mp hz
 exact cU _).le (by decide)
theorem Tj:jH NPk ["_law_moves"] SX (ah dL):=⟨rfl,rfl,rfl,by decide +kernel,rfl,by decide +kernel,by decide +kernel,by decide +kernel,by decide +kernel⟩
theorem we {f c' sc la fc fx:Addr}{clos:List (Str × Addr)}{doc pm B0:Value}{oc:Obj}{dc dx:FuncData}{ns:List Int}{cap:Nat}(lk:base.get? f=some (PySem.W.fnMade "_law_pick" "law.<locals>._law_pick" (aZ dL) (aF dL) (ah dL) clos doc pm c' B0))(Ef:base.get? c' = some oc)(B6:jL oc "law.<locals>._law_pick")(C:Ll base clos SX [.ref sc, .ref la])(T:eO mg)
  (mc:mg "_law_cell_at" = some (.ref fc)) (kc:keepIn K (.ref fc)=true) (bc:Binds K dc ["_law_script", "_law_k"] []) (Gc:zP P w K mg base aB 1 fc dc ["_law_script", "_law_k"] (jj K))
  (mx:mg "_law_mixed" = some (.ref fx)) (kx:keepIn K (.ref fx)=true) (bx:Binds K dx ["_law_cell", "_law_k"] []) (Gx:zP P w K mg base aB 1 fx dx ["_law_cell", "_law_k"] ji) :
  zP P w K mg base aB 3 f (PySem.W.fnX "_law_pick" "law.<locals>._law_pick" (aZ dL) (aF dL) (ah dL) clos .none .none doc pm none (.ref c') B0) ["_law_moves"] (kS la (fun H=>zU K H sc (ns.map V.int)) (XB cap)):=by
 refine zo lk Ef B6 Tj C (fun vs H Q E h=>?_) (fun A outer s H vs Q E hr h=>?_)
 ·obtain⟨p,Aj,Bj,k,rfl,_⟩:=h
  rfl
 ·obtain⟨p,Aj,Bj,k,rfl,gp,WB,gl,⟨Tn,Tp⟩,DF,q⟩:=h
  have AM:zZ 1 _:=hr.mono (by decide)
  refine⟨_,af (aM (cp plainAttrs_list PySem.F.slot_list_append PySem.F.type_list_append bE (pv 2) (aa (av aq rfl T.len PySem.boot_len (aa (pv 0) ad)) ad)))
   (ai (ar (au Gx AM rfl mx kx bx .nil ap (aa (au Gc AM rfl mc kc bc .nil ap (aa (pv 1) (aa (az bC (av aq rfl T.len PySem.boot_len (aa (pv 2) ad)) (av (rC rfl) rfl T.max PyProof.Rows.boot_max (aa aj (aa (av aq rfl T.len PySem.boot_len (aa (pv 1) ad)) ad)))) ad))) (aa (av aq rfl T.len PySem.boot_len (aa (pv 2) ad)) ad))))),?_⟩
  refine⟨_,rfl, .inl ⟨rfl,_,zU.of gl⟩,_,rfl,p,Aj,rfl, .inl (zU.of gp),la,Bj,_,rfl,rfl,gl,by rw[sizeLine_eq];omega,?_⟩
  have o1:zW [la] H (upd H la (.lst (Bj ++ [V.int ((Aj.length:Nat):Int)]))):=fun b o hb e=>by rw[ae (fun z=>hb (by rw[z];exact mem_cons_self))];exact e
  have g1:(upd H la (.lst (Bj ++ [V.int ((Aj.length:Nat):Int)]))) la=some (.lst (Bj ++ [V.int ((Aj.length:Nat):Int)])):=ac
  have Tq:=DF _ o1
  have fin:=fun d=>q (Bj ++ [V.int ((Aj.length:Nat):Int)]) d _ o1 g1 ⟨by rw[length_append,length_singleton];omega,Tp⟩
  generalize upd H la (.lst (Bj ++ [V.int ((Aj.length:Nat):Int)]))=H1 at g1 Tq fin ⊢
  have M0:(Bj ++ [V.int ((Aj.length:Nat):Int)]).length=Bj.length + 1:=by rw[length_append,length_singleton]
  refine⟨_,rfl,_,rfl,la,_,rfl, .inl (zU.of g1),_,rfl,sc,_,rfl, .inl Tq,_,_,rfl,_,_,rfl,rfl,?_,?_⟩
  ·show (0:Int) < if (((ns.map V.int).length:Nat):Int) > 1 then _ else 1
   split<;>omega
  dsimp only
  obtain⟨kk,hkk⟩:∃ kk:Nat,((((Bj ++ [V.int ((Aj.length:Nat):Int)]).length:Nat):Int)) % (if (((ns.map V.int).length:Nat):Int) > 1 then (((ns.map V.int).length:Nat):Int) else 1)=(kk:Int):=by
   have:=emod_nonneg ((((Bj ++ [V.int ((Aj.length:Nat):Int)]).length:Nat):Int)) (show(if (((ns.map V.int).length:Nat):Int) > 1 then (((ns.map V.int).length:Nat):Int) else 1) ≠ 0 by split<;>omega)
   exact⟨_,(Int.toNat_of_nonneg this).symm⟩
  rw[hkk]
  exact⟨sc,ns,kk,rfl,Tq,fun d=>⟨_,rfl,la,_,rfl, .inl (zU.of g1),d,(Bj ++ [V.int ((Aj.length:Nat):Int)]).length,rfl,by rw[M0];omega,fun e _=>fin e⟩⟩
theorem HI:ao ["yard", "pieces"] ["yard"] (ah lU):=L2.Au
noncomputable def Nz (s:Stmt):Scope:=match s with
 | .Assign _ (.Call _ (.ListComp _ _ sc _ :: _) _ _) _=>sc
 | _=>zQ0
theorem N0:Bk ["yard", "pieces"] (ah lU) (Nz ((aF lU).getD 0 (.Pass ⟨0,0,0,0⟩))) ["yard"] [0]:=L2.Cg
theorem N2:(["number", "yard"]:List Str).Nodup:=by decide +kernel
theorem l9 {H:Hp}:∀ {vs:List V}{l:List aY},Paired (fun (v:V)(t:aY)=>v = .int t.len) vs l->vs=(l.map (·.len)).map V.int
 | _,_, .nil=>rfl
 | _,_, .cons h r=>by rw[h,l9 (H:=H) r];rfl
theorem wo {c:Cs}{ys:Ys}{J:TJ}{TC f fw fp fl:Addr}{fd dw dp dl:FuncData}(F:Al K "most_moves" "most_moves" lU f fd)(T:eO mg)(L:kL K c)(Y:iD K ys)(W:Wy K TC fw dw J)
  (mp:bu K ys.zR "posted" fp) (bp:Binds K dp ["self"] []) (Gp:zP P w K mg base aB 1 fp dp ["self"] (gB K ys))
  (ml:bu K ys.zR "letter_told" fl) (bl:Binds K dl ["self", "number"] []) (Gl:zP P w K mg base aB 1 fl dl ["self", "number"] (kW K ys)) :
  zP P w K mg base aB 2 f fd ["yard"] (so K c TC J ys):=by
 refine F.ok HI (fun _ _ _ _ h=>?_) (fun _ _ _ s H _ Q E hr h=>?_)
 ·obtain⟨a,s,rfl,_⟩:=h
  rfl
 ·obtain⟨a,st,rfl,hI,hl9,q⟩:=h
  refine⟨_,af (aC (i:=1) HI.nd rfl (Or.inl rfl) (av (nv rfl) rfl T.sum PyProof.Rows.boot_sum (aa (bv (own:=["number"]) (capN:=["yard"]) (cap:=[0]) N0 rfl (aL rfl T.range (aa (bA (pv 0) Y.cl mp Gp hr bp .nil ap) ad)) (fun C s' H' fp=>⟨ax (i:=0) N2 rfl (Or.inl rfl),ci,ay (show nH _ (js K) from aE) (aD (pv 1) Y.cl ml Gl hr bl .nil ap (aa (pv 0) ad)) aj (fun _ _=>rfl)⟩)) ad)))
   (ai (ar (az eZ (pv 1) (az bP (az eZ aj (av aq rfl T.len PySem.boot_len (aa (al (al (al (pv 0) rfl) rfl) rfl) ad))) aj)))),?_⟩
  have hY:=hI.Y
  refine⟨_,rfl,a.y,a.dy,_,rfl,hY.ins,rfl,a.y,a.dy,a.tb,a.ro,a.la,a.le,a.li,a.dn,st,rfl,hY,(st.U.length:Int),rfl,by omega,by omega,?_⟩
  rw[toNat_natCast]
  refine nj (R:=fun _ (v:V) (t:aY)=>v = .int t.len) (fun _ v t h=>h) st.U (by rw[sizeLine_eq];omega) (fun i t H1 N ht s1 hN=>?_) (fun D vs H1 s1 hD pD=>?_)
  ·have Bs:=zX.same hY s1
   exact⟨_,rfl,a.y,a.dy,_,rfl,Bs.ins,rfl,_,rfl,a.y,a.dy,a.tb,a.ro,a.la,a.le,a.li,a.dn,st,i,t,rfl,Bs,ht,fun tp H2 s2 N3=>⟨tp,_,2,_,rfl,rfl,Ab.of N3,ak (j:=2) rfl,hN _ H2 s2 rfl⟩⟩
  have s2:=s1.new (o := .lst vs) hD
  have gD:(upd H1 D (.lst vs)) D=some (.lst vs):=ac
  generalize upd H1 D (.lst vs)=H2 at s2 gD ⊢
  rw[l9 (H:=H) pD]at gD
  have BV:=hI.same W s2
  obtain⟨Ca,fst,BF,As,Bi⟩:=BV.T.i
  have JS:a.Aa.length=a.ps.length:=Paired.length BV.T.l.2.2
  refine⟨D,_,rfl,zU.of gD,?_⟩
  refine⟨_,rfl,_,rfl,a.y,ys.zR,a.dy,_,_,rfl,BV.Y.ins,Y.cl,Y.n1,rfl,a.tb,TC,Ca,fst,_,rfl,BF,W.cl,W.nl,As,a.lx,c.land,a.Ao,_,_,rfl,BV.T.l.1,L.cl,L.nl,rfl,a.lt,_,rfl, .inr (Ab.of BV.T.l.2.1),_,_,rfl,rfl, .inl ⟨by decide,by decide⟩,_,_,rfl,rfl,_,_,rfl,rfl, .inr ?_,?_⟩
  ·have:=BV.T.AN
   rw[JS]
   exact⟨by show -(2 ^ 64) < 2 * ((a.ps.length:Nat):Int) + 1;omega,by show 2 * ((a.ps.length:Nat):Int) + 1 < 2 ^ 64;omega⟩
  ·rw[JS]
   show Q (.int ((st.U.map (·.len)).sum * (2 * ((a.ps.length:Nat):Int) + 1))) H2
   rw[show(2 * ((a.ps.length:Nat):Int) + 1)=((2 * a.ps.length + 1:Nat):Int) by omega]
   exact q H2 s2
noncomputable abbrev XC:List Str:=["_law_yard", "_law_places", "_law_number", "_law_goal", "_law_place", "_law_counts"]
noncomputable def forL (s:Stmt):Scope:=match s with
 | .For _ _ b _ _=>(match b.getD 1 (.Pass ⟨0,0,0,0⟩) with
  | .For _ _ b2 _ _=>wZ (b2.getD 0 (.Pass ⟨0,0,0,0⟩))
  | _=>zQ0)
 | _=>zQ0
theorem ER:ao XC ["_law_yard", "_law_places"] (ah lV):=L2.Au
theorem Tr:Bk XC (ah lV) (forL ((aF lV).getD 0 (.Pass ⟨0,0,0,0⟩))) ["_law_number"] [2]:=L2.Cg
theorem N4:(["_law_letter", "_law_count", "_law_number"]:List Str).Nodup:=by decide +kernel
theorem wu {ys:Ys}{f fp fl fy:Addr}{fd dp dl dy:FuncData}(F:Al K "_law_lies" "_law_lies" lV f fd)(T:eO mg)(Y:iD K ys)
  (mp:bu K ys.zR "posted" fp) (bp:Binds K dp ["self"] []) (Gp:zP P w K mg base aB 1 fp dp ["self"] (gB K ys))
  (ml:bu K ys.zR "letter_told" fl) (bl:Binds K dl ["self", "number"] []) (Gl:zP P w K mg base aB 1 fl dl ["self", "number"] (kW K ys))
  (my:bu K ys.zR "lying" fy) (Sd:Binds K dy ["self", "place"] []) (Gy:zP P w K mg base aB 1 fy dy ["self", "place"] (pA K ys)) :
  zP P w K mg base aB 2 f fd ["_law_yard", "_law_places"] (sE K ys):=by
 refine F.ok ER (fun _ _ _ _ h=>?_) (fun _ _ _ s H _ Q E hr h=>?_)
 ·obtain⟨a,s,N,rfl,_⟩:=h
  rfl
 ·obtain⟨a,st,N,rfl,hY,hJ,hG,OW,q⟩:=h
  have hu:=hr.units
  refine⟨_,af (bF PassesOwn.never rfl (aL rfl T.range (aa (bA (pv 0) Y.cl mp Gp hr bp .nil ap) ad)) (ax (i:=2) ER.nd rfl (Or.inr rfl))
    (af (aC (i:=3) ER.nd rfl (Or.inl rfl) (ay aE (aD (pv 0) Y.cl ml Gl hr bl .nil ap (aa (pv 2) ad)) aj (fun _ _=>rfl)))
    (ai (bF PassesOwn.never rfl (aL rfl T.range (aa (pv 1) ad)) (ax (i:=4) ER.nd rfl (Or.inl rfl))
     (af (e8 (i:=5) (own:=["_law_letter", "_law_count"]) (capN:=["_law_number"]) (cap:=[2]) Tr rfl ER.nd rfl rfl (bT (aD (pv 0) Y.cl my Gy hr Sd .nil ap (aa (pv 4) ad)))
      (fun C s' H' fp=>⟨(show PG _ _ (wP K 2 _) from il rfl (bG (ax (i:=0) N4 rfl (Or.inl rfl)) (bG (ax (i:=1) N4 rfl (Or.inl rfl)) fH))),cf (aw bB (pv 0) (pv 2) (aA _)),pv 1⟩))
     (ai (aQ (PW.pt (gL (aw (jv hu) (pv 5) (bU (jR rfl) rfl T.list PySem.Pv.boot_list (aa (bU uX rfl T.range PyProof.Rows.boot_range (aa (av aq rfl T.len PySem.boot_len (aa (pv 5) ad)) ad)) ad)) (aA _)) (dZ (PW.pt (lj (aw jw (pv 4) (pv 3) (aA _)) (iQ (aw (jv hu) (pv 5) (aV ad) (aA _)))))))) (ai (ar jt)) aH)))))))
   (ai (ar jt)),?_⟩
  refine⟨_,rfl,a.y,a.dy,_,rfl,hY.ins,rfl,a.y,a.dy,a.tb,a.ro,a.la,a.le,a.li,a.dn,st,rfl,hY,(st.U.length:Int),rfl,by omega,by have:=hJ.AN;omega,?_⟩
  rw[toNat_natCast]
  refine b8 (n:=st.U.length) (fun i σ H1=>∃ a2 a3 a4 a5:Option V,zO H H1/\σ=[some (.ref a.y),some (.int a.n),a2,a3,a4,a5]) ⟨none,none,none,none,zO.refl _,rfl⟩ ?_ fun σ H1 _=>q H1
  rintro m σ H1 hm ⟨a2,a3,a4,a5,s1,rfl⟩
  rw[zero_add]
  have Bs:=zX.same hY s1
  have ht:=getElem?_eq_getElem hm
  generalize st.U[m]=t at ht
  refine⟨_,rfl,a.y,a.dy,_,rfl,Bs.ins,rfl,_,rfl,a.y,a.dy,a.tb,a.ro,a.la,a.le,a.li,a.dn,st,m,t,rfl,Bs,ht,fun tp H2 s2 N3=>⟨tp,_,1,_,rfl,rfl,Ab.of N3,ak (j:=1) rfl,?_⟩⟩
  refine⟨_,rfl,(a.n:Int),rfl,by omega,by omega,?_⟩
  rw[toNat_natCast]
  refine b8 (n:=a.n) (fun i σ H3=>∃ a4 a5:Option V,zO H H3/\σ=[some (.ref a.y),some (.int a.n),some (.int m),some (.int t.goal),a4,a5]) ⟨a4,a5,s1.trans s2,rfl⟩ ?_ fun σ H3 zS=>by obtain⟨a4,a5,s3,e⟩:=zS;exact⟨_,_,_,_,s3,e⟩
  rintro p σ H3 hp ⟨a4,a5,s3,rfl⟩
  rw[zero_add]
  have B9:=zX.same hY s3
  have BW:=getElem?_eq_getElem (show p < st.lies.length by rw[hJ.lies];exact hp)
  generalize st.lies[p]'(by rw[hJ.lies];exact hp)=qs at BW
  have hq36:qs.length <= 3600:=by
   have e1:=gU (fun q:List (Int × Int)=>q.length) BW
   have e2:=hJ.HD.2
   have e1:qs.length <= iE st:=e1
   omega
  have EN:=hG.By m t ht p qs BW
  refine⟨_,rfl,a.y,a.dy,_,rfl,B9.ins,rfl,_,rfl,a,st,p,qs,rfl,B9,BW,fun Hp' Am H4 s4 hHp XD hLp=>⟨Hp',rfl,⟨_,zU.of XD⟩,?_⟩⟩
  refine uT (m:=m) XD hLp (by rw[sizeLine_eq];omega) (fun x l c acc N hx h=>?_) (fun Pc hPc=>?_)
  ·refine⟨x,_,rfl,Ab.of hx,rfl,_,_,rfl,_,_,rfl,rfl,_,rfl,_,rfl,rfl,_,rfl,?_⟩
   by_cases e1:l=(m:Int)
   ·rw[if_pos e1]at h
    rw[decide_eq_true (show V.int l=V.int m by rw[e1])]
    exact aJ ⟨_,rfl,h⟩
   ·rw[if_neg e1]at h
    rw[decide_eq_false (show ¬ V.int l=V.int m from fun z=>e1 (V.int.inj z))]
    exact aI h
  have u5:=(s3.trans s4).new (o := .lst ((cnt m qs).map V.int)) hPc
  have P4:(upd H4 Pc (.lst ((cnt m qs).map V.int))) Pc=some (.lst ((cnt m qs).map V.int)):=ac
  show eK 5 (V.ref Pc) _ (upd H4 Pc (.lst ((cnt m qs).map V.int))) _
  generalize upd H4 Pc (.lst ((cnt m qs).map V.int))=H5 at u5 P4 ⊢
  have ecn:cnt m qs=iO 0 (cnt m qs).length:=by
   rw[EN]
   split
   ·rw[vC,sub_zero]
   ·exact(gJ (Nat.le_refl _)).symm
  have Dk:=qr m qs
  have erg:(List.range (cnt m qs).length).map (fun k:Nat=>V.int (k:Int))=(cnt m qs).map V.int:=by
   conv=>rhs;rw[ecn]
   unfold iO
   rw[map_map,sub_zero,List.range_eq_range'];rfl
  refine⟨_,rfl,_,rfl,Pc,_,rfl, .inl (zU.of P4),_,rfl,fun rp hrp=>⟨rp,(cnt m qs).length,rfl,by rw[ac,length_map],by omega,fun ll El=>?_⟩⟩
  rw[erg]
  have s6:=(zO.refl H5).new (o:=rF rp (((cnt m qs).map V.int).length:Nat)) hrp
  have s7:=s6.new (o := .lst ((cnt m qs).map V.int)) El
  have XE:(upd (upd H5 rp (rF rp (((cnt m qs).map V.int).length:Nat))) ll (.lst ((cnt m qs).map V.int))) ll=some (.lst ((cnt m qs).map V.int)):=ac
  generalize upd (upd H5 rp (rF rp (((cnt m qs).map V.int).length:Nat))) ll (.lst ((cnt m qs).map V.int))=H7 at s7 XE ⊢
  have u7:=u5.trans s7
  refine VP (d := .list ((cnt m qs).map PyData.int)) (.lst (zU.of (s7 _ _ P4)) (jD _)) (.lst (zU.of XE) (jD _)) (sK _) ⟨_,rfl,aI ?_⟩
  refine⟨_,rfl,_,rfl,rfl,_,rfl,?_⟩
  by_cases Fi:(p:Int)=t.goal
  ·rw[show(!decide (V.int (p:Int)=V.int t.goal))=false by rw[decide_eq_true (show V.int (p:Int)=V.int t.goal by rw[Fi])];rfl]
   exact aI (aI ⟨_,_,u7,rfl⟩)
  ·rw[show(!decide (V.int (p:Int)=V.int t.goal))=true by rw[decide_eq_false (fun z=>Fi (V.int.inj z))];rfl]
   rw[if_neg Fi]at EN
   refine aJ ⟨_,rfl,zero_le _,fun o7 JR=>?_⟩
   have s8:=(zO.refl H7).new (o := .lst []) JR
   have g8:(upd H7 o7 (.lst [])) o7=some (.lst []):=ac
   generalize upd H7 o7 (.lst [])=H8 at s8 g8 ⊢
   have XF:=s8 _ _ (s7 _ _ P4)
   rw[EN]at XF
   exact VP (d := .list []) (.lst (zU.of XF) .nil) (.lst (zU.of g8) .nil) (eT (m:=0) (fun z hz=>by cases hz) |>.le (by decide)) ⟨_,rfl,aI ⟨_,_,u7.trans s8,rfl⟩⟩
end K62
namespace L2
open PySem
theorem zP.exP {P:Program}{w:World}{K:Frag}{mg:Str->Option Value}{base:Heap}{CX:lJ}{k:Nat}{f:Addr}{fd:FuncData}{ps:List Str} {ι:Type} {p:ι->Prop} {sp:ι->Sp} (h:∀ i,p i->zP P w K mg base CX k f fd ps (sp i)) (h0:∀ i vs H Q E,sp i vs H Q E->vs.length=ps.length):zP P w K mg base CX k f fd ps (fun vs H Q E=>∃ i,p i/\sp i vs H Q E) :=
 ⟨fun vs H Q E zS=>by obtain⟨i,_,q⟩:=zS;exact h0 i vs H Q E q,fun A outer s H args us vs Q E hr he hb hv zS=>by obtain⟨i,hp,hs⟩:=zS;exact(h i hp).run A outer s H args us vs Q E hr he hb hv hs⟩
end L2
namespace K62
open PySem L2
variable {P:Program}{w:World}{K:Frag}{mg:Str->Option Value}{base:Heap}
theorem qb {H:Hp}{Tb:Addr}{ps:Array Value}{u:HO}(g:H Tb=some (.B4 ps)):Ap H (upd H Tb u):=fun b o e n=>by
 by_cases h:b=Tb
 ·subst h;rw[g]at e;cases e;exact n.elim
 ·rw[ae h];exact e
theorem AE.tb {K:Frag}{ys:Ys}{H:Hp}{a:YA}{s:YS}{Tb:Addr}{ps:Array Value}{u:HO}(g:H Tb=some (.B4 ps))(h:AE K ys H a s):AE K ys (upd H Tb u) a s:=by
 have k:=qb (u:=u) g
 have l:∀ b xs,H b=some (.lst xs)->upd H Tb u b=some (.lst xs):=fun b xs e=>by rw[ae (aR e g (by intro z;cases z))];exact e
 obtain⟨v1,a1,p1⟩:=h.AW
 obtain⟨v2,a2,p2⟩:=h.hle
 obtain⟨v3,a3,p3⟩:=h.Cu
 obtain⟨v4,a4,p4⟩:=h.Ci
 refine⟨k _ _ h.ins True.intro,?_,⟨v1,l _ _ a1,Paired.mono (fun v ln z=>?_) p1⟩,⟨v2,l _ _ a2,Paired.mono (fun v t z=>?_) p2⟩,⟨v3,l _ _ a3,Paired.mono (fun v q z=>z.keep k) p3⟩,⟨v4,l _ _ a4,Paired.mono (fun v m z=>z.keep k) p4⟩,h.ne,fun b hb=>let ⟨xs,e⟩:=h.hex b hb; ⟨xs,l _ _ e⟩⟩
 ·rcases h.J7 with (e | ⟨o,e⟩) | e
  ·exact .inl (.inl (k _ _ e True.intro))
  ·exact .inl (.inr ⟨o,k _ _ e True.intro⟩)
  ·exact .inr e
 ·obtain⟨x,dx,pa,Am,e,L,n⟩:=z
  exact⟨x,dx,pa,Am,e,⟨k _ _ L.ins True.intro,l _ _ L.lst,k.DD L.Bh⟩,n⟩
 ·obtain⟨x,dx,wa,e,h1,h2,n⟩:=z
  exact⟨x,dx,wa,e,k _ _ h1 True.intro,l _ _ h2,n⟩
theorem vm {K:Frag}{c:Cs}{TC:Addr}{J:TJ}{ys:Ys}{nr:Addr}{vs:List V}{H:Hp}{Q Q':VK}{E:XK}(h:lO K c TC J ys nr vs H Q E)(k:∀ v H',Q v H'->Q' v H'):lO K c TC J ys nr vs H Q' E:=by
 obtain⟨y,dy,tb,lx,Ao,lt,n,Aa,ps,wy,rv,Ae,h1,h2,h3,h4,h5,h6⟩:=h
 exact⟨y,dy,tb,lx,Ao,lt,n,Aa,ps,wy,rv,Ae,h1,h2,h3,h4,h5,fun o ro la le li dn H' a1 a2 a3 a4 a5 a6=>k _ _ (h6 o ro la le li dn H' a1 a2 a3 a4 a5 a6)⟩
theorem Fl.cnt {a:YA}{s s':YS}(h:Fl a s s'):s'.done.length + s.U.length=s.done.length + s'.U.length:=by
 induction h with
 | nil=>rfl
 | @snoc s x y l u h hl ih =>
  show(s.done ++ [_]).length + _=_ + (s.U ++ [(⟨x,y,l,u,0,[]⟩:aY)]).length
  rw[length_append,length_append,length_singleton,length_singleton];omega
noncomputable def pB (K:Frag)(Tb:Addr):Sp:=fun vs H Q _=>∃ (a:Addr)(ns:List Int),vs=[.ref a]/\zU K H a (ns.map V.int)/\ns.length <= 63/\H Tb=some (.B4 #[])/\∀ H',Q (.bl true) H'
noncomputable abbrev Tt:List Str:=["_law_script", "_law_table_here", "_law_lanes_here", "_law_yard", "_law_cells", "_law_asked", "_law_pick", "_law_made", "_law_total"]
structure XG (P:Program)(w:World)(K:Frag)(mg:Str->Option Value)(base:Heap)(c:Cs)(ts:Ts)(tn:nN)(ys:Ys)(nr:Addr)(fc fx ft N5 fy fb fp fm fd fr fo fi fe fl:Addr)(dc dx dt P5 dy db dp dm dd dr JG di de dl:FuncData):Prop where
 mc:mg "_law_cell_at" = some (.ref fc)
 kc:keepIn K (.ref fc)=true
 bc:Binds K dc ["_law_script", "_law_k"] []
 Gc:zP P w K mg base aB 1 fc dc ["_law_script", "_law_k"] (jj K)
 mx:mg "_law_mixed" = some (.ref fx)
 kx:keepIn K (.ref fx)=true
 bx:Binds K dx ["_law_cell", "_law_k"] []
 Gx:zP P w K mg base aB 1 fx dx ["_law_cell", "_law_k"] ji
 mt:mg "_law_table" = some (.ref ft)
 kt:keepIn K (.ref ft)=true
 bt:Binds K dt ["_law_script"] []
 Gt:zP P w K mg base aB 7 ft dt ["_law_script"] (sF P w K c ts tn)
 mro:mg "_law_rooms" = some (.ref N5)
 kro:keepIn K (.ref N5)=true
 bro:Binds K P5 ["_law_table_here", "_law_cell"] []
 Tu:∀ b,zP P w K mg base aB 2 N5 P5 ["_law_table_here", "_law_cell"] (lP c (TC ts tn b) (JJ P w ts tn b))
 my:mg "Yard" = some (.ref ys.zR)
 My:Mk K ys.zR fy
 Tv:Binds K dy ["self", "table", "rooms"] []
 Gy:∀ b ex,zP P w K mg base (dS P w) 4 fy dy ["self", "table", "rooms"] (lO K c (TC ts tn b) (JJ P w ts tn b) (yx ys ex) nr)
 mb:mg "_law_begins" = some (.ref fb)
 kb:keepIn K (.ref fb)=true
 bb:Binds K db ["_law_table_here"] []
 Gb:∀ b,zP P w K mg base aB 4 fb db ["_law_table_here"] (pF c (TC ts tn b) (JJ P w ts tn b))
 mp:mg "_law_posts" = some (.ref fp)
 kp:keepIn K (.ref fp)=true
 bp:Binds K dp ["_law_yard", "_law_begins_here", "_law_cells"] []
 Gp:∀ b ex,zP P w K mg base aB 5 fp dp ["_law_yard", "_law_begins_here", "_law_cells"] (se K c (TC ts tn b) (JJ P w ts tn b) (yx ys ex))
 mm:bu K ys.zR "moves" fm
 bm:Binds K dm ["self"] []
 Gm:∀ b ex,zP P w K mg base aB 7 fm dm ["self"] (kU K c (TC ts tn b) (JJ P w ts tn b) (yx ys ex))
 md:bu K ys.zR "do" fd
 bd:Binds K dd ["self", "move"] []
 Gd:∀ b ex,zP P w K mg base (dS P w) 8 fd dd ["self", "move"] (ya K c (TC ts tn b) (JJ P w ts tn b) (yx ys ex))
 mr:mg "run" = some (.ref fr)
 kr:keepIn K (.ref fr)=true
 br:Binds K dr ["yard", "pick", "most"] []
 mo:mg "most_moves" = some (.ref fo)
 ko:keepIn K (.ref fo)=true
 bo:Binds K JG ["yard"] []
 Go:∀ b ex,zP P w K mg base aB 2 fo JG ["yard"] (so K c (TC ts tn b) (JJ P w ts tn b) (yx ys ex))
 mi:mg "_law_lies" = some (.ref fi)
 ki:keepIn K (.ref fi)=true
 bi:Binds K di ["_law_yard", "_law_places"] []
 Gi:∀ ex,zP P w K mg base aB 2 fi di ["_law_yard", "_law_places"] (sE K (yx ys ex))
 me:bu K ys.zR "posted" fe
 be:Binds K de ["self"] []
 Ge:∀ ex,zP P w K mg base aB 1 fe de ["self"] (gB K (yx ys ex))
 ml:bu K ys.zR "letter_told" fl
 bl:Binds K dl ["self", "number"] []
 Gl:∀ ex,zP P w K mg base aB 1 fl dl ["self", "number"] (kW K (yx ys ex))
abbrev P1 (P:Program)(w:World)(K:Frag)(c:Cs)(ts:Ts)(tn:nN)(ys:Ys)(H:Hp)(sc:Addr):St->Hp->Prop:=fun σ Hc=>∃ (b:Bool)(Ce la:Addr)(a:YA)(ks rs:List Int),zO H Hc/\C8 K c (TC ts tn b) (JJ P w ts tn b) (yx ys [la]) Hc a (Y0 (rs.map V.int) a.n)/\AV a (Y0 (rs.map V.int) a.n)/\Hc la=some (.lst [])/\Hc Ce=some (.lst (ks.map V.int))/\(∀ z ∈ la :: a.four,H z=none)/\la ∉ a.four/\Ce ∉ la :: a.four/\ks.length <= 4/\(∀ r ∈ rs,1 <= r/\r <= 60)/\a.ps.length <= 8/\a.n <= 5 /\
 σ=[some (.ref sc),some (.ref a.tb),some (.int a.ps.length),some (.ref a.y),some (.ref Ce),some (.ref la),none,none,none]
theorem Cp:ao Tt ["_law_script"] (ah gG):=L2.Au
theorem N6:Bk Tt (ah gG) (wZ ((aF gG).getD 3 (.Pass ⟨0,0,0,0⟩))) ["_law_script"] [0]:=L2.Cg
theorem N7:Bk Tt (ah gG) (Nz ((aF gG).getD 9 (.Pass ⟨0,0,0,0⟩))) ["_law_yard"] [3]:=L2.Cg
theorem N8:(["_law_k", "_law_script"]:List Str).Nodup:=by decide +kernel
theorem N9:(["_law_number", "_law_yard"]:List Str).Nodup:=by decide +kernel
abbrev XH:List (Nat × Str):=[(0, "_law_script"),(5, "_law_asked")]
abbrev oh (P:Program)(w:World)(K:Frag)(c:Cs)(ts:Ts)(tn:nN)(ys:Ys)(pk:Addr)(AA:List V):Sp:=fun vs H Q E=>∃ i:(Bool × List Addr) × (Addr × Addr) × (List Int × Nat),AA=[.ref i.2.1.1, .ref i.2.1.2]/\kR K c (TC ts tn i.1.1) (JJ P w ts tn i.1.1) (yx ys i.1.2) pk i.2.1.2 (fun H=>zU K H i.2.1.1 (i.2.2.1.map V.int)) (XB i.2.2.2) vs H Q E
theorem qB {c:Cs}{TC:Addr}{J:TJ}{ys:Ys}{pk la:Addr}{S:Hp->Prop}{Ok:List V->Nat->Prop}{vs:List V}{H:Hp}{Q:VK}{E:XK}(h:kR K c TC J ys pk la S Ok vs H Q E):vs.length=3:=by
 obtain⟨_,_,_,_,rfl,_⟩:=h
 rfl
theorem zD {clos:List (Str × Addr)}{doc pm B0:Value}{c':Addr}:Binds K (PySem.W.fnX "_law_pick" "law.<locals>._law_pick" (aZ dL) (aF dL) (ah dL) clos .none .none doc pm none (.ref c') B0) ["_law_moves"] [] :=
 .all fun us hl=>by cases us with|nil=>cases hl|cons a t=>cases t with|nil=>rfl|cons=>cases hl
theorem yS {c:Cs}{ts:Ts}{tn:nN}{ys:Ys}{nr f cc Tb fc fx ft N5 fy fb fp fm fd fr fo fi fe fl:Addr}{fW:Bool->Addr}{dW:Bool->FuncData}{df dc dx dt P5 dy db dp dm dd dr JG di de dl:FuncData}(F:Al K "law" "law" gG f df)(B6:df.code = .ref cc)(NS:Fb mg base cc Tb)(T:eO mg)(L:kL K c)(Y:iD K ys)(W:∀ b,Wy K (TC ts tn b) (fW b) (dW b) (JJ P w ts tn b))
  (D:XG P w K mg base c ts tn ys nr fc fx ft N5 fy fb fp fm fd fr fo fi fe fl dc dx dt P5 dy db dp dm dd dr JG di de dl)
  (GcB:∀ zY,zP P w K mg zY aB 1 fc dc ["_law_script", "_law_k"] (jj K)) (GxB:∀ zY,zP P w K mg zY aB 1 fx dx ["_law_cell", "_law_k"] ji)
  (Gr:∀ (zY:Heap)(pk la:Addr)(dp:FuncData)(S:Hp->Prop)(Ok:List V->Nat->Prop),PySem.W.FnAt pk zY->Binds K dp ["_law_moves"] []->zP P w K mg zY aB 3 pk dp ["_law_moves"] (kS la S Ok)->∀ b ex,zP P w K mg zY aB 9 fr dr ["yard", "pick", "most"] (kR K c (TC ts tn b) (JJ P w ts tn b) (yx ys ex) pk la S Ok)):zP P w K mg base aB 10 f df ["_law_script"] (pB K Tb):=by
 refine F.okC Cp (fun vs H Q E h=>?_) (fun cdv A0 outer s H vs Q E XI hr h=>?_)
 ·obtain⟨a,ns,rfl,_⟩:=h
  rfl
 ·obtain⟨sc,ns,rfl,hS,hlen,Ek,q⟩:=h
  rw[B6]at XI
  have hu:=hr.units
  have AM:zZ 1 _:=hr.mono (by decide)
  have Be:zZ 2 _:=hr.mono (by decide)
  have CL:zZ 4 _:=hr.mono (by decide)
  have IT:zZ 5 _:=hr.mono (by decide)
  have Nu:zZ 7 _:=hr.mono (by decide)
  have GRo:=zP.ex D.Tu
  have GY:=zP.ex fun i:Bool × List Addr=>D.Gy i.1 i.2
  have GB:=zP.ex D.Gb
  have GP:=zP.ex fun i:Bool × List Addr=>D.Gp i.1 i.2
  have GM:=zP.ex fun i:Bool × List Addr=>D.Gm i.1 i.2
  have GO:=zP.ex fun i:Bool × List Addr=>D.Go i.1 i.2
  have GI:=zP.ex D.Gi
  have GE:=zP.ex D.Ge
  have GL:=zP.ex D.Gl
  have GR:∀ {clos:List (Str × Addr)}{pk c':Addr}{oc:Obj}{doc pm B0:Value}{AA:List V}{zY:Heap},zY.get? pk=some (PySem.W.fnMade "_law_pick" "law.<locals>._law_pick" (aZ dL) (aF dL) (ah dL) clos doc pm c' B0)->zY.get? c' = some oc->jL oc "law.<locals>._law_pick"->Ll zY clos SX AA->zP P w K mg zY aB 9 fr dr ["yard", "pick", "most"] (oh P w K c ts tn ys pk AA) :=
   fun {clos pk c' oc doc pm B0 AA zY} h1 h2 h3 h4=>zP.exP (fun i hi=>Gr zY pk i.2.1.2 _ _ _ ⟨_,_,_,_,h1⟩ zD (we (sc:=i.2.1.1) (ns:=i.2.2.1) (cap:=i.2.2.2) h1 h2 h3 (hi ▸ h4) T D.mc D.kc D.bc (GcB zY) D.mx D.kx D.bx (GxB zY)) i.1.1 i.1.2) fun i vs H Q E h=>qB h
  refine⟨_,tN 5 (af (aC (i:=1) Cp.nd rfl (Or.inl rfl) (au D.Gt Nu rfl D.mt D.kt D.bt .nil ap (aa (pv 0) ad)))
   (af (aC (i:=2) Cp.nd rfl (Or.inl rfl) (av aq rfl T.len PySem.boot_len (aa (al (al (pv 1) rfl) rfl) ad)))
   (af (aC (i:=3) Cp.nd rfl (Or.inr rfl) (ls (cY D.My GY IT rfl D.my D.Tv .nil im (aa (pv 1) (aa (au GRo Be rfl D.mro D.kro D.bro .nil ap (aa (pv 1) (aa (au D.Gc AM rfl D.mc D.kc D.bc .nil ap (aa (pv 0) (aa aj ad))) ad))) ad)))))
   (af (e8 (i:=4) (own:=["_law_k"]) (capN:=["_law_script"]) (cap:=[0]) N6 rfl Cp.nd rfl rfl (aL rfl T.range (aa (az bP aj (az bC (au D.Gc AM rfl D.mc D.kc D.bc .nil ap (aa (pv 0) (aa aj ad))) aj)) ad)) (fun C s' H' fp=>⟨ax (i:=0) N8 rfl (Or.inl rfl),ci,au D.Gx AM rfl D.mx D.kx D.bx .nil ap (aa (au D.Gc AM rfl D.mc D.kc D.bc .nil ap (aa (pv 1) (aa aj ad))) (aa (pv 0) ad))⟩))
   (ai (aC (i:=5) Cp.nd rfl (Or.inr rfl) (aV ad)))))))
   (vH (i:=6) (qual := "law.<locals>._law_pick") (clos:=[("_law_script",s.heap.objs.size + 1),("_law_asked",s.heap.objs.size + 1 + 1 + 1)]) NS Cp.nd rfl (Or.inl rfl) XI.symm rfl rfl rfl rfl rfl (fun pk c' oc doc pm B0 XJ =>
    (af (aM (au GP IT rfl D.mp D.kp D.bp .nil ap (aa (pv 3) (aa (au GB CL rfl D.mb D.kb D.bb .nil ap (aa (pv 1) ad)) (aa (gR iL (pv 4) lq (gQ aj)) ad)))))
    (af (aC (i:=7) Cp.nd rfl (Or.inl rfl) (m8 (cs:=XH) (sps:=oh P w K c ts tn ys pk) (fun AA zY B=>GR (B.pn _ (mem_cons_self ..)) (B.pn _ (mem_cons_of_mem _ (mem_cons_self ..))) XJ (B.cap rfl (forall_mem_cons.mpr ⟨rfl,forall_mem_cons.mpr ⟨rfl,fun _ h=>nomatch h⟩⟩))) (forall_mem_cons.mpr ⟨⟨rfl,rfl,rfl⟩,forall_mem_cons.mpr ⟨⟨rfl,rfl,rfl⟩,fun _ h=>nomatch h⟩⟩) hr rfl D.mr D.kr D.br .nil ap (aa (pv 3) (aa (pv 6) (aa (az bC (az dq (au D.Gc AM rfl D.mc D.kc D.bc .nil ap (aa (pv 0) (aa aj ad))) aj) aj) ad)))))
    (af (aM (au GP IT rfl D.mp D.kp D.bp .nil ap (aa (pv 3) (aa (au GB CL rfl D.mb D.kb D.bb .nil ap (aa (pv 1) ad)) (aa (gR iL (pv 4) (gQ aj) lq) ad)))))
    (af (aC (i:=8) Cp.nd rfl (Or.inl rfl) (av (nv rfl) rfl T.sum PyProof.Rows.boot_sum (aa (bv (own:=["_law_number"]) (capN:=["_law_yard"]) (cap:=[3]) N7 rfl (aL rfl T.range (aa (bA (pv 3) Y.cl D.me GE AM D.be .nil ap) ad)) (fun C s' H' fp=>⟨ax (i:=0) N9 rfl (Or.inl rfl),ci,ay (show nH _ (js K) from aE) (aD (pv 1) Y.cl D.ml GL AM D.bl .nil ap (aa (pv 0) ad)) aj (fun _ _=>rfl)⟩)) ad)))
    (af (aQ (aw jw (au GO Be rfl D.mo D.ko D.bo .nil ap (aa (pv 3) ad)) (az eZ (pv 8) (az bP (az eZ aj (pv 2)) aj)) (aA _)) (ai (ar jt)) aH)
    (af (aC (i:=7) Cp.nd rfl (Or.inl rfl) (az tY (pv 7) (m8 (cs:=XH) (sps:=oh P w K c ts tn ys pk) (fun AA zY B=>GR (B.pn _ (mem_cons_self ..)) (B.pn _ (mem_cons_of_mem _ (mem_cons_self ..))) XJ (B.cap rfl (forall_mem_cons.mpr ⟨rfl,forall_mem_cons.mpr ⟨rfl,fun _ h=>nomatch h⟩⟩))) (forall_mem_cons.mpr ⟨⟨rfl,rfl,rfl⟩,forall_mem_cons.mpr ⟨⟨rfl,rfl,rfl⟩,fun _ h=>nomatch h⟩⟩) hr rfl D.mr D.kr D.br .nil ap (aa (pv 3) (aa (pv 6) (aa (az dB (az bP (au GO Be rfl D.mo D.ko D.bo .nil ap (aa (pv 3) ad)) aj) (av aq rfl T.len PySem.boot_len (aa (pv 7) ad))) ad))))))
    (af (aQ (PW.pt (gL (aw tX (av aq rfl T.len PySem.boot_len (aa (pv 7) ad)) (au GO Be rfl D.mo D.ko D.bo .nil ap (aa (pv 3) ad)) (aA _)) (dZ (aw (jv hu) (bA (pv 3) Y.cl D.mm GM Nu D.bm .nil ap) (aV ad) (aA _))))) (ai (ar jt)) aH)
    (ai (ar (au GI Be rfl D.mi D.ki D.bi .nil ap (aa (pv 3) (aa (al (al (pv 1) rfl) rfl) ad)))))))))))))
   ),?_⟩
  refine⟨P1 P w K c ts tn ys H sc,?_,?_⟩
  ·refine⟨_,rfl,sc,ns,rfl,hS,fun b tb lx Ao lt n Aa ps wy H1 s1 R0 hT Dr zV Tw Eh IU=>?_⟩
   obtain⟨Ca,fst,BF,As,Bi⟩:=hT.i
   have JS:Aa.length=ps.length:=Paired.length hT.l.2.2
   refine⟨_,rfl,tb,TC ts tn b,Ca,fst,_,rfl,BF,(W b).cl,(W b).nl,As,lx,c.land,Ao,_,_,rfl,hT.l.1,L.cl,L.nl,rfl,lt,_,rfl, .inr (Ab.of hT.l.2.1),?_⟩
   rw[JS]
   refine⟨fun v H5=>∃ (H4:Hp)(rs:List Int),zO H1 H4/\rs.length=ps.length/\(∀ r ∈ rs,1 <= r/\r <= 60)/\Xr K c (TC ts tn b) (JJ P w ts tn b) ys [] H4 tb ps n wy rs v H5,?_,?_⟩
   ·refine⟨_,rfl,_,rfl,_,rfl,sc,ns,3,rfl,s1.seq hS,fun d3=>⟨b,⟨tb,tb,tb,tb,tb,tb,tb,tb,lx,Ao,lt,n,Aa,ps,wy⟩,d3,rfl,hT,fun Ro rs H4 s4 hRo gRo D5 EM=>?_⟩⟩
    have D5:rs.length=ps.length:=D5
    have Iu:=hT.keep (W b) (zO.Ah s4)
    exact fun y dy ny SK SM=>⟨(b,[]),vm (vn (P:=P) (w:=w) (ys:=ys) (ex:=[]) (nr:=nr) (W b) Iu Dr zV (zU.of gRo) D5 EM Tw (fun z hz=>by cases hz) y dy ny SK SM) fun v H5 h=>⟨h.1,H4,rs,s4,D5,EM,h.2⟩⟩
   rintro v H3 ⟨H2,rs,s2,D5,EM,a,rfl,e1,e2,e3,e4,s3,fr,hI,hJ⟩
   have XN:=s1.trans s2
   have Fj:=XN.trans s3
   have frH:∀ z ∈ a.four,H z=none:=fun z hz=>XN.free (fr z hz)
   refine⟨_,rfl,sc,ns,4,rfl,Fj.seq hS,fun d4=>⟨_,_,rfl,rfl,(by show (0:Int) < 4;decide),_,_,rfl,rfl,?_⟩⟩
   obtain⟨am,ham,ham5⟩:∃ am:Nat,(1:Int) + d4 % 4=(am:Int)/\am <= 4:=⟨(1 + d4 % 4).toNat,by omega,by omega⟩
   dsimp only
   rw[ham]
   refine⟨(am:Int),rfl,by omega,by omega,?_⟩
   rw[toNat_natCast]
   refine bH am (by rw[sizeLine_eq];omega) (fun i acc H'=>H' = H3/\∃ ks:List Int,acc=ks.map V.int/\ks.length=i) ⟨rfl,[],rfl,rfl⟩ (fun i acc H' h=>by obtain⟨_,ks,rfl,e⟩:=h;rw[length_map];omega) (fun i acc H' hi h=>?_) (fun acc H' h=>?_)
   ·obtain⟨rfl,ks,rfl,e⟩:=h
    refine⟨hi,fun v H2 y=>?_⟩
    obtain⟨rfl,rfl⟩:=y
    rw[zero_add]
    exact⟨_,rfl,sc,ns,4,rfl,Fj.seq hS,fun d5=>⟨_,rfl,d5,i,rfl,by omega,fun d hd=>⟨rfl,ks ++ [d],by rw[map_append];rfl,by rw[length_append,e];rfl⟩⟩⟩
   obtain⟨rfl,ks,rfl,BM⟩:=h
   refine⟨Nat.le_refl _,fun Ce XO=>?_⟩
   have s4:=(zO.refl H').new (o := .lst (ks.map V.int)) XO
   have Jc:(upd H' Ce (.lst (ks.map V.int))) Ce=some (.lst (ks.map V.int)):=ac
   have P6:Ce ∉ a.four:=fun z=>by obtain⟨xs,hx⟩:=hI.Y.Bx Ce z;rw[XO]at hx;cases hx
   show eK 4 (V.ref Ce) _ (upd H' Ce (.lst (ks.map V.int))) _
   generalize upd H' Ce (.lst (ks.map V.int))=H4 at s4 Jc ⊢
   have XQ:=Fj.trans s4
   have Tx:=hI.same (W b) s4
   refine⟨zero_le _,fun la AW=>?_⟩
   have s8:=(zO.refl H4).new (o := .lst []) AW
   have AJ:(upd H4 la (.lst [])) la=some (.lst []):=ac
   have nl0:la ∉ a.four:=fun z=>by obtain⟨xs,hx⟩:=Tx.Y.Bx la z;rw[AW]at hx;cases hx
   have nCl:Ce ≠ la:=ag Jc AW
   refine⟨b,Ce,la,a,ks,rs,XQ.trans s8,⟨AE.SJ (e:=[]) (by rw[e3];exact Tx.Y) s8 fun z hz=>?_,AS.keep (W b) Tx.T (zO.Ah s8),hI.O,by rw[e3];exact hI.G⟩,by rw[e3];exact hJ,AJ,s8 _ _ Jc,fun z hz=>?_,nl0,fun z=>?_,by omega,EM,by rw[e2];exact Tw,by rw[e3];exact IU,by rw[e1,e2];rfl⟩
   ·rw[mem_singleton.mp hz];exact .inr ⟨AW,_,AJ⟩
   ·rcases mem_cons.mp hz with rfl | hz
    ·exact XQ.free AW
    ·exact frH z hz
   ·rcases mem_cons.mp z with z | z
    ·exact nCl z
    ·exact P6 z
  ·rintro σ Hc ⟨b,Ce,la,a,ks,rs,NG,NJ,hJ0,AJ,Jc,DV,FQ,P6,hks,EM,Tw,IU,rfl⟩
   have HJ:=NG _ _ Ek
   refine⟨#[],HJ,True.intro,rfl,fun pk c' oc doc pm B0 Im hpk=>?_⟩
   have Di:C8 K c (TC ts tn b) (JJ P w ts tn b) (yx ys [la]) (upd Hc Tb (.B4 Im)) a (Y0 (rs.map V.int) a.n):=⟨AE.tb HJ NJ.Y,AS.keep (W b) NJ.T (qb HJ),NJ.O,NJ.G⟩
   have Ea:upd Hc Tb (.B4 Im) la=some (.lst []):=by rw[ae (aR AJ HJ (by intro z;cases z))];exact AJ
   have FR:upd Hc Tb (.B4 Im) Ce=some (.lst (ks.map V.int)):=by rw[ae (aR Jc HJ (by intro z;cases z))];exact Jc
   have DF:∀ H',zW (la :: a.four) (upd Hc Tb (.B4 Im)) H'->zU K H' sc (ns.map V.int):=fun H' o=>by
    rcases hS with (e | ⟨u,e⟩) | e
    ·exact .inl (.inl (o _ _ (fun z=>by rw[DV _ z]at e;cases e) (by rw[ae (aR (NG _ _ e) HJ (by intro z;cases z))];exact NG _ _ e)))
    ·exact .inl (.inr ⟨u,o _ _ (fun z=>by rw[DV _ z]at e;cases e) (by rw[ae (aR (NG _ _ e) HJ (by intro z;cases z))];exact NG _ _ e)⟩)
    ·exact .inr e
   generalize upd Hc Tb (.B4 Im)=Hd at Di Ea FR DF ⊢
   clear NJ AJ Jc HJ
   have four:∀ z ∈ la :: a.four,∃ xs,Hd z=some (.lst xs):=fun z hz=>by
    rcases mem_cons.mp hz with rfl | hz
    ·exact⟨_,Ea⟩
    ·exact Di.Y.Bx z hz
   have two:∀ z:Addr,z ∈ [a.le,a.dn]->z ∈ a.four:=fun z hz=>by simp only[mem_cons,not_mem_nil,or_false]at hz ⊢;rcases hz with rfl | rfl<;>simp
   have Jd:∀ z:Addr,z ∈ [a.le,a.dn]->z ∈ la :: a.four:=fun z hz=>mem_cons_of_mem _ (two z hz)
   have TT:∀ {H'},zW (la :: a.four) Hd H'->xc c (TC ts tn b) (JJ P w ts tn b) H' a:=fun o=>AS.keep (W b) Di.T (zW.Ah four o)
   have hC0:Dh a (Y0 (rs.map V.int) a.n) zr:=SS EM
   have MK:(ks.take 2).length <= 2:=length_take_le _ _
   refine⟨_,rfl,_,rfl,b,a,rfl,Di.T,fun Bg AZ bs H1 s1 hBg gBg Pz SU Pu=>⟨_,rfl,_,rfl,Ce,_,rfl,zU.of (s1 _ _ FR),fun o1 MZ=>?_⟩⟩
   rw[show hW (ks.map V.int) none (some (2:Int))=(ks.take 2).map V.int by rw[show (2:Int)=((2:Nat):Int) from rfl,wV,map_take]]
   have s2:=s1.new (o := .lst ((ks.take 2).map V.int)) MZ
   have u2:=(zO.refl H1).new (o := .lst ((ks.take 2).map V.int)) MZ
   have JP:(upd H1 o1 (.lst ((ks.take 2).map V.int))) o1=some (.lst ((ks.take 2).map V.int)):=ac
   generalize upd H1 o1 (.lst ((ks.take 2).map V.int))=H2 at s2 u2 JP ⊢
   have EO:∀ {z:Addr},Hd z=none->z ∉ la :: a.four:=fun hz hm=>by obtain⟨xs,hx⟩:=four _ hm;rw[hz]at hx;cases hx
   have n4:∀ {z:Addr},z ∉ la :: a.four->z ∉ a.four:=fun h z=>h (mem_cons_of_mem _ z)
   refine⟨(b,[la]),a,_,Bg,o1,AZ,bs,ks.take 2,rfl,zX.same Di.Y s2,TT (zO.Aq s2),hJ0,u2 _ _ gBg,Ak.same u2 Pz,SU,Pu,n4 (EO hBg),JP,n4 (EO (s1.free MZ)),by omega,by show 0 + _ <= 59;omega,by show 0 <= 9000;decide,fun H3 sA o3 B9 Tz T1 XR hA2=>?_⟩
   have XR:sA.U.length <= 0 + (ks.take 2).length:=XR
   have XS:=T1.cnt
   have XS:sA.done.length + 0=0 + sA.U.length:=XS
   have NK:zW (la :: a.four) Hd H3:=(zO.Aq s2).trans (o3.mono Jd)
   have gC3:=NK _ _ P6 FR
   have HH:H3 la=some (.lst []):=o3 _ _ (fun z=>FQ (two _ z)) (s2 _ _ Ea)
   obtain⟨NA,CA⟩:=hC0.Xv T1
   have hfA:=T1.AN (fun t ht=>by cases ht)
   have hIA:C8 K c (TC ts tn b) (JJ P w ts tn b) (yx ys [la]) H3 a sA:=⟨B9,TT NK,Di.O,Tz.ok⟩
   refine⟨[.ref sc, .ref la], .cons rfl (.cons rfl .nil),_,rfl,_,rfl,_,rfl,sc,ns,4,rfl,DF _ NK,fun d4=>⟨_,_,rfl,rfl,⟨by decide,by decide⟩,_,_,rfl,rfl,(by show (0:Int) < 20;decide),?_⟩⟩
   have z1:=emod_nonneg (d4 / 4) (show (20:Int) ≠ 0 by decide)
   have z2:=emod_lt_of_pos (d4 / 4) (show (0:Int) < 20 by decide)
   dsimp only
   generalize d4 / 4 % 20=m1 at z1 z2 ⊢
   refine⟨((b,[la]),(sc,la),(ns,20)),rfl,a,sA,m1,[],rfl,hIA,Tz,mem_cons_self,FQ,HH,⟨by show 0 + m1.toNat <= 20;omega,by show 20 <= 10000;decide⟩,by omega,by omega,fun H' o'=>DF H' (NK.trans o'),fun D1 Ed FU n1 sB H4 o4 Ht hJB hRB T2 JV NM ga4 T3 hle1 XT=>?_⟩
   have T4:=NK.trans o4
   have gC4:=T4 _ _ P6 FR
   obtain⟨⟨NB,CB⟩,_,hdB,hlB,hnB⟩:=CA.Xu hRB Tz
   have XU:D1 ∉ la :: a.four:=fun z=>by
    rcases mem_cons.mp z with z | z
    ·rw[z,HH]at T2;cases T2
    ·obtain⟨xs,hx⟩:=B9.Bx _ z;rw[T2]at hx;cases hx
   refine⟨_,rfl,_,rfl,b,a,rfl,TT T4,fun Bg2 T5 bs2 H5 s5 T6 T7 IY T8 T9=>⟨_,rfl,_,rfl,Ce,_,rfl,zU.of (s5 _ _ gC4),fun o2 Bu=>?_⟩⟩
   have TB:∃ k2:List Int,hW (ks.map V.int) (some (2:Int)) none=k2.map V.int/\k2.length <= 4:=by
    refine⟨ks.drop (HT.BY (ks.map V.int).length 0 (some (2:Int))),?_,by rw[length_drop];omega⟩
    unfold hW
    rw[List.map_drop,take_of_length_le]
    rw[length_drop]
    exact Nat.le_refl _
   obtain⟨k2,ek2,hk2l⟩:=TB
   rw[ek2]
   have s6:=s5.new (o := .lst (k2.map V.int)) Bu
   have u6:=(zO.refl H5).new (o := .lst (k2.map V.int)) Bu
   have go2:(upd H5 o2 (.lst (k2.map V.int))) o2=some (.lst (k2.map V.int)):=ac
   generalize upd H5 o2 (.lst (k2.map V.int))=H6 at s6 u6 go2 ⊢
   have XW:∀ {z:Addr},H4 z=none->z ∉ a.four:=fun hz hm=>by obtain⟨xs,hx⟩:=Ht.Bx _ hm;rw[hz]at hx;cases hx
   have XX:zW (la :: a.four) Hd H6:=T4.trans (zO.Aq s6)
   refine⟨(b,[la]),a,sB,Bg2,o2,T5,bs2,k2,rfl,zX.same Ht s6,TT XX,hJB,u6 _ _ T7,Ak.same u6 IY,T8,T9,XW T6,go2,XW (s5.free Bu),by omega,by omega,by omega,fun H7 sC o7 FP P7 TF hC1 hC2=>?_⟩
   have TH:zW (la :: a.four) Hd H7:=XX.trans (o7.mono Jd)
   have P2:H7 la=some (.lst FU):=o7 _ _ (fun z=>FQ (two _ z)) (s6 _ _ ga4)
   have Jb:H7 D1=some (.lst Ed):=o7 _ _ (fun z=>XU (Jd _ z)) (s6 _ _ JV)
   obtain⟨NC,CC⟩:=CB.Xv TF
   have VJ:=TF.cnt
   have hfC:=TF.AN (fun t ht=>by
    have:t.len ∈ sA.U.map (·.len):=hnB ▸ mem_map_of_mem ht
    obtain⟨t',IW,e⟩:=mem_map.mp this
    rw[← e];exact hfA t' IW)
   have hlC:sC.U.length <= 6:=by omega
   have hIC:C8 K c (TC ts tn b) (JJ P w ts tn b) (yx ys [la]) H7 a sC:=⟨FP,TT TH,Di.O,P7.ok⟩
   have hM:0 <= iH sC * ((2 * a.ps.length + 1:Nat):Int)/\iH sC * ((2 * a.ps.length + 1:Nat):Int) <= 1000:=by
    have hl:0 <= iH sC/\iH sC <= 4 * sC.U.length:=by
     have:∀ l:List aY,(∀ t ∈ l,0 <= t.len/\t.len <= 4)->0 <= (l.map (·.len)).sum/\(l.map (·.len)).sum <= 4 * l.length:=by
      intro l
      induction l with
      | nil=>intro _;exact⟨Int.le_refl _,Int.le_refl _⟩
      | cons t l ih =>
       intro h
       have h1:=ih fun t ht=>h t (mem_cons_of_mem _ ht)
       have h2:=h t mem_cons_self
       rw[map_cons,sum_cons,length_cons]
       exact⟨by omega,by omega⟩
     exact this _ hfC
    obtain⟨x,hx⟩:∃ x:Nat,iH sC=(x:Int):=⟨(iH sC).toNat,by omega⟩
    have TK:x <= 24:=by omega
    rw[hx]
    have h1:x * (2 * a.ps.length + 1) <= 24 * 17:=Nat.mul_le_mul TK (by omega)
    have h2:((x:Int) * ((2 * a.ps.length + 1:Nat):Int))=((x * (2 * a.ps.length + 1):Nat):Int):=(Int.natCast_mul _ _).symm
    rw[h2]
    exact⟨by omega,by omega⟩
   have NN:=CC.most P7
   refine⟨_,rfl,a.y,a.dy,_,rfl,FP.ins,rfl,[la],a.y,a.dy,a.tb,a.ro,a.la,a.le,a.li,a.dn,sC,rfl,FP,(sC.U.length:Int),rfl,by omega,by omega,?_⟩
   rw[toNat_natCast]
   refine nj (R:=fun _ (v:V) (t:aY)=>v = .int t.len) (fun _ v t h=>h) sC.U (by rw[sizeLine_eq];omega) (fun i t H1 N ht s1 hN=>?_) (fun Dt vs H8 s8 hDt pDt=>?_)
   ·have Bs:=zX.same FP s1
    exact⟨_,rfl,a.y,a.dy,_,rfl,Bs.ins,rfl,_,rfl,[la],a.y,a.dy,a.tb,a.ro,a.la,a.le,a.li,a.dn,sC,i,t,rfl,Bs,ht,fun tp H2 s2 N3=>⟨tp,_,2,_,rfl,rfl,Ab.of N3,ak (j:=2) rfl,hN _ H2 s2 rfl⟩⟩
   have s9:=s8.new (o := .lst vs) hDt
   have TL:(upd H8 Dt (.lst vs)) Dt=some (.lst vs):=ac
   generalize upd H8 Dt (.lst vs)=H9 at s9 TL ⊢
   rw[l9 (H:=H) pDt]at TL
   refine⟨Dt,_,rfl,zU.of TL,?_⟩
   have XY:=hIC.same (W b) s9
   refine⟨_,rfl,(b,[la]),a,sC,rfl,XY,by omega,fun Ha sa=>?_⟩
   refine⟨_,rfl,_,rfl,_,_,rfl,rfl, .inl ⟨by decide,by decide⟩,_,_,rfl,rfl,_,_,rfl,rfl, .inr ⟨by show -(2 ^ 64) < 2 * ((a.ps.length:Nat):Int) + 1;omega,by show 2 * ((a.ps.length:Nat):Int) + 1 < 2 ^ 64;omega⟩,rfl,_,rfl,?_⟩
   refine K7 (by show V.int (iH sC * ((2 * a.ps.length + 1:Nat):Int))=V.int ((sC.U.map (·.len)).sum * (2 * ((a.ps.length:Nat):Int) + 1));rw[show(2 * ((a.ps.length:Nat):Int) + 1)=((2 * a.ps.length + 1:Nat):Int) by omega];rfl) ?_
   have TM:=s9.trans sa
   have oda:zW (la :: a.four) Hd Ha:=TH.trans (zO.Aq TM)
   have JH:=XY.same (W b) sa
   refine⟨_,rfl,[.ref sc, .ref la], .cons rfl (.cons rfl .nil),_,rfl,_,rfl,_,rfl,(b,[la]),a,sC,rfl,JH,by omega,fun Hb sb=>⟨_,_,rfl,rfl,_,rfl,D1,_,rfl, .inl (zU.of (sb _ _ (TM _ _ Jb))),_,_,rfl,rfl,?_⟩⟩
   dsimp only
   rw[NM]
   have TN:=TM.trans sb
   have XZ:zW (la :: a.four) Hd Hb:=TH.trans (zO.Aq TN)
   obtain⟨M,Ya⟩:∃ M,iH sC * ((2 * a.ps.length + 1:Nat):Int)=M:=⟨_,rfl⟩
   rw[Ya]at hM NN ⊢
   have hIb:=JH.same (W b) sb
   have Tn:FU.length + (m1.toNat - n1) <= 20:=T3.1
   refine⟨((b,[la]),(sc,la),(ns,1100)),rfl,a,sC,M + 1 - (n1:Int),FU,rfl,hIb,P7,mem_cons_self,FQ,TN _ _ P2,⟨by show FU.length + (M + 1 - (n1:Int)).toNat <= 1100;omega,by show 1100 <= 10000;decide⟩,by omega,by omega,fun H' o'=>DF H' (XZ.trans o'),fun D2 ES avs2 n2 sD He oe hYe TQ hRD BU gD2 TU gae hOk2 hle2 NO=>?_⟩
   have ode:=XZ.trans oe
   obtain⟨⟨ND,CD⟩,_,Js,hlD,hnD⟩:=CC.Xu hRD P7
   have eM:iH sD * ((2 * a.ps.length + 1:Nat):Int)=M:=by
    rw[← Ya]
    show(sD.U.map (·.len)).sum * _=(sC.U.map (·.len)).sum * _
    rw[hnD]
   have NP:=CD.most TQ
   rw[eM]at NP
   have LQ:(n1:Int) + n2 <= M:=by omega
   have Ja:cj a sD=[]:=NO (by omega)
   refine⟨D1,D2,Ed,ES,rfl,rfl,oe _ _ XU (TN _ _ Jb),gD2,by rw[sizeLine_eq];omega,fun p hp=>?_⟩
   have sf:=(zO.refl He).new (o := .lst (Ed ++ ES)) hp
   have gp:(upd He p (.lst (Ed ++ ES))) p=some (.lst (Ed ++ ES)):=ac
   generalize upd He p (.lst (Ed ++ ES))=Hf at sf gp ⊢
   have Yb:C8 K c (TC ts tn b) (JJ P w ts tn b) (yx ys [la]) Hf a sD:=⟨zX.same hYe sf,TT (ode.trans (zO.Aq sf)),Di.O,TQ.ok⟩
   refine⟨_,rfl,p,_,rfl, .inl (zU.of gp),_,rfl,(b,[la]),a,sD,rfl,Yb,by omega,fun Hg sg=>⟨_,_,rfl,rfl,_,rfl,?_⟩⟩
   rw[decide_eq_false (by rw[eM,length_append,NM,TU];omega)]
   have TV:=Yb.same (W b) sg
   refine aI ⟨_,rfl,a.y,a.dy,_,rfl,TV.Y.ins,rfl,(b,[la]),a,sD,rfl,TV,fun Mm Aj Hh sh hMm Yc pMm=>⟨zero_le _,fun o8 TY=>?_⟩⟩
   have si:=sh.new (o := .lst []) TY
   have g8:(upd Hh o8 (.lst [])) o8=some (.lst []):=ac
   have Ye:(upd Hh o8 (.lst [])) Mm=some (.lst Aj):=by rw[ae (ag Yc TY)];exact Yc
   have Yf:=Paired.mono (fun _ _ z=>Bw.keep (zO.Ah ((zO.refl Hh).new (o := .lst []) TY)) z) pMm
   generalize upd Hh o8 (.lst [])=Hi at si g8 Ye Yf ⊢
   refine neN (f:=vf) (l:=cj a sD) (.lst (zU.of Ye) (lF Yf)) (.lst (zU.of g8) .nil) (vx _) ⟨_,rfl,?_⟩
   rw[Ja]
   have TZ:=TV.same (W b) si
   obtain⟨Ca,fst,BF,As,Bi⟩:=TZ.T.i
   exact aI ⟨_,rfl,_,rfl,a.tb,TC ts tn b,Ca,fst,_,rfl,BF,(W b).cl,(W b).nl,As,a.lx,c.land,a.Ao,_,_,rfl,TZ.T.l.1,L.cl,L.np,rfl,[la],a,sD,ND,rfl,TZ.Y,TQ,CD.G,by omega,q⟩
theorem len_of1 {α:Type}{P:List α->Prop}(h:∀ a0,P [a0]):∀ us:List α,us.length=1->P us
 | [a0],_=>h a0
theorem len_of2 {α:Type}{P:List α->Prop}(h:∀ a0 a1,P [a0,a1]):∀ us:List α,us.length=2->P us
 | [a0,a1],_=>h a0 a1
theorem len_of3 {α:Type}{P:List α->Prop}(h:∀ a0 a1 a2,P [a0,a1,a2]):∀ us:List α,us.length=3->P us
 | [a0,a1,a2],_=>h a0 a1 a2
theorem len_of4 {α:Type}{P:List α->Prop}(h:∀ a0 a1 a2 a3,P [a0,a1,a2,a3]):∀ us:List α,us.length=4->P us
 | [a0,a1,a2,a3],_=>h a0 a1 a2 a3
theorem len_of5 {α:Type}{P:List α->Prop}(h:∀ a0 a1 a2 a3 a4,P [a0,a1,a2,a3,a4]):∀ us:List α,us.length=5->P us
 | [a0,a1,a2,a3,a4],_=>h a0 a1 a2 a3 a4
structure FT (K:Frag)(mg:Str->Option Value)(n:Str)(st:Stmt)(ps:List Str)(f:Addr)(fd:FuncData):Prop where
 F:Al K n n st f fd
 m:mg n=some (.ref f)
 k:keepIn K (.ref f)=true
 b:Binds K fd ps []
structure FM (K:Frag)(C:Addr)(n q:Str)(st:Stmt)(ps:List Str)(f:Addr)(fd:FuncData):Prop where
 F:Al K n q st f fd
 m:bu K C n f
 b:Binds K fd ps []
section
variable {K:Frag}{mg:Str->Option Value}{C f:Addr}{n q:Str}{st:Stmt}{ps:List Str}{h:Heap}{oc:Value}{od an:Option Addr}{CJ:Array (Option Value)}{kV doc pm cdv ct:Value}
theorem mkT (X:K.In h)(G:h.Ns mainGlobals mg)(hb:∀ (kV doc pm:Value) (an:Option Addr) (cdv ct:Value) (us:List Value),us.length=ps.length->bindArgs (fnOf n n (aZ st) (aF st) (ah st) .none kV doc pm an cdv ct) ⟨us,[]⟩ = pure (ps.zip us))
  (a:nsIn K mainGlobals n=some (some (.ref f))) (l:K.lookup f=some ⟨oc,od, .func (fnOf n n (aZ st) (aF st) (ah st) .none kV doc pm an cdv ct),CJ⟩) (c:codeIn K cdv n=true) (k:keepIn K (.ref f)=true):∃ fd,FT K mg n st ps f fd :=
 ⟨_,j7 l c k,mg_of X G a,k,(j7 l c k).binds hb⟩
theorem mkM (hb:∀ (kV doc pm:Value) (an:Option Addr) (cdv ct:Value) (us:List Value),us.length=ps.length->bindArgs (fnOf n q (aZ st) (aF st) (ah st) .none kV doc pm an cdv ct) ⟨us,[]⟩ = pure (ps.zip us))
  (a:findIn K (.ref C) n=some (some (.ref f))) (l:K.lookup f=some ⟨oc,od, .func (fnOf n q (aZ st) (aF st) (ah st) .none kV doc pm an cdv ct),CJ⟩) (c:codeIn K cdv q=true) (k:keepIn K (.ref f)=true) (i:isFn K (.ref f)=true):∃ fd,FM K C n q st ps f fd :=
 ⟨_,j7 l c k,⟨a,i,k⟩,(j7 l c k).binds hb⟩
end
section
variable {l:PySem.W.OpenLaw}{w:World}{K:Frag}{h:Heap}{mg:Str->Option Value}{fa cL cN cT cR cE cB cD cO cM cP cG cW cZ cF cQ cA cH cJ f1 f2 f3 f4 f5 f6 f7 f8 f9 Yg OD Yh Yi Yj Yk Yl Ua Ub Ym Yn Uc Ud Ue Ug Uh Ui Uj Yo P8 Uk Ul Um Uo Up Uq NQ Ur f38 Us f40 Ut Yp Uu Yq Uv Uw Yr Ux Yt HK JX Uy Uz U0 U1 U2 Yu U3 U4 U5 U6 U7 U8 U9 UA Yv UB:Addr}{t1 t2 t3 t4 t5:Tok}
theorem both {α β:Type}{P:Bool->α->β->Prop}{a1 a2:α}{b1 b2:β}(h1:P true a1 b1)(h2:P false a2 b2):∃ (f:Bool->α)(g:Bool->β),∀ b,P b (f b) (g b):=⟨fun b=>cond b a1 a2,fun b=>cond b b1 b2,fun b=>by cases b<;>assumption⟩
theorem all_mk (X:K.In h)(G:h.Ns mainGlobals mg)(DK:mg "law" = some (.ref fa))
  {UC NR UD NU UE NV:Option Addr} {UG UH UI:Array (Option Value)} {UJ NW NX NY FV NZ UK Oa Ob Oc Je Od UL Oe Of Og Jf Oh oTb:Value} {cc Tb:Addr} {dTb:Option Addr} {Yw:Array Value} {sTb:Array (Option Value)}
  {Oi Oj:Addr} {UM UN:Value} {UO UP:Option Addr} {UQ UR:Nat} {US:Tok}  {UT UU:Array (Option Value)}
  (gcL:nsIn K mainGlobals "Land" = some (some (.ref cL)))
  (gcN:nsIn K mainGlobals "NoPlaces" = some (some (.ref cN)))
  (gcT:nsIn K mainGlobals "TooMany" = some (some (.ref cT)))
  (gcR:nsIn K mainGlobals "NoRoad" = some (some (.ref cR)))
  (gcE:nsIn K mainGlobals "NoEntry" = some (some (.ref cE)))
  (gcB:nsIn K mainGlobals "Table" = some (some (.ref cB)))
  (gcD:nsIn K mainGlobals "Told" = some (some (.ref cD)))
  (gcO:nsIn K mainGlobals "Nearer" = some (some (.ref cO)))
  (gcM:nsIn K mainGlobals "NoRooms" = some (some (.ref cM)))
  (gcP:nsIn K mainGlobals "NoPlace" = some (some (.ref cP)))
  (gcG:nsIn K mainGlobals "NoLength" = some (some (.ref cG)))
  (gcW:nsIn K mainGlobals "NoWord" = some (some (.ref cW)))
  (gcZ:nsIn K mainGlobals "NoWay" = some (some (.ref cZ)))
  (gcF:nsIn K mainGlobals "Full" = some (some (.ref cF)))
  (gcQ:nsIn K mainGlobals "NoMove" = some (some (.ref cQ)))
  (gcA:nsIn K mainGlobals "Lane" = some (some (.ref cA)))
  (gcH:nsIn K mainGlobals "Letter" = some (some (.ref cH)))
  (gcJ:nsIn K mainGlobals "Yard" = some (some (.ref cJ)))
  (h1:∃ d,FT K mg "run" yl ["yard", "pick", "most"] f1 d)
  (h2:∃ d,FT K mg "most_moves" lU ["yard"] f2 d)
  (h3:∃ d,FT K mg "has" vA ["some", "number"] f3 d)
  (h4:∃ d,FT K mg "members" sY ["some"] f4 d)
  (h5:∃ d,FT K mg "set_of" yk ["numbers"] f5 d)
  (h6:∃ d,FT K mg "is_whole" gc ["value"] f6 d)
  (h7:∃ d,FT K mg "is_within" iN ["value", "least", "most"] f7 d)
  (h8:∃ d,FT K mg "is_one_of" yn ["value", "numbers"] f8 d)
  (h9:∃ d,FT K mg "are_two_places" yi ["places", "one", "other"] f9 d)
  (h10:∃ d,FT K mg "row_fits" lZ ["land", "row"] Yg d)
  (h11:∃ d,FT K mg "onward" Rf ["table", "lane", "goal"] OD d)
  (h12:∃ d,FT K mg "rooms_of" ge ["land", "rooms"] Yh d)
  (h13:∃ d,FT K mg "is_word" sO ["word"] Yi d)
  (h14:∃ d,FT K mg "is_move" lW ["move"] Yj d)
  (h15:∃ d,FT K mg "how_far" yt ["land", "goal"] Yk d)
  (h16:∃ d,FT K mg "nearer_lanes" Lq ["land", "far", "place"] Yl d)
  (h17:∃ d,FT K mg "_law_cell_at" tD ["_law_script", "_law_k"] Ua d)
  (h18:∃ d,FT K mg "_law_mixed" yo ["_law_cell", "_law_k"] Ub d)
  (h19:∃ d,FT K mg "_law_lanes" oA ["_law_places", "_law_amount", "_law_cell"] Ym d)
  (h20:∃ d,FT K mg "_law_rows" jn ["_law_places", "_law_lanes_here", "_law_cell"] Yn d)
  (h21:∃ d,FT K mg "_law_table" t7 ["_law_script"] Uc d)
  (h22:∃ d,FT K mg "_law_begins" oF ["_law_table_here"] Ud d)
  (h23:∃ d,FT K mg "_law_rooms" gH ["_law_table_here", "_law_cell"] Ue d)
  (h24:∃ d,FT K mg "_law_posts" lg ["_law_yard", "_law_begins_here", "_law_cells"] Ug d)
  (h25:∃ d,FT K mg "_law_lies" lV ["_law_yard", "_law_places"] Uh d)
  (a26:nsIn K mainGlobals "law" = some (some (.ref Ui)))
  (l26:K.lookup Ui=some ⟨UJ,UC, .func (fnOf "law" "law" (aZ gG) (aF gG) (ah gG) .none NW NX NY NR FV NZ),UG⟩)
  (c26:codeIn K FV "law" = true)
  (k26:keepIn K (.ref Ui)=true)
  (h27:∃ d,FM K cL "__init__" "Land.__init__" lY ["self", "places", "lanes"] Uj d)
  (h28:∃ d,FM K cL "start_of" "Land.start_of" ow ["self", "lane"] Yo d)
  (h29:∃ d,FM K cL "end_of" "Land.end_of" yy ["self", "lane"] P8 d)
  (h30:∃ d,FM K cL "out_of" "Land.out_of" sV ["self", "place"] Uk d)
  (h31:∃ d,FM K cL "into" "Land.into" lX ["self", "place"] Ul d)
  (h32:∃ d,FM K cT "__init__" "TooMany.__init__" OO ["self", "many"] Um d)
  (h33:∃ d,FM K cR "__init__" "NoRoad.__init__" OP ["self", "lane"] Uo d)
  (h34:∃ d,FM K cE "__init__" "NoEntry.__init__" OQ ["self", "row"] Up d)
  (h35:∃ d,FM K cZ "__init__" "NoWay.__init__" v9 ["self", "start", "goal"] Uq d)
  (h36:∃ d,FM K cB "__init__" "Table.__init__" yj ["self", "land"] NQ d)
  (h37:∃ d,FM K cD "__init__" "Told.__init__" sQ ["self", "land", "rows"] Ur d)
  (h38:∃ d,FM K cD "ways" "Told.ways" ou ["self", "place", "goal", "came"] f38 d)
  (h39:∃ d,FM K cO "__init__" "Nearer.__init__" sX ["self", "land"] Us d)
  (h40:∃ d,FM K cO "ways" "Nearer.ways" sP ["self", "place", "goal", "came"] f40 d)
  (h41:∃ d,FM K cA "__init__" "Lane.__init__" yq ["self", "room"] Ut d)
  (h42:∃ d,FM K cA "open_to" "Lane.open_to" sW ["self", "letter", "count"] Yp d)
  (h43:∃ d,FM K cA "put" "Lane.put" ym ["self", "letter", "count", "last"] Uu d)
  (h44:∃ d,FM K cA "front" "Lane.front" oB ["self"] Yq d)
  (h45:∃ d,FM K cA "pull" "Lane.pull" sR ["self"] Uv d)
  (h46:∃ d,FM K cA "bring" "Lane.bring" oE ["self"] Uw d)
  (h47:∃ d,FM K cA "twin" "Lane.twin" yp ["self"] Yr d)
  (h48:∃ d,FM K cH "__init__" "Letter.__init__" tw ["self", "start", "goal", "length", "word"] Ux d)
  (h49:∃ d,FM K cH "twin" "Letter.twin" tj ["self"] Yt d)
  (a50:findIn K (.ref cJ) "__init__" = some (some (.ref HK)))
  (l50:K.lookup HK=some ⟨UK,UD, .func (fnOf "__init__" "Yard.__init__" (aZ ij) (aF ij) (ah ij) (.ref Oi) Oa Ob Oc NU Je Od),UH⟩)
  (d50:K.lookup Oi=some ⟨UM,UO, .seq #[Value.none] UQ,UT⟩)
  (c50:codeIn K Je "Yard.__init__" = true)
  (k50:keepIn K (.ref HK)=true)
  (i50:isFn K (.ref HK)=true)
  (a51:findIn K (.ref cJ) "post" = some (some (.ref JX)))
  (l51:K.lookup JX=some ⟨UL,UE, .func (fnOf "post" "Yard.post" (aZ gF) (aF gF) (ah gF) (.ref Oj) Oe Of Og NV Jf Oh),UI⟩)
  (d51:K.lookup Oj=some ⟨UN,UP, .seq #[Value.int 0 US] UR,UU⟩)
  (c51:codeIn K Jf "Yard.post" = true)
  (k51:keepIn K (.ref JX)=true)
  (i51:isFn K (.ref JX)=true)
  (h52:∃ d,FM K cJ "moves" "Yard.moves" oz ["self"] Uy d)
  (h53:∃ d,FM K cJ "moves_in" "Yard.moves_in" lT ["self", "number"] Uz d)
  (h54:∃ d,FM K cJ "moves_on" "Yard.moves_on" lS ["self", "lane"] U0 d)
  (h55:∃ d,FM K cJ "moves_lie" "Yard.moves_lie" oy ["self", "lane"] U1 d)
  (h56:∃ d,FM K cJ "moves_back" "Yard.moves_back" lf ["self", "lane"] U2 d)
  (h57:∃ d,FM K cJ "wanted" "Yard.wanted" gE ["self", "lane"] Yu d)
  (h58:∃ d,FM K cJ "moves_like" "Yard.moves_like" sZ ["self", "move"] U3 d)
  (h59:∃ d,FM K cJ "do" "Yard.do" Rg ["self", "move"] U4 d)
  (h60:∃ d,FM K cJ "go_in" "Yard.go_in" t8 ["self", "number", "lane"] U5 d)
  (h61:∃ d,FM K cJ "enter" "Yard.enter" oC ["self", "piece", "lane"] U6 d)
  (h62:∃ d,FM K cJ "lay" "Yard.lay" yr ["self", "piece", "place"] U7 d)
  (h63:∃ d,FM K cJ "own_lane" "Yard.own_lane" sU ["self", "lane"] U8 d)
  (h64:∃ d,FM K cJ "own_letter" "Yard.own_letter" sS ["self", "number"] U9 d)
  (h65:∃ d,FM K cJ "letter_told" "Yard.letter_told" tu ["self", "number"] UA d)
  (h66:∃ d,FM K cJ "lying" "Yard.lying" o0 ["self", "place"] Yv d)
  (h67:∃ d,FM K cJ "posted" "Yard.posted" ld ["self"] UB d)
  (mp:nsIn K mainGlobals "MOST_PLACES" = some (some (.int 12 t1)))
  (ml:nsIn K mainGlobals "MOST_LANES" = some (some (.int 40 t2)))
  (mr:nsIn K mainGlobals "MOST_ROOM" = some (some (.int 60 t3)))
  (mh:nsIn K mainGlobals "MOST_LENGTH" = some (some (.int 60 t4)))
  (mk:nsIn K mainGlobals "MOST_LETTERS" = some (some (.int 60 t5)))
  (p1cL:plainGet K cL Str.empty=true)
  (p2cL:hasDictIn K cL=true)
  (p3cL:plainOver K cL=true)
  (p4cL:findIn K (.ref cL) "__setattr__" = some (some (.builtin "object.__setattr__")))
  (p5cL:makesIn K cL=true)
  (p6cL:keepIn K (.ref cL)=true)
  (ncLplaces:findIn K (.ref cL) "places" = some none)
  (ncLlanes:findIn K (.ref cL) "lanes" = some none)
  (p1cB:plainGet K cB Str.empty=true)
  (p2cB:hasDictIn K cB=true)
  (p3cB:plainOver K cB=true)
  (p4cB:findIn K (.ref cB) "__setattr__" = some (some (.builtin "object.__setattr__")))
  (p5cB:makesIn K cB=true)
  (p6cB:keepIn K (.ref cB)=true)
  (ncBland:findIn K (.ref cB) "land" = some none)
  (p1cD:plainGet K cD Str.empty=true)
  (p2cD:hasDictIn K cD=true)
  (p3cD:plainOver K cD=true)
  (p4cD:findIn K (.ref cD) "__setattr__" = some (some (.builtin "object.__setattr__")))
  (p5cD:makesIn K cD=true)
  (p6cD:keepIn K (.ref cD)=true)
  (ncDland:findIn K (.ref cD) "land" = some none)
  (ncDentries:findIn K (.ref cD) "entries" = some none)
  (p1cO:plainGet K cO Str.empty=true)
  (p2cO:hasDictIn K cO=true)
  (p3cO:plainOver K cO=true)
  (p4cO:findIn K (.ref cO) "__setattr__" = some (some (.builtin "object.__setattr__")))
  (p5cO:makesIn K cO=true)
  (p6cO:keepIn K (.ref cO)=true)
  (ncOland:findIn K (.ref cO) "land" = some none)
  (ncOentries:findIn K (.ref cO) "entries" = some none)
  (p1cA:plainGet K cA Str.empty=true)
  (p2cA:hasDictIn K cA=true)
  (p3cA:plainOver K cA=true)
  (p4cA:findIn K (.ref cA) "__setattr__" = some (some (.builtin "object.__setattr__")))
  (p5cA:makesIn K cA=true)
  (p6cA:keepIn K (.ref cA)=true)
  (ncArights:findIn K (.ref cA) "rights" = some none)
  (ncAreturning:findIn K (.ref cA) "returning" = some none)
  (ncAholder:findIn K (.ref cA) "holder" = some none)
  (ncApieces:findIn K (.ref cA) "pieces" = some none)
  (p1cH:plainGet K cH Str.empty=true)
  (p2cH:hasDictIn K cH=true)
  (p3cH:plainOver K cH=true)
  (p4cH:findIn K (.ref cH) "__setattr__" = some (some (.builtin "object.__setattr__")))
  (p5cH:makesIn K cH=true)
  (p6cH:keepIn K (.ref cH)=true)
  (ncHstart:findIn K (.ref cH) "start" = some none)
  (ncHgoal:findIn K (.ref cH) "goal" = some none)
  (ncHlength:findIn K (.ref cH) "length" = some none)
  (ncHword:findIn K (.ref cH) "word" = some none)
  (ncHgone:findIn K (.ref cH) "gone" = some none)
  (ncHway:findIn K (.ref cH) "way" = some none)
  (p1cJ:plainGet K cJ Str.empty=true)
  (p2cJ:hasDictIn K cJ=true)
  (p3cJ:plainOver K cJ=true)
  (p4cJ:findIn K (.ref cJ) "__setattr__" = some (some (.builtin "object.__setattr__")))
  (p5cJ:makesIn K cJ=true)
  (p6cJ:keepIn K (.ref cJ)=true)
  (ncJtable:findIn K (.ref cJ) "table" = some none)
  (ncJrooms:findIn K (.ref cJ) "rooms" = some none)
  (ncJlanes:findIn K (.ref cJ) "lanes" = some none)
  (ncJletters:findIn K (.ref cJ) "letters" = some none)
  (ncJlies:findIn K (.ref cJ) "lies" = some none)
  (ncJdone:findIn K (.ref cJ) "done" = some none)
  (x1cN:bq K cN none=true)
  (x2cN:keepIn K (.ref cN)=true)
  (x1cT:bq K cT (some (.ref Um))=true)
  (x2cT:keepIn K (.ref cT)=true)
  (x3cT:i4 K cT=true)
  (x4cT:hasDictIn K cT=true)
  (x5cT:findIn K (.ref cT) "__setattr__" = some (some (.builtin "object.__setattr__")))
  (x6cT:findIn K (.ref cT) "__getattribute__" = some (some (.builtin "BaseException.__getattribute__")))
  (x7cT:findIn K (.ref cT) "__getattr__" = some none)
  (ncTmany:findIn K (.ref cT) "many" = some none)
  (x1cR:bq K cR (some (.ref Uo))=true)
  (x2cR:keepIn K (.ref cR)=true)
  (x3cR:i4 K cR=true)
  (x4cR:hasDictIn K cR=true)
  (x5cR:findIn K (.ref cR) "__setattr__" = some (some (.builtin "object.__setattr__")))
  (x6cR:findIn K (.ref cR) "__getattribute__" = some (some (.builtin "BaseException.__getattribute__")))
  (x7cR:findIn K (.ref cR) "__getattr__" = some none)
  (ncRlane:findIn K (.ref cR) "lane" = some none)
  (x1cE:bq K cE (some (.ref Up))=true)
  (x2cE:keepIn K (.ref cE)=true)
  (x3cE:i4 K cE=true)
  (x4cE:hasDictIn K cE=true)
  (x5cE:findIn K (.ref cE) "__setattr__" = some (some (.builtin "object.__setattr__")))
  (x6cE:findIn K (.ref cE) "__getattribute__" = some (some (.builtin "BaseException.__getattribute__")))
  (x7cE:findIn K (.ref cE) "__getattr__" = some none)
  (ncErow:findIn K (.ref cE) "row" = some none)
  (x1cM:bq K cM none=true)
  (x2cM:keepIn K (.ref cM)=true)
  (x1cP:bq K cP none=true)
  (x2cP:keepIn K (.ref cP)=true)
  (x1cG:bq K cG none=true)
  (x2cG:keepIn K (.ref cG)=true)
  (x1cW:bq K cW none=true)
  (x2cW:keepIn K (.ref cW)=true)
  (x1cZ:bq K cZ (some (.ref Uq))=true)
  (x2cZ:keepIn K (.ref cZ)=true)
  (x3cZ:i4 K cZ=true)
  (x4cZ:hasDictIn K cZ=true)
  (x5cZ:findIn K (.ref cZ) "__setattr__" = some (some (.builtin "object.__setattr__")))
  (x6cZ:findIn K (.ref cZ) "__getattribute__" = some (some (.builtin "BaseException.__getattribute__")))
  (x7cZ:findIn K (.ref cZ) "__getattr__" = some none)
  (ncZstart:findIn K (.ref cZ) "start" = some none)
  (ncZgoal:findIn K (.ref cZ) "goal" = some none)
  (x1cF:bq K cF none=true)
  (x2cF:keepIn K (.ref cF)=true)
  (x1cQ:bq K cQ none=true)
  (x2cQ:keepIn K (.ref cQ)=true)
  (w1cB:PySem.W.readsIn K cB (.type "type")=true)
  (w2cB:PySem.W.findCls K (.ref cB) (.type "type") "__init__" = some (.val (.ref NQ)))
  (w3cB:PySem.W.specialIn K (.ref cB) "__getattribute__" = some (some (.builtin "type.__getattribute__")))
  (kk1:kitOne K (.type "int") (.type "int")=some true)
  (kk2:kitOne K (.type "int") (.type "bool")=some false)
  (kk3:kitOne K (.type "bool") (.type "int")=some true)
  (kk4:kitOne K (.type "bool") (.type "bool")=some true)
  (kk5:kitOne K (.type "NoneType") (.type "int")=some false)
  (kk6:kitOne K (.type "str") (.type "str")=some true)
  (kk7:kitOne K (.type "int") (.type "str")=some false)
  (kk8:kitOne K (.type "tuple") (.type "tuple")=some true)
  (kk9:kitOne K (.type "list") (.type "list")=some true)
  (eQ:PySem.W.exmOne K (.ref cQ) (.ref cQ)=some true)
  (z0:nsIn K mainGlobals "isinstance" = some none)
  (z1:nsIn K mainGlobals "int" = some none)
  (z2:nsIn K mainGlobals "bool" = some none)
  (z3:nsIn K mainGlobals "len" = some none)
  (z4:nsIn K mainGlobals "enumerate" = some none)
  (z5:nsIn K mainGlobals "tuple" = some none)
  (z6:nsIn K mainGlobals "range" = some none)
  (z7:nsIn K mainGlobals "list" = some none)
  (z8:nsIn K mainGlobals "all" = some none)
  (z9:nsIn K mainGlobals "abs" = some none)
  (z10:nsIn K mainGlobals "str" = some none)
  (z11:nsIn K mainGlobals "max" = some none)
  (z12:nsIn K mainGlobals "sum" = some none)
  (hc0:FV=Value.ref cc)
  (lc0:K.lookup cc=some ⟨oTb,dTb, .fields Yw,sTb⟩)
  (hv0:Yw[11]? = some (Value.ref Tb))
  : ∃ (fd:FuncData)(c Tb:Addr),PySem.W.tabIn K "law" = some (c,Tb)/\(∀ (s:Shared)(v:Value),BindsTo s fd ⟨[v],[]⟩ [("_law_script",v)])/\∀ base:Heap,K.In base->base.Ns mainGlobals mg->Fb mg base c Tb->zP l.prog w K mg base aB 10 fa fd ["_law_script"] (pB K Tb):=by
 have e:=DK.symm.trans (mg_of X G a26)
 cases e
 have T:eO mg:=⟨mg_none_of X G z0,mg_none_of X G z1,mg_none_of X G z2,mg_none_of X G z3,mg_none_of X G z4,mg_none_of X G z5,mg_none_of X G z6,mg_none_of X G z7,mg_none_of X G z8,mg_none_of X G z9,mg_none_of X G z10,mg_none_of X G z11,mg_none_of X G z12⟩
 obtain⟨d1,H1⟩:=h1
 obtain⟨d2,H2⟩:=h2
 obtain⟨d3,H3⟩:=h3
 obtain⟨d4,H4⟩:=h4
 obtain⟨d5,H5⟩:=h5
 obtain⟨d6,H6⟩:=h6
 obtain⟨d7,H7⟩:=h7
 obtain⟨d8,H8⟩:=h8
 obtain⟨d9,H9⟩:=h9
 obtain⟨d10,Fw⟩:=h10
 obtain⟨d11,P9⟩:=h11
 obtain⟨d12,PB⟩:=h12
 obtain⟨d13,PD⟩:=h13
 obtain⟨d14,PF⟩:=h14
 obtain⟨d15,PH⟩:=h15
 obtain⟨d16,PJ⟩:=h16
 obtain⟨d17,HL⟩:=h17
 obtain⟨d18,DN⟩:=h18
 obtain⟨d19,PK⟩:=h19
 obtain⟨d20,PL⟩:=h20
 obtain⟨d21,PM⟩:=h21
 obtain⟨d22,PN⟩:=h22
 obtain⟨d23,PQ⟩:=h23
 obtain⟨d24,PR⟩:=h24
 obtain⟨d25,PU⟩:=h25
 obtain⟨d27,PV⟩:=h27
 obtain⟨d28,UW⟩:=h28
 obtain⟨d29,Ol⟩:=h29
 obtain⟨d30,JY⟩:=h30
 obtain⟨d31,JZ⟩:=h31
 obtain⟨d32,UX⟩:=h32
 obtain⟨d33,UY⟩:=h33
 obtain⟨d34,UZ⟩:=h34
 obtain⟨d35,Va⟩:=h35
 obtain⟨d36,Om⟩:=h36
 obtain⟨d37,PY⟩:=h37
 obtain⟨d38,Vb⟩:=h38
 obtain⟨d39,PZ⟩:=h39
 obtain⟨d40,Vc⟩:=h40
 obtain⟨d41,Oo⟩:=h41
 obtain⟨d42,Jg⟩:=h42
 obtain⟨d43,Vd⟩:=h43
 obtain⟨d44,Jh⟩:=h44
 obtain⟨d45,Ve⟩:=h45
 obtain⟨d46,Vf⟩:=h46
 obtain⟨d47,Vg⟩:=h47
 obtain⟨d48,Oq⟩:=h48
 obtain⟨d49,Vh⟩:=h49
 obtain⟨d52,Vi⟩:=h52
 obtain⟨d53,Vj⟩:=h53
 obtain⟨d54,Vk⟩:=h54
 obtain⟨d55,Vl⟩:=h55
 obtain⟨d56,Vm⟩:=h56
 obtain⟨d57,Vn⟩:=h57
 obtain⟨d58,Vo⟩:=h58
 obtain⟨d59,Vp⟩:=h59
 obtain⟨d60,Vq⟩:=h60
 obtain⟨d61,Ot⟩:=h61
 obtain⟨d62,Vr⟩:=h62
 obtain⟨d63,Vs⟩:=h63
 obtain⟨d64,Vt⟩:=h64
 obtain⟨d65,Ji⟩:=h65
 obtain⟨d66,Vu⟩:=h66
 obtain⟨d67,Jj⟩:=h67
 have F26:=j7 (st:=gG) l26 c26 k26
 have F50:DW K "__init__" "Yard.__init__" ij HK _:=⟨⟨_,_,_,_,_,_,_,_,_,_,rfl,l50,c50⟩,k50⟩
 have F51:DW K "post" "Yard.post" gF JX _:=⟨⟨_,_,_,_,_,_,_,_,_,_,rfl,l51,c51⟩,k51⟩
 have L:kL K ⟨cN,cT,cR,cL⟩:=⟨⟨p1cL,p2cL,p3cL,p4cL⟩,ncLplaces,ncLlanes⟩
 have xT:gi K cT:=⟨x3cT,x4cT,x5cT,x6cT,x7cT⟩
 have xR:gi K cR:=⟨x3cR,x4cR,x5cR,x6cR,x7cR⟩
 have xE:gi K cE:=⟨x3cE,x4cE,x5cE,x6cE,x7cE⟩
 have xZ:gi K cZ:=⟨x3cZ,x4cZ,x5cZ,x6cZ,x7cZ⟩
 have Z:vc K:=⟨kk1,kk2,kk3,kk4,kk5⟩
 have ZS:MG K:=⟨kk6,kk7,kk8⟩
 have E:Exc K mg ⟨cN,cT,cR,cL⟩ Um Uo _ _:=⟨(mg_of X G gcN),x1cN,x2cN,(mg_of X G gcT),x1cT,x2cT,xT,ncTmany,UX.m.fn,UX.F,UX.b,(mg_of X G gcR),x1cR,x2cR,xR,ncRlane,UY.m.fn,UY.F,UY.b⟩
 have B:Rl K mg ⟨cB,cD,cE⟩ NQ Up _ _:=⟨⟨p1cB,p2cB,p3cB,p4cB⟩,ncBland,⟨p1cD,p2cD,p3cD,p4cD⟩,ncDland,ncDentries,(mg_of X G gcB),⟨w1cB,w2cB,w3cB,Om.m.kp⟩,Om.b,(mg_of X G gcE),x1cE,x2cE,xE,ncErow,UZ.m.fn,UZ.F,UZ.b⟩
 have BN:Sn K mg ⟨cB,cO⟩ NQ _:=⟨⟨p1cO,p2cO,p3cO,p4cO⟩,ncOland,ncOentries,(mg_of X G gcB),⟨w1cB,w2cB,w3cB,Om.m.kp⟩,Om.b⟩
 have M:L1 K ⟨cN,cT,cR,cL⟩ Uk Ul _ _:=⟨JY.m,JZ.m,JY.b,JZ.b⟩
 have ME:xj K ⟨cN,cT,cR,cL⟩ P8 _:=⟨Ol.m,Ol.b⟩
 have Y:∀ ex:List Addr,iD K ⟨cJ,cA,cH,ex⟩:=fun _=>⟨⟨p1cJ,p2cJ,p3cJ,p4cJ⟩,ncJtable,ncJrooms,ncJlanes,ncJletters,ncJlies,ncJdone,⟨p1cH,p2cH,p3cH,p4cH⟩,ncHstart,ncHgoal,ncHlength,ncHword,ncHgone,ncHway,⟨⟨p1cA,p2cA,p3cA,p4cA⟩,ncArights,ncAreturning,ncAholder,ncApieces⟩⟩
 have eX:vk K mg "NoRooms" cM:=⟨(mg_of X G gcM),x1cM,x2cM⟩
 have X1:vk K mg "NoPlace" cP:=⟨(mg_of X G gcP),x1cP,x2cP⟩
 have X2:vk K mg "NoLength" cG:=⟨(mg_of X G gcG),x1cG,x2cG⟩
 have X3:vk K mg "NoWord" cW:=⟨(mg_of X G gcW),x1cW,x2cW⟩
 have X5:vk K mg "Full" cF:=⟨(mg_of X G gcF),x1cF,x2cF⟩
 have X4:W0 K mg cZ Uq _:=⟨(mg_of X G gcZ),x1cZ,x2cZ,xZ,ncZstart,ncZgoal,Va.m.fn,Va.F,Va.b⟩
 have XM:LA K mg cQ:=⟨(mg_of X G gcQ),x1cQ,x2cQ,eQ⟩
 have Tv:=pi (kV:=Oa) (doc:=Ob) (pm:=Oc) (cdv:=Je) (ct:=Od) (an:=NU) d50 rfl
 have bp0:=n9 (kV:=Oe) (doc:=Of) (pm:=Og) (cdv:=Jf) (ct:=Oh) (an:=NV) d51 rfl
 have Mi:Mk K cL Uj:=⟨p5cL,PV.m.at_,PV.m.fn,p6cL⟩
 have Mt:Mk K cD Ur:=⟨p5cD,PY.m.at_,PY.m.fn,p6cD⟩
 have Mn:Mk K cO Us:=⟨p5cO,PZ.m.at_,PZ.m.fn,p6cO⟩
 have My:Mk K cJ HK:=⟨p5cJ,a50,i50,p6cJ⟩
 have Ma:Mk K cA Ut:=⟨p5cA,Oo.m.at_,Oo.m.fn,p6cA⟩
 have Mh:Mk K cH Ux:=⟨p5cH,Oq.m.at_,Oq.m.fn,p6cH⟩
 have Ml:Lm K ⟨cN,cT,cR,cL⟩ Yo P8 Uk Ul _ _ _ _:=⟨UW.m,UW.b,Ol.m,Ol.b,JY.m,JY.b,JZ.m,JZ.b⟩
 refine⟨fnOf "law" "law" (aZ gG) (aF gG) (ah gG) .none NW NX NY NR FV NZ,cc,Tb,xH a26 l26 hc0 lc0 hv0,fun s v => .of_eq rfl,fun base _ _ NS=>?_⟩
 have Er:=hc0
 have Vv:∀ base:Heap,zP l.prog w K mg base aB 2 f4 _ _ _:=fun base=>yM H4.F T H3.m H3.F H3.b
 obtain⟨fw,dw,WG⟩:=both (P:=fun b f d=>Wy K (TC ⟨cB,cD,cE⟩ ⟨cB,cO⟩ b) f d (JJ l.prog w ⟨cB,cD,cE⟩ ⟨cB,cO⟩ b)/\∀ base:Heap,zP l.prog w K mg base aB 3 f d ["self", "place", "goal", "came"] (dY (JJ l.prog w ⟨cB,cD,cE⟩ ⟨cB,cO⟩ b)))
  ⟨⟨⟨p1cO,p2cO,p3cO,p4cO⟩,ncOland,Vc.m,Vc.b,fun H H' x n wy h k=>JL.keep (n:=n) (wy:=wy) h k⟩,fun base=>ua Vc.F BN H4.m H4.k H4.b (Vv base)⟩ ⟨⟨⟨p1cD,p2cD,p3cD,p4cD⟩,ncDland,Vb.m,Vb.b,fun H H' x n wy h k=>Cw.keep (n:=n) (wy:=wy) h k⟩,fun base=>nY (ub Vb.F B H4.m H4.k H4.b (Vv base))⟩
 have Wb:=fun b=>(WG b).1
 have Jk:∀ base:Heap,XG l.prog w K mg base ⟨cN,cT,cR,cL⟩ ⟨cB,cD,cE⟩ ⟨cB,cO⟩ ⟨cJ,cA,cH,[]⟩ cM Ua Ub Uc Ue HK Ud Ug Uy U4 f1 f2 Uh UB UA _ _ _ _ _ _ _ _ _ _ _ _ _ _:=fun base=>by
  have Gm:=Vv base
  have Gb:=fun b=>(WG b).2 base
  have Gw:zP l.prog w K mg base aB 2 f7 _ _ _:=qO H7.F T H6.m H6.F H6.b
  have Vw:zP l.prog w K mg base aB 2 f7 _ _ _:=oM H7.F T Z H6.m H6.F H6.b
  have GW:zP l.prog w K mg base aB 1 f6 _ _ _:=kd H6.F T Z
  have G2:zP l.prog w K mg base aB 3 f9 _ _ _:=yF H9.F H7.m H7.k H7.b Gw
  have Gi:zP l.prog w K mg base (dS l.prog w) 4 Uj _ _ _:=wz PV.F T L E H7.m H7.k H7.b Gw H9.m H9.k H9.b G2 (mg_of X G mp) (mg_of X G ml)
  have Go:zP l.prog w K mg base aB 2 f8 _ _ _:=yK H8.F T H6.m H6.F H6.b
  have Gf:zP l.prog w K mg base aB 4 Yg _ _ _:=w8 Fw.F T L M H9.m H9.k H9.b G2 H8.m H8.k H8.b Go (ue JY.F T L) (pQ JZ.F T L)
  have G1:zP l.prog w K mg base aB 1 NQ _ _ _:=yG Om.F
  have Yx:zP l.prog w K mg base aB 1 f5 _ _ _:=yH H5.F
  have Gt:zP l.prog w K mg base (dS l.prog w) 5 Ur _ _ _:=vX PY.F T B G1 Fw.m Fw.k Fw.b Gf H5.m H5.k H5.b Yx
  have Ge:zP l.prog w K mg base aB 1 P8 _ _ _:=yV Ol.F L
  have Gh:zP l.prog w K mg base aB 2 Yk _ _ _:=yT PH.F T L Ml (uc UW.F L) (pQ JZ.F T L)
  have Gnl:zP l.prog w K mg base aB 2 Yl _ _ _:=MS PJ.F T L Ml Ge (ue JY.F T L)
  have Gn:zP l.prog w K mg base aB 3 Us _ _ _:=wk PZ.F T L BN G1 PH.m PH.k PH.b Gh PJ.m PJ.k PJ.b Gnl H5.m H5.k H5.b Yx
  have Tu:zP l.prog w K mg base (dS l.prog w) 3 Yh _ _ _:=ud PB.F T L eX H7.m H7.k H7.b Vw (mg_of X G mr)
  have R7:zP l.prog w K mg base aB 2 Yi _ _ _:=vW PD.F T H6.m H6.k H6.b GW
  have Yy:zP l.prog w K mg base aB 1 Ut _ _ _:=yQ Oo.F (Y []).L
  have Vx:zP l.prog w K mg base aB 1 Yp _ _ _:=wj Jg.F (Y []).L
  have Vy:zP l.prog w K mg base aB 1 Yq _ _ _:=uk Jh.F (Y []).L
  have Gpu:zP l.prog w K mg base (dS l.prog w) 2 Uu _ _ _:=yJ Vd.F (Y []).L XM Jg.m Jg.b Vx
  have Gpl:zP l.prog w K mg base (dS l.prog w) 1 Uv _ _ _:=vZ Ve.F (Y []).L XM
  have Gbr:zP l.prog w K mg base (dS l.prog w) 1 Uw _ _ _:=um Vf.F (Y []).L XM
  have Gtw:zP l.prog w K mg base aB 3 Yr _ _ _:=yP Vg.F T (Y []).L (mg_of X G gcA) Ma Oo.b Yy
  have Yz:zP l.prog w K mg base aB 1 Ux _ _ _:=yO Oq.F (Y [])
  have Gtx:zP l.prog w K mg base aB 3 Yt _ _ _:=yN Vh.F T (Y []) (mg_of X G gcH) Mh Oq.b Yz
  have Gy:∀ (b:Bool)(ex:List Addr),zP l.prog w K mg base (dS l.prog w) 4 HK _ _ _:=fun b ex=>yE F50 T L (Y ex) (Wb b) PB.m PB.k PB.b Tu (mg_of X G gcA) Ma Oo.b Yy
  have Gp:∀ (b:Bool)(ex:List Addr),zP l.prog w K mg base (dS l.prog w) 4 JX _ _ (oj K ⟨cN,cT,cR,cL⟩ (TC ⟨cB,cD,cE⟩ ⟨cB,cO⟩ b) (JJ l.prog w ⟨cB,cD,cE⟩ ⟨cB,cO⟩ b) ⟨cJ,cA,cH,ex⟩ ⟨cP,cG,cW,cZ,cF⟩):=fun b ex=>wc F51 T L (Y ex) (Wb b) (Gb b) H7.m H7.k H7.b Vw PD.m PD.k PD.b R7 (mg_of X G gcH) Mh Oq.b Yz (mg_of X G mh) (mg_of X G mk) X1 X2 X3 X4 X5
  have Gol:∀ ex:List Addr,zP l.prog w K mg base aB 4 U8 _ _ _:=fun ex=>wg Vs.F (Y ex) Vg.m Vg.b Gtw
  have Got:∀ ex:List Addr,zP l.prog w K mg base aB 4 U9 _ _ _:=fun ex=>wf Vt.F (Y ex) Vh.m Vh.b Gtx
  have O:∀ ex:List Addr,Own l.prog w K mg base ⟨cJ,cA,cH,ex⟩ cQ U8 U9 Uu _ _ _:=fun ex=>⟨Vs.m,Vs.b,Gol ex,Vt.m,Vt.b,Got ex,Vd.m,Vd.b,Gpu⟩
  have Gly:∀ ex:List Addr,zP l.prog w K mg base aB 1 U7 _ _ _:=fun ex=>yR Vr.F (Y ex)
  have Glg:∀ ex:List Addr,zP l.prog w K mg base aB 1 Yv _ _ _:=fun ex=>ui Vu.F T (Y ex)
  have Gen:∀ ex:List Addr,zP l.prog w K mg base aB 5 U6 _ _ _:=fun ex=>ul Ot.F (Y ex) (O ex)
  have Ggi:∀ ex:List Addr,zP l.prog w K mg base aB 6 U5 _ _ _:=fun ex=>w6 Vq.F (Y ex) (O ex) Ot.m Ot.b (Gen ex)
  have Gon:∀ b:Bool,zP l.prog w K mg base aB 4 OD _ _ _:=fun b=>yL P9.F L (Wb b) (Gb b) ME Ge
  have Gmi:∀ (b:Bool)(ex:List Addr),zP l.prog w K mg base aB 4 Uz _ _ (oq K ⟨cN,cT,cR,cL⟩ (TC ⟨cB,cD,cE⟩ ⟨cB,cO⟩ b) (JJ l.prog w ⟨cB,cD,cE⟩ ⟨cB,cO⟩ b) ⟨cJ,cA,cH,ex⟩):=fun b ex=>wn Vj.F (Y ex) (Wb b) (Gb b) Jg.m Jg.b Vx
  have Gwa:∀ (b:Bool)(ex:List Addr),zP l.prog w K mg base aB 5 Yu _ _ (jg K ⟨cN,cT,cR,cL⟩ (TC ⟨cB,cD,cE⟩ ⟨cB,cO⟩ b) (JJ l.prog w ⟨cB,cD,cE⟩ ⟨cB,cO⟩ b) ⟨cJ,cA,cH,ex⟩):=fun b ex=>qP Vn.F (Y ex) (Wb b) Jh.m Jh.b Vy P9.m P9.k P9.b (Gon b)
  have Gmo:∀ (b:Bool)(ex:List Addr),zP l.prog w K mg base aB 6 U0 _ _ (om K ⟨cN,cT,cR,cL⟩ (TC ⟨cB,cD,cE⟩ ⟨cB,cO⟩ b) (JJ l.prog w ⟨cB,cD,cE⟩ ⟨cB,cO⟩ b) ⟨cJ,cA,cH,ex⟩):=fun b ex=>wm Vk.F (Y ex) (Wb b) Jh.m Jh.b Vy Vn.m Vn.b (Gwa b ex) Jg.m Jg.b Vx
  have Gml:∀ (b:Bool)(ex:List Addr),zP l.prog w K mg base aB 2 U1 _ _ _:=fun b ex=>uf Vl.F (Y ex) L (Wb b) Jh.m Jh.b Vy ME Ge
  have Gmb:∀ (b:Bool)(ex:List Addr),zP l.prog w K mg base aB 1 U2 _ _ (jh K ⟨cN,cT,cR,cL⟩ (TC ⟨cB,cD,cE⟩ ⟨cB,cO⟩ b) (JJ l.prog w ⟨cB,cD,cE⟩ ⟨cB,cO⟩ b) ⟨cJ,cA,cH,ex⟩):=fun b ex=>qR Vm.F (Y ex)
  have MM:∀ (b:Bool)(ex:List Addr),RP l.prog w K mg base ⟨cN,cT,cR,cL⟩ (TC ⟨cB,cD,cE⟩ ⟨cB,cO⟩ b) (JJ l.prog w ⟨cB,cD,cE⟩ ⟨cB,cO⟩ b) ⟨cJ,cA,cH,ex⟩ Uz U0 U1 U2 _ _ _ _:=fun b ex=>⟨Vj.m,Vj.b,Gmi b ex,Vk.m,Vk.b,Gmo b ex,Vl.m,Vl.b,Gml b ex,Vm.m,Vm.b,Gmb b ex⟩
  have Gms:∀ (b:Bool)(ex:List Addr),zP l.prog w K mg base aB 7 Uy _ _ _:=fun b ex=>ug Vi.F T (Y ex) (Wb b) (MM b ex)
  have Gim:zP l.prog w K mg base aB 2 Yj _ _ _:=wx PF.F T ZS H6.m H6.k H6.b GW
  have Glk:∀ (b:Bool)(ex:List Addr),zP l.prog w K mg base aB 7 U3 _ _ _:=fun b ex=>wr Vo.F T (Y ex) (Wb b) (MM b ex) PF.m PF.k PF.b Gim H7.m H7.k H7.b Vw
  have DM:∀ (b:Bool)(ex:List Addr),WU l.prog w K mg base ⟨cN,cT,cR,cL⟩ (TC ⟨cB,cD,cE⟩ ⟨cB,cO⟩ b) (JJ l.prog w ⟨cB,cD,cE⟩ ⟨cB,cO⟩ b) ⟨cJ,cA,cH,ex⟩ cQ U3 U5 U6 Uv Uw U7 _ _ _ _ _ _:=fun b ex=>⟨Vo.m,Vo.b,Glk b ex,Vq.m,Vq.b,Ggi ex,Ot.m,Ot.b,Gen ex,Ve.m,Ve.b,Gpl,Vf.m,Vf.b,Gbr,Vr.m,Vr.b,Gly ex⟩
  have Gdo:∀ (b:Bool)(ex:List Addr),zP l.prog w K mg base (dS l.prog w) 8 U4 _ _ _:=fun b ex=>MH Vp.F (Y ex) L (Wb b) XM (O ex) (DM b ex) ME Ge
  have Vz:∀ ex:List Addr,zP l.prog w K mg base aB 1 UB _ _ _:=fun ex=>qQ Jj.F T (Y ex)
  have Gc:zP l.prog w K mg base aB 1 Ua _ _ _:=pR HL.F T
  have Qa:zP l.prog w K mg base aB 1 Ub _ _ _:=uh DN.F
  have Gln:zP l.prog w K mg base aB 2 Ym _ _ _:=uj PK.F T DN.m DN.k DN.b Qa
  have Grw:zP l.prog w K mg base aB 2 Yn _ _ _:=vY PL.F T DN.m DN.k DN.b Qa
  have Gtb:zP l.prog w K mg base aB 7 Uc _ _ _:=wq PM.F ⟨HL.m,HL.k,HL.b,Gc,PK.m,PK.k,PK.b,Gln,(mg_of X G gcL),Mi,PV.b,Gi,(mg_of X G gcO),Mn,PZ.b,Gn,(mg_of X G gcD),Mt,PY.b,Gt,PL.m,PL.k,PL.b,Grw⟩
  have Gbe:∀ b:Bool,zP l.prog w K mg base aB 4 Ud _ _ _:=fun b=>uo PN.F T L (Wb b) (Gb b)
  have Glr:∀ b:Bool,zP l.prog w K mg base aB 2 Ue _ _ _:=fun b=>qS PQ.F T L (Wb b) DN.m DN.k DN.b Qa
  have Glp:∀ (b:Bool)(ex:List Addr),zP l.prog w K mg base aB 5 Ug _ _ _:=fun b ex=>wb PR.F T (Y ex) (Wb b) ⟨a51,i51,k51⟩ bp0 (Gp b ex)
  have Jl:∀ ex:List Addr,zP l.prog w K mg base aB 1 UA _ _ _:=fun ex=>ww Ji.F (Y ex)
  have Gmm:∀ (b:Bool)(ex:List Addr),zP l.prog w K mg base aB 2 f2 _ _ _:=fun b ex=>wo H2.F T L (Y ex) (Wb b) Jj.m Jj.b (Vz ex) Ji.m Ji.b (Jl ex)
  have Gls:∀ ex:List Addr,zP l.prog w K mg base aB 2 Uh _ _ _:=fun ex=>wu PU.F T (Y ex) Jj.m Jj.b (Vz ex) Ji.m Ji.b (Jl ex) Vu.m Vu.b (Glg ex)
  exact⟨HL.m,HL.k,HL.b,Gc,DN.m,DN.k,DN.b,Qa,PM.m,PM.k,PM.b,Gtb,PQ.m,PQ.k,PQ.b,Glr,(mg_of X G gcJ),My,Tv,Gy,PN.m,PN.k,PN.b,Gbe,PR.m,PR.k,PR.b,Glp,Vi.m,Vi.b,Gms,Vp.m,Vp.b,Gdo,H1.m,H1.k,H1.b,H2.m,H2.k,H2.b,Gmm,PU.m,PU.k,PU.b,Gls,Jj.m,Jj.b,Vz,Ji.m,Ji.b,Jl⟩
 refine yS (c:=⟨cN,cT,cR,cL⟩) (ts:=⟨cB,cD,cE⟩) (tn:=⟨cB,cO⟩) (ys:=⟨cJ,cA,cH,[]⟩) (nr:=cM) F26 Er NS T L (Y []) Wb (Jk base) (fun zY=>pR HL.F T) (fun zY=>uh DN.F) fun zY pk la dp S Ok hp bp Gp b ex=>yI H1.F T (Y ex) (Wb b) (Jk zY).mm (Jk zY).bm (fun ex=>(Jk zY).Gm b ex) (Jk zY).md (Jk zY).bd (fun ex=>(Jk zY).Gd b ex) hp bp Gp
end
theorem walk {l:PySem.W.OpenLaw}{q:Program}{loose:List Str}{XP:(Str->Option Value)->Heap->Prop}{YP:World->Heap->Prop}{d:DefRec}{K:Params->Frag}(hn:l.most=some 63)(K6:d.params.defaults=[])
  (hY:∀ (w:World)(h:Heap),YP w h->(K w.params).In h) {dd:DefRec} (E7:(PyProof.Rows.recsOf q).find? (fun e=>e.name == ("law":Str))=some dd) (GG:∀ p,PySem.W.noTabs (K p)=true)
  (F:∀ (w:World)(mg:Str->Option Value)(fa:Addr)(h:Heap),(K w.params).In h->h.Ns mainGlobals mg->mg d.name=some (.ref fa) ->
   ∃ (fd:FuncData)(c Tb:Addr),PySem.W.tabIn (K w.params) "law" = some (c,Tb)/\(∀ (s:Shared)(u:Value),BindsTo s fd ⟨[u],[]⟩ [("_law_script",u)])/\∀ base:Heap,(K w.params).In base->base.Ns mainGlobals mg->Fb mg base c Tb->zP l.prog w (K w.params) mg base aB 10 fa fd ["_law_script"] (pB (K w.params) Tb)) :
  PySem.W.WalkO q loose XP YP l.row.toRowW d [] (fun f vs=>PySem.call f vs) :=
 L2.E8 (n:=63) (k:=10) (x := "_law_script") (CX:=fun _=>aB) (sp:=fun w Tb=>pB (K w.params) Tb) hn (by decide) K6 ⟨rfl,by decide,by decide⟩ hY E7 GG F (fun _ _ a ns Tb hl hT hS=>⟨a,ns,rfl,hS,hl,hT,fun _=>rfl⟩) fun _ _ _ _ _ z=>z
end K62
structure PySem.W.Fast:Prop where
 (tw2927157516228424973 tw15745418664617790496 tw6497202779320435269 tw14057691273135712572 tw6053361607350405094 tw8967354466873705695 tw4662778318720409633 tw3987947191196655785 tw202910254194556865 tw668998094397795773 tw7738767200250126166 tw3341199409502208913 tw12967314126530043104 tw10404496282192313571 tw8643844475034558405 tw8013316644801028751 tw11491661999957686688 tw7131367334712755324 tw3878294481333726144 tw8953019843606442918 tw14992719509278939458 tw343963464579902967 tw2592191335711921939 tw10726827767555114985 tw3021306323354291520 tw10658493079801008976 tw7061384873270521263 tw265477711701712882 tw77301974552461556 tw13288907754232218430 tw17770242232248774294 tw13771105956671939765 tw17721415777890335282 tw10365754331951744502 tw608031351341091743 tw11126933023819632926 tw3991814312025643334 tw6016396605941125494 tw10204213292744596339 tw17403900656355884854 tw9876265520202306165 tw15810441235604058010 tw328812973175053761 tw3365509282100234146 tw7819788581302819709 tw329473006563918401 tw16503680441181448842 tw10296371758568998897 tw13755652305353354202 tw5096630692013742991 tw4152753073528207838 tw5187952872290373244 tw13406672324923492107 tw10151104415691215253 tw8681338127869392700 tw13100481667411809512 tw5005868394174471461 tw4968841986274354488 tw5577877630904695028 tw16649691469624227250 tw8473201654232125251 tw3400568300734087781 tw17645405260194701858 tw12167502121033548651 tw12183899878708384142 tw4236242864090329691 tw17305156830760787838 tw15521407016364731135 tw11620457061973031501 tw14176273226692218892 tw10202081980398668758 tw12725130559176918328 tw10458303800691147108 tw7356184583045572968 tw15745946710954168544 tw10511462950335067820 tw11946124263795510560 tw9593451087271734071 tw16667111422769328636 tw11159855741449508112 tw4063291215007116488 tw9625170115165888066 tw2114656431966679862 tw5210033639975695792 tw4993239141014158490 tw7858718880412285540 tw13671820342824591318 tw9885988191202312296 tw3352981693849835910 tw3144818676816158904 tw13297677444359712462 tw1822844745932180177 tw4509945187250311711 tw18075283021035826529 tw10951223051876206812 tw13748021714455279266 tw6216661700134796683 tw16425542193832878938 tw75330998266232349 tw12240858071815336779 tw10864260685950917565 tw10904625203950014775 tw12836151495627637882 tw1831934007104854308 tw12153587057410301831 tw13102068784404766408 tw4366818968240330476 tw18034928994199802645 tw9960503634887385861 tw2022199046764367567 tw14575339199118113480 tw1961176950904799975 tw15071639291940737052 tw13172952167205523959 tw13198181061865928136 tw7700737040845372702 tw11610917154480140692 tw2544789308351288925 tw7473525804125553245 tw14547197645351735683 tw11159713727644051328 tw16241819243504490729 tw11171461505123293689 tw8387403533743391543 tw14300671033850252163 tw8527756712117470817 tw7000878147730757974 tw15154292173314810184 tw7192978044904074622 tw12951508284664516188 tw15650222115553556137 tw5249016684440842971 tw10623547109634604443 tw12278297937862585410 tw5801025343903848478 tw8381581347589407536 tw10352970329890349875 tw2050059757484313392 tw18185459062222309369 tw1645023161498717624 tw9163245892436959284 tw11874461732524249999 tw11059271268025431162 tw3108930235345321026 tw5019763688246736067 tw9531347582897235087 tw4695590906795889165 tw6819660251274654078 tw13484265721952214972 tw5430505623337959954 tw437190618817158591 tw7311438615849028801 tw10543117436119844027 tw3858196610878117102 tw2648048561925164631 tw8860993856535650326 tw4045938115656445711 tw12790415854775989230 tw15990161936802168091 tw7372401245550714751 tw12425352813270172688 tw275875609652397860 tw2191545764581173053 tw7527671373495730848 tw8562609792704580059 tw3072327885309779236 tw5590745522007132455 tw279504954002834990 tw48223921355974115 tw6346999735391295013 tw17280234373686636785 tw1273523575625985336 tw5864498349827780624 tw4792256025348847394 tw4398714622169532194 tw9981331502295788049 tw13785322800586528792 tw15952446289298489921 tw11428397690834725385 tw12317308815980884139 tw17396597350616765013 tw256255442122820991 tw17167117643396890089 tw10211158917726985710 tw10489483349139557532 tw11375039786720136957 tw4127146669762987157 tw1281594471100584703 tw9700284793455990044 tw4307758423361316005 tw3009023808853502653 tw17995104997835053248 tw425589198175963970 tw3418420104699316570 tw13014280575258621846 tw18286745805056003758 tw11150159999481098974 tw8377023021820795385 tw15299361696304758262 tw11508466682290265264 tw14546547272454545497 tw5366149818396125444 tw5142193964344235119 tw8147101424914230647 tw9315796996796831805 tw13394294922769343357 tw1034114548326237405 tw12126335073137731881 tw2369263675189816160 tw16790701218985230555 tw12840750526340746523 tw6825178808819366651 tw13565409553340972508 tw1085379387168078593 tw5410572735137546688 tw15348781315401670654 tw11601945799368406852 tw951592316258228143 tw16972303618213188391 tw854491778893958214 tw13491339934201499362 tw2481524275480022232 tw126564323387301169 tw1214101169195345597 tw15690701478679254267 tw14145749841189209679 tw12398311858017017348 tw16710387254221049092 tw8340823082420960764 tw8702421431122438988 tw1721668300356674807 tw13867836193157714257 tw5550722099078271743 tw15401598433823368631 tw4228385839060831073 tw5070222581475970609 tw15263716269644209108 tw8091870931683938362 tw11495796346895901777 tw875070605611328244 tw3416295264834432444 tw2365576198705919795 tw17311343058112571259 tw14400091984781944618 tw6520274719344247683 tw14984825513654932451 tw10326121633388782382 tw5760768529323365009 tw2532724704728418557 tw8748958220078478115 tw15807927949820329908 tw11159117002946540295 tw10493825559983687993 tw7846542917194499651 tw7996648999740628433 tw9339560678022593660 tw15930697523938877616 tw2872518642298278506 tw14234307356824271860 tw27261358541154429 tw15893566818147878088 tw14091620823160028294 tw6520622408293036497 tw2811384954833794155 tw7438975108039508029 tw12074638943413557212 tw3247055932459749447 tw7121643086743729962 tw2282929872055130983 tw18085870681360976897 tw6506076624806700061 tw3491073087062811747 tw3219218379758857723 tw2466526304256300146 tw17851527346384010711 tw10902767540036700710 tw1074943103709986729 tw9344330863443677699 tw8727872748939737007 tw14358561790797256281 tw6738113874656110839 tw1036170453998833578 tw4940075567704347997 tw15561866562663713305 tw8079785123329287487 tw7445439031868968914 tw322132494765206144 tw2629982000263394253 tw2854086428544623690 tw45199660693834665 tw11983240078965910925 tw18268360344291143200 tw17705426644243092438 tw8639405713457706423 tw14597853919489178910 tw7000620139177848531 tw2224355512650749334 tw6619886025063273681 tw15192176925903127662 tw7266599549609614613 tw13829209867827944818 tw18270155982372995449 tw8496419807267078824 tw3826213410621156537 tw17567430289269939984 tw9206788095768402318 tw7818647632871127755 tw2916126176618161951 tw17774336251361567774 tw3581726640405026504 tw11653104719994637002 tw11375932726609695931 tw11245897652234883898 tw384431185658120536 tw2495365201339113381 tw8345724223433189113 tw12803622364003655798 tw10856736731401949228 tw13623251549613175509 tw1646788084292546792 tw5324084713358839079 tw2773465514008862016 tw14395808597216776661 tw13214246328171578970 tw716294992100911180 tw15351899581109010654 tw6200583347477128458 tw15658870000477558662 tw5927453573571133020 tw10803960541331458347 tw5495833142904756936 tw5522229560341221411 tw11584450654324191387 tw2783318584540004071 tw993716533487221422 tw4886403095468890047 tw15162360018625471044 tw14459767969009860020 tw10053482720587305996 tw17134979127313664077 tw10622774836587318321 tw10337520395930642481 tw8093787957366917330 tw2667966358816560844 tw869822192795269454 tw9318783967277366204 tw196297519815389463 tw14380557963940259571 tw1388304538233814617 tw12555662385960649374 tw7435330737232065838 tw7710566757542648988 tw3048071235679206753 tw9291958904763759229 tw892912691263506097 tw15088605701853995581 tw10778814631946108844 tw1395658954103578903 tw4064853574356340638 tw17418807513196870571 tw12978062606830253148 tw12426567566658675590 tw9387685948644848024 tw4785307460235259930 tw17990752426792554721 tw17478714270412822568 tw1663970269362288774 tw15155379253788905311 tw9446773604263050529 tw5016591520274374737 tw13338813183548977059 tw2295900394894508396 tw4549569224370545531 tw4602278635997239564 tw8316864243139947292 tw3687025087502154722 tw1990143556036732634 tw18437694569011975459 tw13199500395712142611 tw18057098375192719769 tw8189872688320942322 tw15068727843290795382 tw18163380486713147112 tw1522853855080947643 tw2497108538652738185 tw2025716780649334032 tw1757888786117093354 tw13642966327349035751 tw4262748223030067673 tw15548158190289559877 tw9156691483881386469 tw11241060398856726751 tw3590829883369073300 tw4119081390738293837 tw5187979183656478803 tw10841135518161144413 tw12625941939618066371 tw6695333176274284497 tw6031564066434599917 tw5756390591374467318 tw4206256706987268791 tw18212160072753372544 tw12359087023517709251 tw9537755377782590210 tw8326144708749189976 tw18004041558291129281 tw14321269416575181931 tw7024403328800744662 tw15690096855615482449 tw3309478873667102257 tw17229079370106986448 tw15138538860540306687 tw5539870574214149181 tw506484207089195114 tw3073409413753984615 tw1596442772249340113 tw2357821006068483084 tw9875119185485708501 tw5976550499432733890 tw2406998746138973715 tw13902601902299041932 tw7048822693603894251 tw9986092133002490910 tw2262046498608111098 tw1864457368484323808 tw15383445772401778051 tw460220497733647173 tw9934502982865240843 tw8209586358551579205 tw6875791202042474498 tw2493238599076843164 tw13111328879235090466 tw12336849520835736504 tw1157925888496122215 tw15682380623862767550 tw3953154190132059127 tw17636464152682613197 tw17248483128913443135 tw5673767292799101236 tw15019635541844269652 tw2438191317925978411 tw11687557431985240494 tw12065330036577037990 tw6980816144610409370 tw17943709809236262564 tw15445932229148342290 tw3457070104381644887 tw18047977978574510526 tw13656809186628230324 tw15177788816449173900 tw3225566746557276534 tw10181120708631450285 tw7935658719119207232 tw258190892781256774 tw18110908067866362627 tw16859531271408195037 tw13970756987903792265 tw6089267562292918488 tw7457420269025302366 tw16599480458024907697 tw3833911344517846704 tw3893636356182533137 tw12574361228864063183 tw3323103689505615968 tw13692926294060208807 tw2969228997207699584 tw18197162573518004809 tw17938972042292339775 tw17307167508523971228 tw17222782936323152632 tw11238655702283408639 tw12226488476933802704 tw9083238443433371409 tw15168201936763762732 tw2351961694386105589 tw1812476404749361423 tw16913742723729601591 tw7916977877049657008 tw6336853604656309074 tw5676649205141382081 tw5306543625865770720 tw5015986839750342349 tw3451406854699405169 tw16244305018848997979 tw13417003697911112587 tw13404990285365650162 tw11986883536214319624 tw11560655666606007041 tw5518535001871697758 tw5386325353743797767 tw4535986809307549207 tw10053753492601156641 tw2694507495717228623 tw16276797678239390544 tw18032762167152501123 tw1504449597711451312 tw10166144404160933731 tw3647409483170336187 tw17884769343016466917 tw17507634997896892912 tw9935614274781691798 tw9802198220749084164 tw6801964514019011602 tw5827828316539713564 tw15262814621477428666 tw11460562896420033206 tw14810181427852868478 tw8453720664127433180 tw7724744192858235144 tw6098959986596106675 tw5253352061563613345 tw515595209549854894 tw18429247623203978511 tw13856316894060330892 tw3882015308919899827 tw1052468136680437564 tw5858020022131175494 tw7744667962967512190 tw12945177436598074160 tw1073657790292590171 tw9957609891708435036 tw9544411018146909100 tw837332809640462619 tw6199527095476774821 tw4037136384959734994 tw4007045835127380260 tw17643541760773788278 tw15292141644952570676 tw1197632025448061251 tw11946793195865217846 tw1052618935005621897 tw1442659132482311769 tw17600974040815457896 tw8692924952605651210 tw9979324665060797733 tw7978671550825087055 tw7677139518941888176 tw684114859773921401 tw5218839814428872825 tw4710171083550372704 tw3124227352368613164 tw2389309570894555545 tw2084010317975582810 tw2023475213073251802 tw17971942335810369748 tw175172485098280035 tw17398579305449069 tw16646604106875522925 tw13737968911451439677 tw1364707586575247825 tw13633682410107435479 tw1275304698783101748 tw11029160020833039603 tw10905500686248650065 tw9835769738075369315 tw859979727922336825 tw858367612922849888 tw6325281406962663185 tw62775969410802106 tw4794198098898438089 tw4528942029857872822 tw4438455083306362704 tw4162659175428934354 tw3936761084564439142 tw2609839348899676578 tw2274388494976931695 tw2091901818248512447 tw18145624900317246338 tw16511672942243094495 tw16472725770338865045 tw15615149523479678791 tw14617712671253660680 tw12784046131657478219 tw14674034321553401104 tw190779618489690104 tw17445138110342625215 tw9612322990186929706 tw840948531517167144 tw7824938068677420662 tw6872300715851888135 tw5048296789295160236 tw2895428062571111103 tw15160328324407630322 tw13317288736546736037 tw1239217194414996886 tw117161994525432676 tw10854060029967155998 tw10671198996090141134 tw10151563708541321611 tw9646066854293307820 tw9076824513896555593 tw8479159305945550494 tw8370031566958509618 tw777344279368219732 tw6735661771226434375 tw3827204303658258005 tw3253628701809882831 tw17672648229863800386 tw16104008046494261257 tw15559976725439525641 tw15465105670379334713 tw13562608054846232013 tw11782384369981137123 tw1120703664119691272 tw11141214912065485138 tw11012410060680173211 tw10701395019532822757 tw1003555155672454845 tw8294550622921904062 tw1348990949837662549 tw9761756619009899835 tw9761058140413122922 tw964872764113112242 tw9645911839081295539 tw9468674543866535415 tw9310794816982387726 tw9292410993561946931 tw9161372185611998858 tw9122354408601195403 tw9027807784244657326 tw9017434945243482542 tw8990615735374924401 tw8862744803163827451 tw8807521922090891027 tw8756064718672667752 tw8666309520684304692 tw8654864052600276274 tw8598791861820374355 tw8557913072062672716 tw8423183213663391271 tw8356352465103411369 tw8349155972704370522 tw8186165093641523407 tw8039556636219148604 tw7908183486610220718 tw7906388190017362022 tw7835018107401809998 tw7824429177614411880 tw7811523624219694033 tw7811385674328306412 tw7773043430181519958 tw7654844469366861182 tw7645165753219226660 tw761820943378050789 tw7561125327497542769 tw7524725971644012224 tw7405915415229514816 tw7310822644982144887 tw7105033686243879939 tw7040040189450173976 tw6953694331125439182 tw6937084147104662179 tw6811028626775354914 tw6623500003962275598 tw6517131208499164520 tw6454170579404276694 tw615031718407739672 tw6108056955561583135 tw6073294903611379638 tw5953013982225182477 tw5916811732395778593 tw583893771819593828 tw5746659157061556721 tw559553033811819196 tw5593938489225759624 tw5073529712306917935 tw5052052154022748499 tw5040614133861103699 tw5006764950855090926 tw4879335812949279953 tw4586611985314905765 tw4543909604879413839 tw452374311500334536 tw4481754844278812999 tw4439630369194688834 tw4363499677103773630 tw4317161852971008781 tw4306353996422881283 tw429518313322437251 tw3877137472490731466 tw3799089952310387987 tw3656383107284816456 tw3541571998008397467 tw3525747533031894981 tw3468596412252729644 tw3338197607901127838 tw3336938378281930417 tw3322847222996608913 tw3264017697758456246 tw3206211730669169135 tw3107638822651714587 tw3030548699129923511 tw2999836126658862811 tw2916948796058959738 tw2817605061161352965 tw2735337154919824541 tw2439421549568780958 tw2313579720141813948 tw2225656003770093470 tw220901984622409935 tw2193294026697842708 tw21725001101925308 tw2134840070707946638 tw2129509018094681281 tw18385314965585902626 tw18310032093467017895 tw18269680914035942448 tw18210086912772636083 tw18199956270841704024 tw18129584541322121685 tw18074141447804372889 tw18066663497457663831 tw18051588026987148049 tw17954104168730872940 tw17942967334179864718 tw17896809228948972748 tw17891556732410398636 tw17890248626104110036 tw17857806807767922713 tw17657176967241401494 tw17566664308831589137 tw17562117157347208554 tw17258292801447517781 tw17254031009790537927 tw17222473525181061237 tw17197098862515349886 tw17194648153625685647 tw17184973627976002682 tw17169594302667631290 tw16793915705543959938 tw16792381706074192948 tw16753843619343472423 tw16739202120591539111 tw16719163060175485583 tw16696544179673295672 tw16537160578022805974 tw1645526981671244274 tw16215702207950796063 tw1615538021563002845 tw1612955418741115853 tw16007659207183157715 tw15710915113136951145 tw15702758798181684869 tw15615863108724334553 tw15516379889208137294 tw15425997772135445093 tw15067567346986444533 tw1485322388400197105 tw14606989815223686203 tw14591210357751183197 tw14410255828317573807 tw14240828940033262886 tw1421160571770626732 tw14049348958971768722 tw14000390957158588119 tw13849736720939723451 tw13837984558997140221 tw13764510810137373429 tw13705550845402537043 tw13694554108960089425 tw13555752909742838674 tw13467103878079749095 tw13423864894190590352 tw13402502342263993724 tw13368720006574742823 tw13356736159332406882 tw13263407875796716736 tw1323989375197007425 tw1320664898038679732 tw12850689068090215858 tw12788422223040225538 tw12652624146603483995 tw12641859936225596941 tw1245475661523487096 tw12402884668984912135 tw12290851996751529860 tw12279930514277496175 tw12135222677765245545 tw11931594688063231261 tw11500077611230728975 tw11425144363783961624 tw1140275010967298467 tw11061954488251545640 tw10955986363103625417 tw10883630327390171141 tw10788616441663069182 tw10604603369019858524 tw10584665826917928094 tw1047687648300000102 tw10424383331956552298 tw1042429500611745466 tw10414410174795862603 tw10381245730547026748 tw10299996348701785911 tw10256569493009589957 tw10216801142034833948 tw10088010299370565724 tw10035926497001278665 tw10009760836297782808:True)
open PySem PySem.W PyProof.Rows
set_option maxRecDepth 100000 in
set_option maxHeartbeats 0 in
theorem PySem.Challenge.cw_wormyard_k62_whole_every_run_ends_holds : PySem.Challenge.rw_wormyard_k62_whole_every_run_ends.Holds := by
 w_on;o_law;k_head; (case hw=>w_witness2)
 k_fill
 refine K62.walk (l:=PySem.Challenge.rw_wormyard_k62_whole_every_run_ends) rfl rfl (fun w h Y=>PySem.W.km_in_of Y) rfl (fun _=>by kernel_rfl) ?F
 case F =>
  intro w mg fa h KX G hmg
  refine' K62.all_mk KX G hmg ?Aa ?Ab ?Ac ?Ad ?Ae ?Af ?Ag ?Ah ?Ai ?Aj ?Ak ?Al ?Am ?An ?Ao ?Ap ?Aq ?Ar ?As ?At ?Au ?Av ?Aw ?Ax ?Ay ?Az ?Ba ?Bb ?Bc ?Bd ?Be ?Bf ?Bg ?Bh ?Bi ?Bj ?Bk ?Bl ?Bm ?Bn ?Bo ?Bp ?Bq ?Br ?Bs ?Bt ?Bu ?Bv ?Bw ?Bx ?By ?Bz ?Ca ?Cb ?Cc ?Cd ?Ce ?Cf ?Cg ?Ch ?Ci ?Cj ?Ck ?Cl ?Cm ?Cn ?Co ?Cp ?Cq ?Cr ?Cs ?Ct ?Cu ?Cv ?Cw ?Cx ?Cy ?Cz ?Da ?Db ?Dc ?Dd ?De ?Df ?Dg ?Dh ?Di ?Dj ?Dk ?Dl ?Dm ?Dn ?Do ?Dp ?Dq ?Dr ?Ds ?Dt ?Du ?Dv ?Dw ?Dx ?Dy ?Dz ?Ea ?Eb ?Ec ?Ed ?Ee ?Ef ?Eg ?Eh ?Ei ?Ej ?Ek ?El ?Em ?En ?Eo ?Ep ?Eq ?Er ?Es ?Et ?Eu ?Ev ?Ew ?Ex ?Ey ?Ez ?Fa ?Fb ?Fc ?Fd ?Fe ?Ff ?Fg ?Fh ?Fi ?Fj ?Fk ?Fl ?Fm ?Fn ?Fo ?Fp ?Fq ?Fr ?Fs ?Ft ?Fu ?Fv ?Fw ?Fx ?Fy ?Fz ?Ga ?Gb ?Gc ?Gd ?Ge ?Gf ?Gg ?Gh ?Gi ?Gj ?Gk ?Gl ?Gm ?Gn ?Go ?Gp ?Gq ?Gr ?Gs ?Gt ?Gu ?Gv ?Gw ?Gx ?Gy ?Gz ?Ha ?Hb ?Hc ?Hd ?He ?Hf ?Hg ?Hh ?Hi ?Hj ?Hk ?Hl ?Hm ?Hn ?Ho ?Hp ?Hq ?Hr ?Hs ?Ht ?Hu ?Hv ?Hw ?Hx ?Hy ?Hz ?Ia ?Ib ?Ic ?Id ?Ie ?If ?Ig ?Ih ?Ii ?Ij ?Ik ?Il ?Im ?In ?Io ?Ip ?Iq ?Ir ?Is ?It ?Iu ?Iv ?Iw ?Ix ?Iy ?Iz ?Ja ?Jb ?Jc ?Jd ?Je ?Jf ?Jg ?Jh ?Ji ?Jj
  case Aa|Ab|Ac|Ad|Ae|Af|Ag|Ah|Ai|Aj|Ak|Al|Am|An|Ao|Ap|Aq|Ar=>k_is
  case As|At|Au|Av|Aw|Ax|Ay|Az|Ba|Bb|Bc|Bd|Be|Bf|Bg|Bh|Bi|Bj|Bk|Bl|Bm|Bn|Bo|Bp|Bq|Br|Bs|Bt|Bu|Bv|Bw|Bx|By|Bz|Ca|Cb|Cc|Cd|Ce|Cf|Cg|Ch|Ci|Cj|Ck|Cl|Cm|Cn|Co|Cp|Cq|Cr|Cs|Ct|Cu|Cv|Cw|Cx|Cy|Cz|Da|Db|Dc|Dd|De|Df|Dg|Dh|Di|Dj|Dk|Dl|Dm|Dn|Do|Dp|Dq|Dr|Ds|Dt=>first |(refine' K62.mkT (by assumption) (by assumption) ?b ?a ?l ?c ?k;(case b=>first|exact fun _ _ _ _ _ _=>K62.len_of1 (fun _=>rfl)|exact fun _ _ _ _ _ _=>K62.len_of2 (fun _ _=>rfl)|exact fun _ _ _ _ _ _=>K62.len_of3 (fun _ _ _=>rfl)|exact fun _ _ _ _ _ _=>K62.len_of4 (fun _ _ _ _=>rfl)|exact fun _ _ _ _ _ _=>K62.len_of5 (fun _ _ _ _ _=>rfl));(case a=>k_is);(case l=>k_is);(case c=>k_is);(case k=>k_is))|(refine' K62.mkM ?b ?a ?l ?c ?k ?i;(case b=>first|exact fun _ _ _ _ _ _=>K62.len_of1 (fun _=>rfl)|exact fun _ _ _ _ _ _=>K62.len_of2 (fun _ _=>rfl)|exact fun _ _ _ _ _ _=>K62.len_of3 (fun _ _ _=>rfl)|exact fun _ _ _ _ _ _=>K62.len_of4 (fun _ _ _ _=>rfl)|exact fun _ _ _ _ _ _=>K62.len_of5 (fun _ _ _ _ _=>rfl));(case a=>k_is);(case l=>k_is);(case c=>k_is);(case k=>k_is);(case i=>k_is))|k_is
  case Du|Dv|Dw|Dx|Dy|Dz|Ea|Eb|Ec|Ed|Ee|Ef|Eg|Eh|Ei|Ej|Ek|El|Em|En|Eo|Ep|Eq|Er|Es|Et|Eu|Ev|Ew|Ex|Ey|Ez|Fa|Fb|Fc|Fd|Fe|Ff|Fg|Fh|Fi|Fj|Fk|Fl|Fm|Fn|Fo|Fp|Fq|Fr|Fs|Ft|Fu|Fv|Fw|Fx|Fy|Fz|Ga|Gb|Gc|Gd|Ge|Gf|Gg|Gh|Gi|Gj|Gk|Gl=>k_is
  case Gm=>kernel_rfl
  case Gn=>k_is
  case Go=>kernel_rfl
  case Gp=>k_is
  case Gq=>kernel_rfl
  case Gr|Gs|Gt|Gu|Gv=>k_is
  case Gw=>kernel_rfl
  case Gx=>k_is
  case Gy=>kernel_rfl
  case Gz|Ha|Hb|Hc|Hd=>k_is
  case He=>kernel_rfl
  case Hf=>k_is
  case Hg=>kernel_rfl
  case Hh|Hi|Hj|Hk|Hl=>k_is
  case Hm=>kernel_rfl
  case Hn=>k_is
  case Ho=>kernel_rfl
  case Hp=>k_is
  case Hq=>kernel_rfl
  case Hr=>k_is
  case Hs=>kernel_rfl
  case Ht=>k_is
  case Hu=>kernel_rfl
  case Hv=>k_is
  case Hw=>kernel_rfl
  case Hx|Hy|Hz|Ia|Ib|Ic=>k_is
  case Id=>kernel_rfl
  case Ie=>k_is
  case If=>kernel_rfl
  case Ig=>k_is
  case Ih|Ii|Ij=>first | k_is | kernel_rfl
  case Ik|Il|Im|In|Io|Ip|Iq|Ir|Is=>kit_is
  case It=>kts_exm
  case Iu|Iv|Iw|Ix|Iy|Iz|Ja|Jb|Jc|Jd|Je|Jf|Jg=>k_is
  case Jh=>exact rfl
  case Ji=>k_is
  case Jj=>exact rfl
